import PyProof.Rows.All
import Wide.All
import OpenK.AllK
import Wide.FinOn
import Lean
import PyProof.EqAt
import PyProof.EqKinds
import PyProof.TupleCall
import PyProof.Rows.EqDataRows
import PyProof.Rows.InDataRows
import PyProof.StrLawsRepr
import PyProof.AutoListH
import PySem.Challenge.RW_hatchwaits_k23_sums_of_stretches
def PySem.W.Fast.tw15207557579237115377:=0
def PySem.W.Fast.tw11161628566294169664:=0
def PySem.W.Fast.tw9532510980027136241:=0
def PySem.W.Fast.tw17013047779452700318:=0
def PySem.W.Fast.tw17921982052497168189:=0
def PySem.W.Fast.tw2534272314994073285:=0
def PySem.W.Fast.tw8336385083284076192:=0
def PySem.W.Fast.tw992787809376302894:=0
def PySem.W.Fast.tw4498859791354202096:=0
def PySem.W.Fast.tw24382299071368333:=0
def PySem.W.Fast.tw15936498641338272181:=0
def PySem.W.Fast.tw2925379735148429454:=0
def PySem.W.Fast.tw4642810844290411263:=0
def PySem.W.Fast.tw10896396583711436176:=0
def PySem.W.Fast.tw17818609737512271008:=0
def PySem.W.Fast.tw15306643416908016022:=0
def PySem.W.Fast.tw6131193664477158709:=0
def PySem.W.Fast.tw13531930576515081626:=0
def PySem.W.Fast.tw4380697563754250234:=0
def PySem.W.Fast.tw6870117145848874885:=0
def PySem.W.Fast.tw6913454190795052776:=0
def PySem.W.Fast.tw10738619642781530305:=0
def PySem.W.Fast.tw8895272009344507969:=0
def PySem.W.Fast.tw6361593340352317592:=0
def PySem.W.Fast.tw14403549950132542766:=0
def PySem.W.Fast.tw5551026833609514401:=0
def PySem.W.Fast.tw2268437421587063944:=0
def PySem.W.Fast.tw16368794426493767677:=0
def PySem.W.Fast.tw13846742259163297974:=0
def PySem.W.Fast.tw8139530576652518711:=0
def PySem.W.Fast.tw16492142856283241180:=0
def PySem.W.Fast.tw1642938609754509805:=0
def PySem.W.Fast.tw12461030516950572406:=0
def PySem.W.Fast.tw6266030599999943116:=0
def PySem.W.Fast.tw4248860733324251763:=0
def PySem.W.Fast.tw16918690659564211355:=0
def PySem.W.Fast.tw3058932633418150433:=0
def PySem.W.Fast.tw6299746112304801303:=0
def PySem.W.Fast.tw12883855717834348419:=0
def PySem.W.Fast.tw2616423850757698557:=0
def PySem.W.Fast.tw11306565825468612529:=0
def PySem.W.Fast.tw7778836506645718128:=0
def PySem.W.Fast.tw1746848746322650770:=0
def PySem.W.Fast.tw17257368793801528964:=0
def PySem.W.Fast.tw689200610096245074:=0
def PySem.W.Fast.tw3182189571907688923:=0
def PySem.W.Fast.tw2363713746531433247:=0
def PySem.W.Fast.tw13858768960690319178:=0
def PySem.W.Fast.tw4595157110523360684:=0
def PySem.W.Fast.tw3710437650306293282:=0
def PySem.W.Fast.tw4161308652695806661:=0
def PySem.W.Fast.tw15786475683072786370:=0
def PySem.W.Fast.tw12507988335559955851:=0
def PySem.W.Fast.tw13554276830292220117:=0
def PySem.W.Fast.tw1280109221769909691:=0
def PySem.W.Fast.tw17525265779329981364:=0
def PySem.W.Fast.tw3991344276465474213:=0
def PySem.W.Fast.tw10615673247564924129:=0
def PySem.W.Fast.tw10426013157533739498:=0
def PySem.W.Fast.tw6483040507921102853:=0
def PySem.W.Fast.tw11291364224054443775:=0
def PySem.W.Fast.tw7616955594468043867:=0
def PySem.W.Fast.tw1240908507588684491:=0
def PySem.W.Fast.tw8131862061222820525:=0
def PySem.W.Fast.tw11654723093291208383:=0
def PySem.W.Fast.tw17099737923839697301:=0
def PySem.W.Fast.tw586550752399907512:=0
def PySem.W.Fast.tw11509413338121556776:=0
def PySem.W.Fast.tw3137883030384265829:=0
def PySem.W.Fast.tw7946977712585361702:=0
def PySem.W.Fast.tw13848825830946521942:=0
def PySem.W.Fast.tw16167403320083081813:=0
def PySem.W.Fast.tw15031590066390562554:=0
def PySem.W.Fast.tw9736092916298778323:=0
def PySem.W.Fast.tw6999827988265136009:=0
def PySem.W.Fast.tw14271010324717731834:=0
def PySem.W.Fast.tw7570866404353098098:=0
def PySem.W.Fast.tw8962888170209078990:=0
def PySem.W.Fast.tw1574336279535274395:=0
def PySem.W.Fast.tw8404312551874498037:=0
def PySem.W.Fast.tw8564253203374267877:=0
def PySem.W.Fast.tw10101239675053803024:=0
def PySem.W.Fast.tw5517500134965443403:=0
def PySem.W.Fast.tw159886445194184653:=0
def PySem.W.Fast.tw12594808461992619979:=0
def PySem.W.Fast.tw2364937401844876552:=0
def PySem.W.Fast.tw8239476718576971905:=0
def PySem.W.Fast.tw6523116256004132833:=0
def PySem.W.Fast.tw15088061984624195461:=0
def PySem.W.Fast.tw8004173487092042984:=0
def PySem.W.Fast.tw2016221384261180792:=0
def PySem.W.Fast.tw10377363517013860979:=0
def PySem.W.Fast.tw3713844152609681002:=0
def PySem.W.Fast.tw10782083248028741092:=0
def PySem.W.Fast.tw14435123179506688133:=0
def PySem.W.Fast.tw5415158722244471338:=0
def PySem.W.Fast.tw15901390582625613955:=0
def PySem.W.Fast.tw130778827966387350:=0
def PySem.W.Fast.tw15412273502887007135:=0
def PySem.W.Fast.tw2888314482646990534:=0
def PySem.W.Fast.tw11219845923922694070:=0
def PySem.W.Fast.tw1466983966254233373:=0
def PySem.W.Fast.tw6347897767548262031:=0
def PySem.W.Fast.tw3712260700468006548:=0
def PySem.W.Fast.tw11516545037238959086:=0
def PySem.W.Fast.tw606384330964167433:=0
def PySem.W.Fast.tw2143585980101637333:=0
def PySem.W.Fast.tw16444634664386883997:=0
def PySem.W.Fast.tw18143666202374409688:=0
def PySem.W.Fast.tw13924988519050625505:=0
def PySem.W.Fast.tw7531115201836653787:=0
def PySem.W.Fast.tw12074024123155667524:=0
def PySem.W.Fast.tw1411279098200249603:=0
def PySem.W.Fast.tw17617451415609592848:=0
def PySem.W.Fast.tw5119600884023809966:=0
def PySem.W.Fast.tw3030584978094346584:=0
def PySem.W.Fast.tw14859967708415147849:=0
def PySem.W.Fast.tw8796796580309947118:=0
def PySem.W.Fast.tw13194273883839380486:=0
def PySem.W.Fast.tw6741169605778207782:=0
def PySem.W.Fast.tw17796184745365705328:=0
def PySem.W.Fast.tw17307800040863627509:=0
def PySem.W.Fast.tw16347163338276329839:=0
def PySem.W.Fast.tw3865101383252452342:=0
def PySem.W.Fast.tw15645132416313008232:=0
def PySem.W.Fast.tw811461272604651724:=0
def PySem.W.Fast.tw6406601557669397959:=0
def PySem.W.Fast.tw8609982804941290464:=0
def PySem.W.Fast.tw8694736249861091019:=0
def PySem.W.Fast.tw8399101428841776135:=0
def PySem.W.Fast.tw5835417419568030618:=0
def PySem.W.Fast.tw15553991973896281016:=0
def PySem.W.Fast.tw3481880222127632405:=0
def PySem.W.Fast.tw1780027294495003188:=0
def PySem.W.Fast.tw13956462521123900892:=0
def PySem.W.Fast.tw18087226939840715072:=0
def PySem.W.Fast.tw6175767287083486916:=0
def PySem.W.Fast.tw12612892081051579217:=0
def PySem.W.Fast.tw13163583583463913916:=0
def PySem.W.Fast.tw3591872257417969880:=0
def PySem.W.Fast.tw7895069489971089476:=0
def PySem.W.Fast.tw725458373652060592:=0
def PySem.W.Fast.tw13439008204220084799:=0
def PySem.W.Fast.tw8427790630406401880:=0
def PySem.W.Fast.tw15166829445177579108:=0
def PySem.W.Fast.tw8545345046742969115:=0
def PySem.W.Fast.tw4345717715805341983:=0
def PySem.W.Fast.tw12583735901164992769:=0
def PySem.W.Fast.tw9232826141744959067:=0
def PySem.W.Fast.tw5329131256654316199:=0
def PySem.W.Fast.tw2130919632350022890:=0
def PySem.W.Fast.tw6842135448162419744:=0
def PySem.W.Fast.tw16519900451685823053:=0
abbrev Fg:=PySem.W.Frag
open PySem renaming PyData->My,Value->NO,Addr->NP,Shared->NQ,Program->NR,World->NS,Around->NT,Scope->NU,FuncData->NV,Stmt->NW,Expr->NX,Heap->NY,sizeLine->NZ,starEach->Oa,Obj->Ob,Env->Oc,backTo->Od,Keyword->Oe,wpAny->Of,mainGlobals->Og,swapsWith->Oh,attributeBase->Oi,bootBuiltins->Oj,foldedSetIterable->Ol,assignEach->Om,cLine->On,NameKind->Oq,backToKw->Os,keywordEach->Ot
open PyProof.Rows renaming Keyed->Oo
noncomputable section
local macro_rules | `(tactic| omega)=>`(tactic| lia)
def Jf:=@List.length_map
def Jg:=@PySem.wpAny_bind
def Jh:=@List.mem_cons_of_mem
def Ji:=@List.getElem?_eq_getElem
def Jj:=@List.mem_append
def Jk:=@if_pos
def Jl:=@List.mem_cons
def Jm:=@List.getElem?_eq_some_iff
def Jn:=@PySem.Heap.get?_push_of_some
def Jo:=@if_neg
def Jp:=@List.getElem?_set_ne
def Jq:=@Nat.le_refl
def Jr:=@List.getD_eq_getElem?_getD
def Js:=@List.getElem?_map
def Jt:=@Option.some.inj
def Ju:=@List.getElem?_set_self
def Jv:=@List.mem_cons_self
def Jw:=@List.size_toArray
def Jx:=@PySem.wpAny_pure
def Jy:=@List.map_cons
def Jz:=@PySem.Heap.lt_size
def JA:=@List.mem_append_right
def JB:=@List.length_cons
def JC:=@Option.bind_some
def JD:=@List.length_range
def JE:=@List.map_append
def JF:=@List.map_map
def JG:=@Nat.ne_of_lt
def JH:=@Nat.lt_of_lt_of_le
def JI:=@Bool.false_ne_true
def JJ:=@Option.map_eq_some_iff
def JK:=@PySem.Heap.get?_push_size
def JL:=@List.getElem?_append_left
def JM:=@Nat.le_trans
def JN:=@List.mem_range
def JO:=@List.pairwise_cons
def JP:=@List.mem_filter
def JQ:=@PySem.sizeLine_eq
def JR:=@List.getElem?_append_right
def JS:=@List.mem_map
def JT:=@of_decide_eq_true
def JU:=@List.map_congr_left
def JV:=@Ne.symm
def JW:=@List.mem_of_getElem?
def JX:=@List.length_append
def JY:=@decide_eq_false
def JZ:=@Nat.zero_add
def Ka:=@Nat.zero_le
def Kb:=@PyProof.Rows.slot_tuple_getitem
def Kc:=@Bool.false_eq_true
def Kd:=@List.replicate_succ
def Ke:=@List.length_take
def Kf:=@PyProof.Rows.wpS_bind
def Kg:=@List.append_nil
def Kh:=@List.length_set
def Ki:=@List.getElem?_replicate
def Kj:=@of_decide_eq_false
def Kk:=@congrArg
def Kl:=@List.map_nil
def Km:=@PySem.wpAny_newObj_type
def Kn:=@decide_eq_true
def Ko:=@List.mem_singleton
def Kq:=@List.nodup_iff_pairwise_ne
def Kr:=@List.filter_append
def Ks:=@Array.getElem?_toList
def Kt:=@List.nodup_cons
def Ku:=@List.nil_append
def Kv:=@PySem.SeqAt.canLay_of_shaped
def Kw:=@List.take_of_length_le
def Kx:=@List.getElem?_eq_none
def Ky:=@List.length_filter_le
def Kz:=@PySem.mem_of_lookup
def KA:=@Nat.le_of_lt
def KB:=@List.pairwise_iff_getElem
def KC:=@PySem.W.mg_none_of
def KD:=@Nat.lt_irrefl
def KE:=@List.length_nil
def KF:=@List.cons_append
def KG:=@List.length_replicate
def KH:=@if_false
def KI:=@PyProof.Rows.wpS_pure
def KJ:=@decide_eq_decide
def KL:=@if_true
def KM:=@PySem.wpAny_mono
def KN:=@Int.toNat_natCast
def KO:=@List.nodup_append
def KP:=@PySem.F.slot_list_append
def KQ:=@PySem.F.type_list_append
def KR:=@PyProof.Rows.callWith_type1
def KS:=@List.length_eq_zero_iff
def KU:=@PySem.F.plainAttrs_list
def KW:=@List.pairwise_map
def KY:=@Array.length_toList
def KZ:=@List.mem_map_of_mem
def La:=@List.filter_sublist
def Lc:=@List.range_succ
def Ld:=@PySem.wpAny_holding
def Le:=@List.flatten_cons
def Lf:=@Nat.lt_succ_of_lt
def Lg:=@decide_eq_true_eq
def Lh:=@PySem.Heap.SameBut.update
def Li:=@List.getElem?_range
def Lj:=@List.lookup_cons
def Lk:=@PySem.F.slot_tuple_iterator_next
def Ll:=@List.mapM_cons
def Lm:=@List.getElem?_zip_eq_some
def Ln:=@List.drop_eq_getElem_cons
def Lo:=@List.mem_of_mem_take
def Lp:=@PySem.wpAny_truthy_bool
def Lq:=@PySem.wpAny_callSpecial?_slot
def Lr:=@List.filter_cons_of_pos
def Ls:=@PySem.wpAny_call_entry
def Lu:=@Nat.lt_succ_self
def Lv:=@List.not_mem_nil
def Lw:=@PySem.wpAny_field
def Ly:=@PyProof.Rows.assignInOrder_cons
def Lz:=@PySem.wpAny_pyIter_tuple
def LA:=@List.getElem_range
def LC:=@Bool.eq_iff_iff
def LD:=@Option.map_some
def LF:=@List.filter_nil
def LG:=@List.mem_iff_getElem?
def LH:=@PySem.Heap.get?_push_ne
def LI:=@Nat.le_succ
def LJ:=@Bool.and_eq_true
def LK:=@List.take_length
def LL:=@List.filterMap_cons
def LN:=@List.getElem?_cons_succ
def LO:=@List.filter_cons_of_neg
def LQ:=@PyProof.Rows.listUpdate_at
def LR:=@List.find?_cons
def LS:=@Nat.lt_of_le_of_lt
def LU:=@List.getElem?_take
def LV:=@PySem.PyData.shownAll_length
def LX:=@List.range_succ_eq_map
def LY:=@List.take_add_one
def LZ:=@List.ext_getElem?
def Ma:=@Bool.false_and
def Mb:=@List.sizeOf_lt_of_mem
def Mc:=@Classical.choose_spec
def Md:=@PySem.wpAny_rule
def Me:=@PySem.call_meets
def Mf:=@PySem.Heap.size_update
def Mg:=@PySem.F.slot_tuple_mul
def Mh:=@List.drop_length
def Mi:=@List.getElem_mem
def Mj:=@beq_eq_false_iff_ne
def Ml:=@List.take_succ_cons
def Mm:=@Nat.succ_eq_add_one
def Mn:=@PySem.wpAny_passesOwn
def Mo:=@PyProof.Rows.get?_update_seq
def Mp:=@PyProof.Rows.IsTup.new
def Mq:=@List.mem_filterMap
def Mr:=@Option.isSome_iff_exists
def Ms:=@PySem.F.args_tuple_add_2
def Mt:=@Option.isSome_some
def Mu:=@List.getElem?_drop
def Mv:=@Int.lt_or_eq_of_le
def Mw:=@PyProof.Rows.wpS_forRange
def Mx:=@PySem.F.slot_str_getitem
def Mz:=@PySem.AutoSeq1.sub_tuple_tuple
def MA:=@List.idxOf_lt_length_iff
def MB:=@List.map_replicate
def MC:=@PySem.wpAny_bindName
def MD:=@PySem.Heap.size_push
def ME:=@Bool.and_false
def MF:=@PySem.boot_len
def MG:=@PySem.F.entry_tuple_add
def MH:=@PySem.AutoSeq1.sub_tuple_list
def MI:=@PySem.AutoSeq1.sub_list_tuple
def MJ:=@List.reverse_cons
def MK:=@List.append_assoc
def ML:=@PySem.F.args_tuple_iterator_next_1
def MM:=@List.filter_congr
def MN:=@List.foldl_append
def MO:=@PySem.F.slot_tuple_add
def MP:=@decide_true
def MQ:=@PySem.AutoSeq1.sub_list_list
def MR:=@PySem.F.entry_tuple_iterator_next
def MS:=@PySem.F.slot_list_iadd
def MT:=@PySem.wpAny_standAt
def MU:=@PySem.W.mg_of
def MV:=@Bool.true_and
def MW:=@List.all_eq_true
def MX:=@List.mem_append_left
def MY:=@PySem.wpAny_typeOf
def MZ:=@PySem.typeIs_str
def Na:=@PySem.F.slot_int_rmul
def Nb:=@PySem.wpAny_newFunctionEnv
def Nc:=@decide_false
def Nd:=@PyProof.Rows.pairsOf_size
def Nf:=@PySem.wpAny_ite_false
def Ng:=@Nat.not_lt_zero
def Nh:=@List.sum_append
def Ni:=@List.length_reverse
def Nj:=@List.length_pos_iff
def Nk:=@List.getD_cons_succ
def Nl:=@Array.size_map
def Nm:=@or_false
def Nn:=@PySem.wpAny_Call_Name_kw
def Np:=@PySem.Heap.IsSliceOf.new
def Nq:=@PySem.F.args_tuple_mul_2
def Nr:=@List.getElem_idxOf
def Nt:=@PySem.Paired.length
def Nu:=@List.set_comm
def Nv:=@List.any_cons
def Nw:=@Bool.not_true
def Nx:=@PySem.wpAny_newList
def Ny:=@List.sum_cons
def Nz:=@PySem.StrLaws.reprText_len
def NA:=@bne_self_eq_false
def NB:=@List.getElem?_set
def NC:=@Nat.ne_of_gt
def ND:=@Option.getD_none
def NF:=@Nat.sub_zero
def NG:=@List.getElem_map
def NH:=@Nat.min_eq_right
def NI:=@List.ext_getElem
def NJ:=@List.filter_cons
def NK:=@List.of_mem_zip
def NL:=@Nat.min_eq_left
def NM:=@Int.le_refl
def bS9 {α:Type _}{β:Type _}{x:Option α}{f:α->Option β}{b:β}(h:x.bind f=some b):∃a,x=some a/\f a=some b:=Option.bind_eq_some_iff.1 h
set_option Elab.async false
set_option linter.all false
set_option maxRecDepth 100000
namespace L2
open PySem PySem.Spec PyProof.Rows
section
abbrev Key:=Sum Int Str
def jR:Key->NO->Bool
 | .inl k,v=>NO.isInt k v
 | .inr x,v=>NO.isStrOf x v
def Ex (w:NS):Key->Int
 | .inl k=>hashInt k
 | .inr x=>hashStr w x
theorem C9:∀{k:Key} {v:NO},jR k v=true->(∃i t,k=Sum.inl i/\v=NO.int i t)\/(∃x t,k=Sum.inr x/\v=NO.str x t)
 | .inl i,v,h=>by
  obtain⟨t,e⟩:=NO.isInt_shape (k:=i) (v:=v) h;exact .inl ⟨i,t,rfl,e⟩
 | .inr x,v,h=>by
  obtain⟨t,e⟩:=NO.isStrOf_shape (x:=x) (v:=v) h;exact .inr ⟨x,t,rfl,e⟩
def sH (i:Int)(t:Tok):jR (.inl i) (.int i t)=true:=by simp[jR,NO.isInt]
def su (x:Str)(t:Tok):jR (.inr x) (.str x t)=true:=by simp[jR,NO.isStrOf]
def AY (a b:Int):decide ((Sum.inl a:Key)=Sum.inl b)=(a == b):=by
 by_cases e:a=b
 .subst e;simp
 .have h:¬(Sum.inl a:Key)=Sum.inl b:=λq=>e (Sum.inl.inj q)
  rw[JY h];exact(Mj.2 e).symm
def Cd (a b:Str):decide ((Sum.inr a:Key)=Sum.inr b)=decide (a=b):=by
 by_cases e:a=b
 .subst e;simp
 .have h:¬(Sum.inr a:Key)=Sum.inr b:=λq=>e (Sum.inr.inj q)
  rw[JY h,JY e]
def BU (a:Int)(b:Str):decide ((Sum.inl a:Key)=Sum.inr b)=false:=JY (λq=>nomatch q)
def CJ (a:Str)(b:Int):decide ((Sum.inr a:Key)=Sum.inl b)=false:=JY (λq=>nomatch q)
def D6 (prog:NR)(w:NS):PySem.KeyKind prog w Key where
 is:=jR
 hash:=Ex w
 inj:=λv a b ha hb=>by
  rcases C9 ha with ⟨i,t,rfl,rfl⟩ | ⟨x,t,rfl,rfl⟩
  .rcases C9 hb with ⟨j,u,rfl,e⟩ | ⟨y,u,rfl,e⟩
   .injection e with e1 _;rw[e1]
   .exact nomatch e
  .rcases C9 hb with ⟨j,u,rfl,e⟩ | ⟨y,u,rfl,e⟩
   .exact nomatch e
   .injection e with e1 _;rw[e1]
 byValue:=λk v h=>by
  rcases C9 h with ⟨i,t,rfl,rfl⟩ | ⟨x,t,rfl,rfl⟩ <;> rfl
 pyHash:=λhv h=>by
  rcases C9 hv with ⟨i,t,rfl,rfl⟩ | ⟨x,t,rfl,rfl⟩
  .exact wpAny_pyHash_int h
  .exact wpAny_pyHash_str h
 eqBool:=λhu hv h=>by
  rcases C9 hu with ⟨i,t,rfl,rfl⟩ | ⟨x,t,rfl,rfl⟩
  .rcases C9 hv with ⟨j,u,rfl,rfl⟩ | ⟨y,u,rfl,rfl⟩
   .rw[AY]at h;exact wpAny_eqBool_int h
   .rw[BU]at h;exact SeqAt.EqAt.int_str i t y u _ _ _ _ h
  .rcases C9 hv with ⟨j,u,rfl,rfl⟩ | ⟨y,u,rfl,rfl⟩
   .rw[CJ]at h;exact SeqAt.EqAt.str_int x t j u _ _ _ _ h
   .rw[Cd]at h;exact wpAny_eqBool_str h
 «strs»:=λk x t v h=>by
  rcases C9 h with ⟨i,u,rfl,e⟩ | ⟨y,u,rfl,e⟩
  .exact nomatch e
  .injection e with e1 _
   subst e1;cases v <;> rfl
def mz (prog:NR)(w:NS)(i:Int)(t:Tok):(D6 prog w).is (.inl i) (.int i t)=true:=sH i t
def mZ (prog:NR)(w:NS)(x:Str)(t:Tok):(D6 prog w).is (.inr x) (.str x t)=true:=su x t
end
section
inductive V where
 | non | bl (b:Bool) | int (i:Int) | str (x:Str) | byt (b:Array UInt8) | flt (b:UInt64) | ref (a:NP) | ty (n:String)
 deriving DecidableEq
def u6:V->NO->Prop
 | .non,u=>u=NO.none
 | .bl b,u=>u=NO.bool b
 | .int i,u=>∃t,u=NO.int i t
 | .str x,u=>∃t,u=NO.str x t
 | .byt b,u=>∃t,u=NO.bytes b t
 | .flt b,u=>∃t,u=NO.float b t
 | .ref a,u=>u=NO.ref a
 | .ty n,u=>u=NO.type n
abbrev l0:List V->List NO->Prop:=Paired u6
def l0.length {xs:List V}{us:List NO}(r:l0 xs us):xs.length=us.length:=Nt r
theorem l0.get:∀{xs:List V} {us:List NO} {i:Nat} {x:V},l0 xs us->xs[i]? = some x->∃u,us[i]? = some u/\u6 x u
 | _,_,_,_,.nil,e=>by simp at e
 | _,_,0,_,.cons r _,e=>by simp at e;subst e;exact⟨_,rfl,r⟩
 | _,_,i+1,x,.cons _ t,e=>by
  obtain⟨u,h1,h2⟩:=l0.get (i:=i) (x:=x) t (by simpa using e);exact⟨u,by simpa using h1,h2⟩
theorem l0.set {x:V}{u:NO}(r:u6 x u):∀{xs:List V} {us:List NO} (i:Nat),l0 xs us->l0 (xs.set i x) (us.set i u)
 | _,_,_,.nil=>.nil
 | _,_,0,.cons _ t=>.cons r t
 | _,_,i+1,.cons q t=>.cons q (l0.set r i t)
theorem l0.append:∀{xs ys:List V} {us ws:List NO},l0 xs us->l0 ys ws->l0 (xs++ys) (us++ws)
 | _,_,_,_,.nil,s=>s
 | _,_,_,_,.cons r t,s=>.cons r (l0.append t s)
theorem l0.take:∀{xs:List V} {us:List NO} (n:Nat),l0 xs us->l0 (xs.take n) (us.take n)
 | _,_,0,_=>.nil
 | _,_,_+1,.nil=>.nil
 | _,_,n+1,.cons r t=>.cons r (l0.take n t)
theorem l0.drop:∀{xs:List V} {us:List NO} (n:Nat),l0 xs us->l0 (xs.drop n) (us.drop n)
 | _,_,0,r=>r
 | _,_,_+1,.nil=>.nil
 | _,_,n+1,.cons _ t=>l0.drop n t
def l0.none_of:∀{xs:List V} {us:List NO} {i:Nat},l0 xs us->xs[i]? = none->us[i]? = none:=λ{xs us i} r e=>by
 have h1:=r.length;have h2:xs.length<=i:=List.getElem?_eq_none_iff.1 e;exact List.getElem?_eq_none_iff.2 (by omega)
def jm:Option V->Option NO->Prop
 | some v,some u=>u6 v u
 | none,none=>True
 | _,_=>False
def KV {κ:Type}:List (κ×V)->List (κ×NO)->Prop:=Paired λ(p:κ×V) (q:κ×NO)=>p.1=q.1/\u6 p.2 q.2
def kV:Key->V
 | .inl i=>.int i
 | .inr x=>.str x
inductive HO where
  | lst (xs:List V)
  | tup (xs:List V)
  | dK (kvs:List (Key×V)) | dT (kvs:List (List Key×V))
  | set (S:Int->Bool) (n:Nat)
  | ins (C dx:NP) (fs:List (Str×V))
  | own (x:NP)
  | xd (fs:List (Str×V))
  | met (f x:NP)
  | rng (lo hi:Int)
  | frz (o:Ob) (u:HO)
  | tbl (ps:Array NO)
  | ext (φ:NY->Prop)
abbrev Hp:=NP->Option HO
def upd (H:Hp)(a:NP)(o:HO):Hp:=λb=>if b=a then some o else H b
def c7 {H:Hp}{a:NP}{o:HO}:upd H a o a=some o:=by unfold upd;rw[Jk rfl]
def a8 {H:Hp}{a b:NP}{o:HO}(h:b≠a):upd H a o b=H b:=by unfold upd;rw[Jo h]
def Dv {H:Hp}{a b:NP}{o u:HO}(h:H a=some o)(h':H b=some u)(d:o≠u):a≠b:=by
 intro e;subst e;rw[h]at h';exact d (Jt h')
def e8 {H:Hp}{a b:NP}{o:HO}(h:H a=some o)(h':H b=none):a≠b:=by
 intro e;subst e;rw[h]at h';cases h'
section
variable (P:NR)(w:NS)
def L9 (H:Hp)(h:NY)(a:NP):HO->Prop
 | .lst xs=>xs.length<=NZ/\∃(its:List NO) (n:Nat),l0 xs its/\h.get? a=some { cls:=.type "list",data:=.seq its.toArray n }
 | .tup xs=>xs.length<=NZ/\∃its:List NO,l0 xs its/\IsTup h a its.toArray
 | .dK kvs=>kvs.length<=NZ/\(a == sysModules)=false/\∃vs,KV kvs vs/\h.DictOf (D6 P w) a vs
 | .dT kvs=>kvs.length<=NZ/\(a == sysModules)=false/\∃xs:List (List Key×NP×NO),
   Paired (λ(p:List Key×V) (q:List Key×NP×NO)=>p.1=q.1/\H q.2.1=some (.tup (p.1.map kV))/\u6 p.2 q.2.2) kvs xs /\
   ∃o es ep,h.get? a=some o/\o.ExactDict/\o.data = .dict es ep/\es.toList=xs.map (entryOfKey (tupleKind (D6 P w)))/\(xs.map (·.1)).Nodup
 | .set S n=>h.SetOf (intKind P w) a S n
 | .ins C dx fs=>H dx=some (.own a)/\fs.length<=1000/\dx≠a/\h.get? a=some (PySem.W.instObj C dx) /\
   ∃mA,h.Ns1 dx mA/\(∀f,jm (fs.lookup f) (mA f))/\PySem.Within mA (fs.map (·.1))
 | .own _=>∃o,h.get? a=some o
 | .xd fs=>∃mA,h.Ns1 a mA/\∀f,jm (fs.lookup f) (mA f)
 | .rng lo hi=>∃t u v,h.get? a=some { cls:=.type "range",data:=.fields #[.int lo t,.int hi u,.int 1 v] }
 | .frz o u=>h.get? a=some o/\L9 H h a u
 | .tbl ps=>h.get? a=some { cls:=.none,data:=.fields ps }
 | .met f x=>h.get? a=some (PySem.W.methodObj (.ref f) (.ref x))
 | .ext φ=>φ h/\(∃o,h.get? a=some o)/\∀h1 h2:NY,φ h1->(∀o,h1.get? a=some o->h2.get? a=some o)->φ h2
def HOk (H:Hp)(h:NY):Prop:=∀a o,H a=some o->L9 P w H h a o
end
section
variable {P:NR}{w:NS}{H H':Hp}{h h':NY}{a:NP}{o:HO}
def L9.lt (x:L9 P w H h a o):a<h.objs.size:=by
 cases o with
 | lst xs=>obtain⟨_,_,_,_,e⟩:=x;exact Jz e
 | tup xs=>obtain⟨_,_,_,p⟩:=x;exact p.lt
 | dK kvs=>obtain⟨_,_,_,_,o,_,_,e,_⟩:=x;exact Jz e
 | dT kvs=>obtain⟨_,_,_,_,o,_,_,e,_⟩:=x;exact Jz e
 | set S n=>obtain⟨o,_,_,_,e,_⟩:=x;exact Jz e
 | ins C dx fs=>obtain⟨_,_,_,e,_⟩:=x;exact Jz e
 | own y=>obtain⟨_,e⟩:=x;exact Jz e
 | xd fs=>obtain⟨_,⟨_,_,_,e,_⟩,_⟩:=x;exact Jz e
 | rng lo hi=>obtain⟨_,_,_,e⟩:=x;exact Jz e
 | frz ob u=>obtain⟨e,_⟩:=x;exact Jz e
 | tbl ps=>exact Jz (show h.get? a=some _ from x)
 | met f y=>exact Jz (show h.get? a=some _ from x)
 | ext φ=>obtain⟨_,⟨_,e⟩,_⟩:=x;exact Jz e
theorem Paired.mapP {α β:Type}{F G:α->β->Prop}:∀{l₁:List α} {l₂:List β},Paired F l₁ l₂->(∀a b,F a b->G a b)->Paired G l₁ l₂
 | _,_,.nil,_=>.nil
 | _,_,.cons r t,f=>.cons (f _ _ r) (Paired.mapP t f)
def L9.stay (x:L9 P w H h a o)(k:∀b u,(b=a\/H b=some (.own a))->h.get? b=some u->h'.get? b=some u)
  (ho:∀b,H b=some (.own a)->H' b=some (.own a)) (ht:∀b xs,H b=some (.tup xs)->H' b=some (.tup xs)):L9 P w H' h' a o:=by
 induction o with
 | lst xs=>obtain⟨z,its,n,r,e⟩:=x;exact⟨z,its,n,r,k _ _ (.inl rfl) e⟩
 | tup xs=>obtain⟨z,its,r,ob,e,c⟩:=x;exact⟨z,its,r,ob,k _ _ (.inl rfl) e,c⟩
 | dK kvs=>obtain⟨z,y,vs,r,ob,es,ep,e,c⟩:=x;exact⟨z,y,vs,r,ob,es,ep,k _ _ (.inl rfl) e,c⟩
 | dT kvs =>
  obtain⟨z,y,xs,r,ob,es,ep,e,c⟩:=x;exact⟨z,y,xs,Paired.mapP r λp q z=>⟨z.1,ht _ _ z.2.1,z.2.2⟩,ob,es,ep,k _ _ (.inl rfl) e,c⟩
 | set S n=>obtain⟨ob,es,ep,t,e,c⟩:=x;exact⟨ob,es,ep,t,k _ _ (.inl rfl) e,c⟩
 | ins C dx fs =>
  obtain⟨d,z,ne,e,mA,⟨od,es,ep,e2,c⟩,r⟩:=x;exact⟨ho _ d,z,ne,k _ _ (.inl rfl) e,mA,⟨od,es,ep,k _ _ (.inr d) e2,c⟩,r⟩
 | own y=>obtain⟨ob,e⟩:=x;exact⟨ob,k _ _ (.inl rfl) e⟩
 | xd fs=>obtain⟨mA,⟨od,es,ep,e,c⟩,r⟩:=x;exact⟨mA,⟨od,es,ep,k _ _ (.inl rfl) e,c⟩,r⟩
 | rng lo hi=>obtain⟨t,u,v,e⟩:=x;exact⟨t,u,v,k _ _ (.inl rfl) e⟩
 | frz ob u ih=>obtain⟨e,q⟩:=x;exact⟨k _ _ (.inl rfl) e,ih q⟩
 | tbl ps =>
  have e:h.get? a=some { cls:=.none,data:=.fields ps }:=x;show h'.get? a=some { cls:=.none,data:=.fields ps };exact k a _ (.inl rfl) e
 | met f y =>
  have e:h.get? a=some (PySem.W.methodObj (.ref f) (.ref y)):=x;show h'.get? a=some (PySem.W.methodObj (.ref f) (.ref y));exact k a _ (.inl rfl) e
 | ext φ=>obtain⟨p,⟨o,e⟩,st⟩:=x;exact⟨st _ _ p λo q=>k _ _ (.inl rfl) q,⟨o,k _ _ (.inl rfl) e⟩,st⟩
def HOk.lt (x:HOk P w H h)(e:H a=some o):a<h.objs.size:=(x a o e).lt
def HOk.fresh (x:HOk P w H h)(e:h.objs.size<=a):H a=none:=by
 cases q:H a with
 | none=>rfl
 | some u=>exact absurd (JH (x.lt q) e) (KD _)
def HOk.kept (x:HOk P w H h)(k:∀b u,h.get? b=some u->h'.get? b=some u):HOk P w H h':=λa o e =>
 (x a o e).stay (λb u _ q=>k b u q) (λ_ q=>q) λ_ _ q=>q
def HOk.laid (x:HOk P w H h)(k:∀b u,h.get? b=some u->h'.get? b=some u)(hp:h.objs.size<=a)(new:L9 P w (upd H a o) h' a o):HOk P w (upd H a o) h':=λb u e=>by
 have hn:=x.fresh hp;by_cases hb:b=a
 .subst hb;rw[c7]at e;cases e;exact new
 .rw[a8 hb]at e;exact(x b u e).stay (λc v _ q=>k c v q) (λc q=>by rw[a8 (e8 q hn)];exact q) λc xs q=>by rw[a8 (e8 q hn)];exact q
end
def Rd (H:Hp)(a:NP)(u:HO):Prop:=H a=some u\/∃o,H a=some (.frz o u)
def Rd.ok {P:NR}{w:NS}{H:Hp}{h:NY}{a:NP}{u:HO}(r:Rd H a u)(x:HOk P w H h):L9 P w H h a u:=by
 rcases r with r | ⟨o,r⟩
 .exact x a u r
 .obtain⟨_,q⟩:=x a _ r;exact q
def Mut:Option HO->Prop
 | some (.lst _)=>True
 | some (.dK _)=>True
 | some (.dT _)=>True
 | some (.set _ _)=>True
 | some (.ins _ _ _)=>True
 | some (.ext _)=>True
 | _=>False
section
variable {P:NR}{w:NS}{H:Hp}{h h':NY}{x e:NP}{o':HO}
def HOk.write (ok:HOk P w H h)(mu:Mut (H x))(he:e=x\/H e=some (.own x))(k:∀b u,b≠e->h.get? b=some u->h'.get? b=some u)(heo:∃u,h'.get? e=some u)
  (new:L9 P w (upd H x o') h' x o'):HOk P w (upd H x o') h':=λb u q=>by
 have nown:∀c y,H c=some (.own y)->c≠x:=λc y r z=>by subst z;rw[r]at mu;exact mu
 have ntup:∀c xs,H c=some (.tup xs)->c≠x:=λc xs r z=>by subst z;rw[r]at mu;exact mu
 by_cases hb:b=x
 .subst hb;rw[c7]at q;cases q;exact new
 .rw[a8 hb]at q;by_cases hbe:b=e
  .have q':H b=some (.own x):=by
    rcases he with z | z
    .exact absurd (hbe.trans z) hb
    .rw[hbe];exact z
   rw[q]at q';cases q';obtain⟨v,hv⟩:=heo;exact⟨v,by rw[hbe];exact hv⟩
  .refine(ok b u q).stay (λc v hc r=>k c v ?_ r) (λc r=>by rw[a8 (nown c b r)];exact r) λc xs r=>by rw[a8 (ntup c xs r)];exact r
   rcases hc with rfl | hc
   .exact hbe
   .rintro rfl;rcases he with z | z
    .exact nown c b hc z
    .rw[hc]at z;cases z;exact hb rfl
end
structure Un (fs ex:List NP) (H H':Hp) (h h':NY):Prop where
 keep:∀b o,h.get? b=some o->H b=none->b ∉ fs->b ∉ ex->h'.get? b=some o
 slot:∀b o,h.get? b=some o->H b=none->b∈fs->b ∉ ex->∃sl,h'.get? b=some { o with slots:=sl }
 free:∀b o,h.get? b=some o->H b=none->b ∉ ex->H' b=none
 there:∀b o,h.get? b=some o->b ∉ ex->∃o',h'.get? b=some o'
 tups:∀b xs,H b=some (.tup xs)->H' b=some (.tup xs)
 frzs:∀b o u,H b=some (.frz o u)->H' b=some (.frz o u)
 tbls:∀b ps,H b=some (.tbl ps)->∃more,H' b=some (.tbl (ps++more))
section
variable {fs fs' ex ex':List NP}{H H1 H2:Hp}{h h1 h2 h':NY}{a x e:NP}{o:HO}
def Un.any (u:Un fs ex H H1 h h1){b:NP}{ob:Ob}(q:h.get? b=some ob)(n:H b=none)(hx:b ∉ ex):∃sl,h1.get? b=some { ob with slots:=sl }:=by
 by_cases hb:b∈fs
 .exact u.slot b ob q n hb hx
 .exact⟨ob.slots,u.keep b ob q n hb hx⟩
def Un.kept (k:∀b u,h.get? b=some u->h'.get? b=some u):Un fs ex H H h h' :=
 ⟨λb ob q _ _ _=>k b ob q,λb ob q _ _ _=>⟨ob.slots,k b ob q⟩,λ_ _ _ n _=>n,λb ob q _=>⟨ob,k b ob q⟩,λ_ _ q=>q,λ_ _ _ q=>q,λ_ ps q=>⟨#[],by rw[q];simp⟩⟩
def Un.refl:Un fs ex H H h h:=Un.kept λ_ _ q=>q
def Un.laid (k:∀b u,h.get? b=some u->h'.get? b=some u)(hp:h.objs.size<=a)(hn:H a=none):Un fs ex H (upd H a o) h h' where
 keep:=λb u q _ _ _=>k b u q
 slot:=λb u q _ _ _=>⟨u.slots,k b u q⟩
 free:=λb u q n _=>by rw[a8 (JG (JH (Jz q) hp))];exact n
 there:=λb u q _=>⟨u,k b u q⟩
 tups:=λb xs q=>by rw[a8 (e8 q hn)];exact q
 frzs:=λb u xs q=>by rw[a8 (e8 q hn)];exact q
 tbls:=λb ps q=>⟨#[],by rw[a8 (e8 q hn),q];simp⟩
def Un.write (mu:Mut (H x))(he:e=x\/H e=some (.own x))(k:∀b u,b≠e->h.get? b=some u->h'.get? b=some u)(heo:∃u,h'.get? e=some u):Un fs ex H (upd H x o) h h':=by
 have hx:∀b,H b=none->b≠x:=λb n z=>by subst z;rw[n]at mu;exact mu
 have hb:∀b,H b=none->b≠e:=λb n z=>by
  subst z;rcases he with r | r
  .exact hx b n r
  .rw[n]at r;cases r
 have hm:∀b u,H b=some u->¬Mut (some u)->b≠x:=λb u q nm z=>by subst z;rw[q]at mu;exact nm mu
 refine⟨λb u q n _ _=>k b u (hb b n) q,λb u q n _ _=>⟨u.slots,k b u (hb b n) q⟩,λb u q n _=>by rw[a8 (hx b n)];exact n,λb u q _=>?_,
  λb xs q=>by rw[a8 (hm b _ q λz=>z)];exact q,λb u xs q=>by rw[a8 (hm b _ q λz=>z)];exact q,λb ps q=>⟨#[],by rw[a8 (hm b _ q λz=>z),q];simp⟩⟩
 by_cases hbe:b=e
 .subst hbe;exact heo
 .exact⟨u,k b u hbe q⟩
end
def trk (h:NY)(H:Hp):List NP:=(List.range h.objs.size).filter λa=>(H a).isSome
def jb (h:NY)(H:Hp):NY:=PySem.W.hideAll h (trk h H)
def uk (h:NY)(H:Hp):(jb h H).objs.size=h.objs.size:=PySem.W.hideAll_size _ _
def wa {h:NY}{H:Hp}{b:NP}{o:Ob}(e:h.get? b=some o)(n:H b=none):(jb h H).get? b=some o :=
 PySem.W.hideAll_get _ e λhm=>by
  have q:(H b).isSome=true:=(JP.1 hm).2;rw[n]at q;simp at q
def zo {h:NY}{H:Hp}{b:NP}{o:Ob}(e:(jb h H).get? b=some o):h.get? b=some o/\H b=none:=by
 have e':h.get? b=some o:=PySem.W.of_hideAll (trk h H) e;refine⟨e',?_⟩;cases q:H b with
 | none=>rfl
 | some x =>
  have hm:b∈trk h H:=JP.2 ⟨JN.2 (Jz e'),by simp[q]⟩;have z:(jb h H).get? b=none:=PySem.W.hideAll_none (trk h H) hm;rw[z]at e;cases e
end
section
structure Mod (K:Fg) (mg:Str->Option NO) (base:NY):Prop where
 kin:K.In base
 glob:base.Ns Og mg
 blt:∃mb,base.Ns builtinsNs mb/\∀x:Str,x ≠ "__name__"->mb x=Oj x
 nolimit:base.NoLimit
structure Cx where
 prog:NR
 w:NS
 K:Fg
 mg:Str->Option NO
 base:NY
 A:NT
 N:List Str
 s₀:NQ
 H₀:Hp
 env:Oc
 outer:List Oc
 stack:List Oc
 ex:List NP
 fn:Str->Bool
 calm:Bool
 pn:List (NP×Ob)
 xe:NO->NQ->Prop
def frs (l:List Oc):List NP:=l.filterMap (·.frame)
abbrev Cx.fs (X:Cx):List NP:=frs X.outer
def Vis (sc:NU)(x:Str):Prop:=sc.names.lookup x=some .local\/sc.names.lookup x=some .cell\/sc.names.lookup x=some .free
def Loc (sc:NU)(x:Str):Prop:=sc.names.lookup x=some .local\/sc.names.lookup x=some .cell
def EG (env:Oc)(h:NY)(m:Str->Option NO)(x:Str)(u:NO):Prop :=
 (env.kindOf x=some .local/\m x=some u)\/((env.kindOf x=some .cell\/env.kindOf x=some .free)/\∃c,env.cells.lookup x=some c/\h.IsCell c (some u))
structure Cx.Ok (X:Cx):Prop where
 mod:Mod X.K X.mg X.base
 kind:X.env.scope.kind = .function
 glob:X.env.globals=Og
 blt:X.env.builtins=builtinsNs
 above:X.s₀.heap.objs.size<=X.env.locals
 inj:∀x y c,X.env.cells.lookup x=some c->X.env.cells.lookup y=some c->x=y
 has:∀x,(X.env.kindOf x=some .cell\/X.env.kindOf x=some .free)->∃c,X.env.cells.lookup x=some c
 cab:∀x c,X.fn x=true->X.env.cells.lookup x=some c->X.s₀.heap.objs.size<=c
 hd:X.calm=true->X.A.handled=none
 frames:X.A.frames=some X.stack
 stk:X.stack=X.outer\/(X.stack=X.env::X.outer/\X.env.frame=some X.env.locals)
 exf:∀b∈X.ex,b≠X.env.locals/\∀x c,X.env.cells.lookup x=some c->c≠b
 bs:∀b o,X.base.get? b=some o->X.s₀.heap.get? b=some o/\X.H₀ b=none
 bsz:X.base.objs.size<=X.s₀.heap.objs.size
 noex:∀b o,X.base.get? b=some o->b ∉ X.ex
 exfs:∀b∈X.ex,b ∉ X.fs
 funs:X.s₀.heap.FunFrames X.base X.outer
 frf:∀b∈X.fs,X.H₀ b=none
structure Inv (X:Cx) (pins:List (NP×Ob)) (σ:List (Option V)) (H:Hp) (s:NQ):Prop where
 ok:X.Ok
 os:s.os=X.s₀.os
 bare:AllBare s.gens
 base:Un X.fs X.ex X.H₀ H X.s₀.heap s.heap
 loc:∃m,s.heap.Ns X.env.locals m/\∀(i:Nat) (x:Str) (v:V),X.N[i]? = some x->σ[i]? = some (some v)->Vis X.env.scope x->∃u,u6 v u/\EG X.env s.heap m x u
 cell:∀x c,X.env.cells.lookup x=some c->∃v,s.heap.IsCell c v
 free:H X.env.locals=none
 freeC:∀x c,X.env.cells.lookup x=some c->H c=none
 pin:∀p∈X.pn++pins,s.heap.get? p.1=some p.2/\H p.1=none/\p.1≠X.env.locals/\p.1 ∉ X.fs/\∀v,p.2.data ≠ .cell v
 hok:HOk X.prog X.w H s.heap
 len:σ.length=X.N.length
section
variable {X:Cx}{pins:List (NP×Ob)}{σ:List (Option V)}{H H':Hp}{s:NQ}{h':NY}
def Cx.Ok.nofr (ok:X.Ok){b:NP}{o:Ob}(e:X.base.get? b=some o):b ∉ X.fs:=λhb=>by
 have:=(ok.funs.mem hb).1;rw[e]at this;cases this
def Inv.bs (I:Inv X pins σ H s):∀b o,X.base.get? b=some o->s.heap.get? b=some o/\H b=none:=λb o e =>
 ⟨I.base.keep b o (I.ok.bs b o e).1 (I.ok.bs b o e).2 (I.ok.nofr e) (I.ok.noex b o e),I.base.free b o (I.ok.bs b o e).1 (I.ok.bs b o e).2 (I.ok.noex b o e)⟩
def Inv.bk (I:Inv X pins σ H s):∀b o,X.base.get? b=some o->s.heap.get? b=some o:=λb o e=>(I.bs b o e).1
def Inv.mod (I:Inv X pins σ H s):Mod X.K X.mg X.base:=I.ok.mod
def Inv.kIn (I:Inv X pins σ H s):X.K.In s.heap:=I.ok.mod.kin.keeps I.bk
def Inv.nolimit (I:Inv X pins σ H s):s.heap.NoLimit:=I.ok.mod.nolimit.keeps I.bk
def Inv.lt (I:Inv X pins σ H s):X.env.locals<s.heap.objs.size:=let ⟨_,hn,_⟩:=I.loc;hn.lt
def Inv.sz (I:Inv X pins σ H s):X.s₀.heap.objs.size<=s.heap.objs.size:=JM I.ok.above (KA I.lt)
def Inv.nofs (I:Inv X pins σ H s){a:NP}(h:s.heap.objs.size<=a):a ∉ X.fs:=λhb=>by
 obtain⟨_,o,ho,_⟩:=I.ok.funs.mem hb;exact absurd (JH (Jz ho) (JM I.sz h)) (KD _)
def Inv.cne (I:Inv X pins σ H s):∀x c,X.env.cells.lookup x=some c->c≠X.env.locals:=λx c e z=>by
 obtain⟨v,o,ho,hd⟩:=I.cell x c e;obtain⟨m,⟨o',es,ep,ho',hd',_⟩,_⟩:=I.loc;rw[z,ho']at ho;cases ho;rw[hd']at hd;cases hd
def Inv.funs (I:Inv X pins σ H s):s.heap.FunFrames X.base X.outer:=by
 have all:∀(l:List Oc),(∀b∈frs l,b∈X.fs)->X.s₀.heap.FunFrames X.base l->s.heap.FunFrames X.base l:=by
  intro l;induction l with
  | nil=>intro _ _;trivial
  | cons env r ih =>
   intro hs hl;obtain⟨hk,⟨L,o,hf,hn,ho,hd⟩,hr⟩:=hl;have hL:L∈X.fs:=hs L (by unfold frs;rw[LL,hf];exact Jv);obtain⟨sl,e⟩:=I.base.slot L o ho (I.ok.frf L hL) hL λz=>I.ok.exfs L z hL
   exact⟨hk,⟨L,_,hf,hn,e,hd⟩,ih (λb hb=>hs b (by unfold frs;rw[LL,hf];exact Jh _ hb)) hr⟩
 exact all X.outer (λ_ hb=>hb) I.ok.funs
def Inv.stack (I:Inv X pins σ H s):s.heap.FunFrames X.base X.stack:=by
 rcases I.ok.stk with e | ⟨e,hf⟩
 .rw[e];exact I.funs
 .rw[e];obtain⟨m,hn,_⟩:=I.loc;refine .cons (by rw[I.ok.kind];decide) hf hn ?_ I.funs;exact NY.get?_none_of_le (JM I.ok.bsz I.ok.above)
def Inv.stkSub (I:Inv X pins σ H s):∀b∈frs X.stack,b∈X.env.locals::X.fs:=λb hb=>by
 rcases I.ok.stk with e | ⟨e,hf⟩
 .rw[e]at hb;exact Jh _ hb
 .rw[e]at hb;unfold frs at hb;rw[LL,hf]at hb;exact hb
def Inv.stkFree (I:Inv X pins σ H s):∀b∈frs X.stack,H b=none:=λb hb=>by
 rcases Jl.1 (I.stkSub b hb) with e | hb
 .rw[e];exact I.free
 .obtain⟨_,o,ho,_⟩:=I.ok.funs.mem hb;exact I.base.free b o ho (I.ok.frf b hb) λz=>I.ok.exfs b z hb
def Inv.step {g':Array GenState}{t':Nat}{d':Drawn}{ch:List NP}(I:Inv X pins σ H s)
  (hch:∀b∈ch,(b∈X.ex\/X.s₀.heap.objs.size<=b)/\b≠X.env.locals/\(∀x c,X.env.cells.lookup x=some c->c≠b)/\∀p∈X.pn++pins,p.1≠b)
  (keep:∀b o,b≠X.env.locals->b ∉ X.fs->b ∉ ch->s.heap.get? b=some o->H b=none->h'.get? b=some o)
  (slot:∀b o,b≠X.env.locals->b∈X.fs->b ∉ ch->s.heap.get? b=some o->H b=none->∃sl,h'.get? b=some { o with slots:=sl }) (free:∀b o,b ∉ ch->s.heap.get? b=some o->H b=none->H' b=none)
  (there:∀b o,b ∉ ch->s.heap.get? b=some o->∃o',h'.get? b=some o')
  (tups:∀b xs,H b=some (.tup xs)->H' b=some (.tup xs)) (frzs:∀b o u,H b=some (.frz o u)->H' b=some (.frz o u)) (tbls:∀b ps,H b=some (.tbl ps)->∃more,H' b=some (.tbl (ps++more)))
  (ns:∀m,s.heap.Ns X.env.locals m->h'.Ns X.env.locals m) (hok:HOk X.prog X.w H' h') (hg:AllBare g') :
  Inv X pins σ H' { s with heap:=h',gens:=g',drawn:=d',toks:=t' }:=by
 have neL:∀b o,X.s₀.heap.get? b=some o->b≠X.env.locals:=λb o e=>JG (JH (Jz e) I.ok.above)
 have neC:∀b o,X.s₀.heap.get? b=some o->b ∉ X.ex->b ∉ ch:=λb o e hx hb=>by
  rcases(hch b hb).1 with z | z
  .exact hx z
  .exact absurd (JH (Jz e) z) (KD _)
 have cellK:∀x c,X.env.cells.lookup x=some c->∀v,s.heap.IsCell c v->h'.IsCell c v:=λx c e v ⟨o,ho,hd⟩=>by
  have nch:c ∉ ch:=λz=>(hch c z).2.2.1 x c e rfl
  by_cases hc:c∈X.fs
  .obtain⟨sl,q⟩:=slot c o (I.cne x c e) hc nch ho (I.freeC x c e);exact⟨_,q,hd⟩
  .exact⟨o,keep c o (I.cne x c e) hc nch ho (I.freeC x c e),hd⟩
 refine⟨I.ok,I.os,hg,⟨λb o e n hb hx=>?_,λb o e n hb hx=>?_,λb o e n hx=>?_,λb o e hx=>?_,λb xs e=>tups b xs (I.base.tups b xs e),λb o xs e=>frzs b o xs (I.base.frzs b o xs e),λb ps e=>?_⟩,?_,λx c e=>?_,?_,λx c e=>?_,λp hp=>?_,hok,I.len⟩
 .exact keep b o (neL b o e) hb (neC b o e hx) (I.base.keep b o e n hb hx) (I.base.free b o e n hx)
 .obtain⟨sl,e1⟩:=I.base.slot b o e n hb hx;obtain⟨sl',e2⟩:=slot b _ (neL b o e) hb (neC b o e hx) e1 (I.base.free b o e n hx);exact⟨sl',e2⟩
 .obtain⟨o',e1⟩:=I.base.there b o e hx;exact free b o' (neC b o e hx) e1 (I.base.free b o e n hx)
 .obtain⟨o',e1⟩:=I.base.there b o e hx;exact there b o' (neC b o e hx) e1
 .obtain⟨m1,e1⟩:=I.base.tbls b ps e;obtain⟨m2,e2⟩:=tbls b _ e1;exact⟨m1++m2,by rw[e2,Array.append_assoc]⟩
 .obtain⟨m,hn,hl⟩:=I.loc;refine⟨m,ns m hn,λi x v e1 e2 e3=>?_⟩;obtain⟨u,r,l⟩:=hl i x v e1 e2 e3;refine⟨u,r,?_⟩;rcases l with l | ⟨k,c,e,z⟩
  .exact .inl l
  .exact .inr ⟨k,c,e,cellK x c e _ z⟩
 .obtain⟨v,z⟩:=I.cell x c e;exact⟨v,cellK x c e v z⟩
 .obtain⟨m,⟨o,_,_,ho,_⟩,_⟩:=I.loc;exact free _ o (λz=>(hch _ z).2.1 rfl) ho I.free
 .obtain⟨v,o,ho,hd⟩:=I.cell x c e;exact free c o (λz=>(hch c z).2.2.1 x c e rfl) ho (I.freeC x c e)
 .obtain⟨e,n,ne,nf,d⟩:=I.pin p hp;have nch:p.1 ∉ ch:=λz=>(hch p.1 z).2.2.2 p hp rfl
  exact⟨keep p.1 p.2 ne nf nch e n,free p.1 p.2 nch e n,ne,nf,d⟩
def Inv.un {t':Nat}(I:Inv X pins σ H s)(u:Un X.fs [] H H' s.heap h')(hok:HOk X.prog X.w H' h'):Inv X pins σ H' { s with heap:=h',toks:=t' }:=by
 obtain⟨m,⟨o,es,ep,ho,r⟩,_⟩:=id I.loc;obtain⟨sl,hL⟩:=u.any ho I.free (by simp);exact I.step (g':=s.gens) (d':=s.drawn) (ch:=[]) (λ_ z=>nomatch z) (λb o _ hb _ e n=>u.keep b o e n hb (by simp)) (λb o _ hb _ e n=>u.slot b o e n hb (by simp)) (λb o _ e n=>u.free b o e n (by simp)) (λb o _ e=>u.there b o e (by simp)) u.tups u.frzs u.tbls (λm' hm=>by
  obtain⟨o',es',ep',ho',r'⟩:=hm;rw[ho]at ho';cases ho';exact⟨_,es',ep',hL,r'⟩) hok I.bare
def Inv.call {g':Array GenState}{t':Nat}{d':Drawn}{ch:List NP}(I:Inv X pins σ H s)(u:Un (frs X.stack) ch H H' s.heap h')(hok:HOk X.prog X.w H' h')(hg:AllBare g')
  (hch:∀b∈ch,(b∈X.ex\/X.s₀.heap.objs.size<=b)/\b≠X.env.locals/\(∀x c,X.env.cells.lookup x=some c->c≠b)/\∀p∈X.pn++pins,p.1≠b) :
  Inv X pins σ H' { s with heap:=h',gens:=g',drawn:=d',toks:=t' }:=by
 obtain⟨m,⟨o,es,ep,ho,r⟩,_⟩:=id I.loc;obtain⟨sl,hL⟩:=u.any ho I.free λz=>(hch _ z).2.1 rfl
 exact I.step (ch:=ch) hch (λb o hL hb hc e n=>u.keep b o e n (λz=>(Jl.1 (I.stkSub b z)).elim hL hb) hc) (λb o _ _ hc e n=>u.any e n hc) (λb o hc e n=>u.free b o e n hc) (λb o hc e=>u.there b o e hc) u.tups u.frzs u.tbls (λm' hm=>by
  obtain⟨o',es',ep',ho',r'⟩:=hm;rw[ho]at ho';cases ho';exact⟨_,es',ep',hL,r'⟩) hok hg
def Inv.turned {t':Nat}{it:NP}(I:Inv X pins σ H s)(k:∀b o,b≠it->s.heap.get? b=some o->h'.get? b=some o)(hn:H it=none)(hL:it≠X.env.locals)
  (h1:it∈X.ex\/X.s₀.heap.objs.size<=it) (h2:∀x c,X.env.cells.lookup x=some c->c≠it) (h3:∀p∈X.pn++pins,p.1≠it):Inv X pins σ H { s with heap:=h',toks:=t' }:=by
 have nit:∀b u,H b=some u->b≠it:=λb u e z=>by rw[z,hn]at e;cases e
 refine I.step (g':=s.gens) (d':=s.drawn) (ch:=[it]) (λb hb=>?_) (λb o _ _ hc e _=>k b o (λz=>hc (by simp[z])) e) (λb o _ _ hc e _=>⟨o.slots,k b o (λz=>hc (by simp[z])) e⟩) (λ_ _ _ _ n=>n)
  (λb o hc e=>⟨o,k b o (λz=>hc (by simp[z])) e⟩) (λ_ _ e=>e) (λ_ _ _ e=>e) (λb ps e=>⟨#[],by rw[e];simp⟩) (λm hm=>?_) (λb u e=>?_) I.bare
 .have e:b=it:=by simpa using hb
  subst e;exact⟨h1,hL,h2,h3⟩
 .obtain⟨o,es,ep,ho,r⟩:=hm;exact⟨o,es,ep,k _ o (JV hL) ho,r⟩
 .refine(I.hok b u e).stay (λc v hc q=>k c v ?_ q) (λ_ q=>q) λ_ _ q=>q
  rcases hc with z | z
  .rw[z];exact nit b u e
  .exact nit c _ z
def Inv.tok (I:Inv X pins σ H s)(t:Nat):Inv X pins σ H { s with toks:=t }:=I.un (h':=s.heap) (t':=t) Un.refl I.hok
def Inv.kept {t':Nat}(I:Inv X pins σ H s)(k:∀b u,s.heap.get? b=some u->h'.get? b=some u):Inv X pins σ H { s with heap:=h',toks:=t' }:=I.un (Un.kept k) (I.hok.kept k)
def Inv.laid {a:NP}{o:HO}{t':Nat}(I:Inv X pins σ H s)(k:∀b u,s.heap.get? b=some u->h'.get? b=some u)(hp:s.heap.objs.size<=a)(new:L9 X.prog X.w (upd H a o) h' a o) :
  Inv X pins σ (upd H a o) { s with heap:=h',toks:=t' }:=I.un (Un.laid k hp (I.hok.fresh hp)) (I.hok.laid k hp new)
def Inv.write {x e:NP}{o:HO}{t':Nat}(I:Inv X pins σ H s)(mu:Mut (H x))(he:e=x\/H e=some (.own x))(k:∀b u,b≠e->s.heap.get? b=some u->h'.get? b=some u)(heo:∃u,h'.get? e=some u)
  (new:L9 X.prog X.w (upd H x o) h' x o):Inv X pins σ (upd H x o) { s with heap:=h',toks:=t' }:=I.un (Un.write mu he k heo) (I.hok.write mu he k heo new)
def Inv.pins_of {pins':List (NP×Ob)}(I:Inv X pins σ H s)(h:∀p∈pins',s.heap.get? p.1=some p.2/\H p.1=none/\p.1≠X.env.locals/\p.1 ∉ X.fs/\∀v,p.2.data ≠ .cell v):Inv X pins' σ H s :=
 ⟨I.ok,I.os,I.bare,I.base,I.loc,I.cell,I.free,I.freeC,λp hp=>(Jj.1 hp).elim (λz=>I.pin p (MX _ z)) (h p),I.hok,I.len⟩
def mT {N:List Str}(hN:N.Nodup){i j:Nat}{x:Str}(a:N[i]? = some x)(b:N[j]? = some x):i=j:=by
 obtain⟨h1,e1⟩:=Jm.1 a;obtain⟨h2,e2⟩:=Jm.1 b;exact(List.getElem_inj hN).1 (e1.trans e2.symm)
def tE {M:Model}{A:NT}{E:NO->NQ->Prop}{i:Nat}{x:Str}{v:V}{u:NO}{Q:Unit->NQ->Prop}(I:Inv X pins σ H s)(hN:X.N.Nodup)(hi:X.N[i]? = some x)(hx:Loc X.env.scope x)(r:u6 v u)
  (h:∀s',Inv X pins (σ.set i (some v)) H s'->(∃a,NY.SameBut a s.heap s'.heap/\(a=X.env.locals\/X.env.cells.lookup x=some a))->Q () s') (hf:X.fn x=true\/X.env.scope.names.lookup x=some .local:=by first | exact .inl rfl | exact .inr rfl | assumption):Of M A (storeName X.env x u) Q E s:=by
 obtain⟨m,hn,hl⟩:=id I.loc;have hcls:(X.env.scope.kind == .class||(X.env.scope.kind == .module&&X.env.locals != X.env.globals))=false:=by rw[I.ok.kind];rfl
 have hiσ:i < σ.length:=by rw[I.len];exact(Jm.1 hi).1
 have cne:=I.cne;have tracked:∀{a:NP} {h':NY},(∃o,s.heap.get? a=some o/\H a=none)->NY.SameBut a s.heap h'->HOk X.prog X.w H h':=λ{a h'} ha hs b ob e=>by
  obtain⟨_,_,hfree⟩:=ha;refine(I.hok b ob e).stay (λc w' hc q=>(hs.2 c ?_).trans q) (λ_ q=>q) λ_ _ q=>q
  rintro rfl;rcases hc with rfl | hc
  .rw[hfree]at e;cases e
  .rw[hfree]at hc;cases hc
 rcases hx with hk | hk
 .refine wpAny_storeName_local hk hn (λh' hn' hs=>?_) hcls;obtain⟨oL,_,_,hoL,_⟩:=id hn;refine h _ ⟨I.ok,I.os,I.bare,⟨λb o e n hb hx=>?_,λb o e n hb hx=>?_,I.base.free,λb o e hx=>?_,I.base.tups,I.base.frzs,I.base.tbls⟩,⟨_,hn',λj y v' e1 e2 e3=>?_⟩,λy c e=>?_,I.free,I.freeC,λp hp=>?_,tracked ⟨oL,hoL,I.free⟩ hs,by simpa using I.len⟩ ⟨_,hs,.inl rfl⟩
  .exact(hs.2 b (JG (JH (Jz e) I.ok.above))).trans (I.base.keep b o e n hb hx)
  .obtain⟨sl,e1⟩:=I.base.slot b o e n hb hx;exact⟨sl,(hs.2 b (JG (JH (Jz e) I.ok.above))).trans e1⟩
  .obtain⟨o',e1⟩:=I.base.there b o e hx;exact⟨o',(hs.2 b (JG (JH (Jz e) I.ok.above))).trans e1⟩
  .by_cases hj:j=i
   .subst hj;rw[hi]at e1;cases e1;rw[Ju hiσ]at e2;cases e2;exact⟨u,r,.inl ⟨hk,by simp⟩⟩
   .rw[Jp (JV hj)]at e2;obtain⟨u',r',q⟩:=hl j y v' e1 e2 e3;refine⟨u',r',?_⟩;rcases q with ⟨k,e⟩ | ⟨k,c,e,z⟩
    .refine .inl ⟨k,?_⟩;have:y≠x:=λe=>hj (mT hN e1 (e▸hi))
     simp[this,e]
    .exact .inr ⟨k,c,e,z.sameBut hs (cne y c e)⟩
  .obtain⟨w',z⟩:=I.cell y c e;exact⟨w',z.sameBut hs (cne y c e)⟩
  .obtain⟨e,n,ne,nf,d⟩:=I.pin p hp;exact⟨(hs.2 p.1 ne).trans e,n,ne,nf,d⟩
 .have hfn:X.fn x=true:=by
   rcases hf with z | z
   .exact z
   .rw[z]at hk;cases hk
  obtain⟨c,hc⟩:=I.ok.has x (.inl hk);obtain⟨w',z⟩:=I.cell x c hc;refine wpAny_storeName_cell I.ok.kind hk hc z (λh' hc' hs=>?_);obtain⟨oc,hoc,hocd⟩:=id z;refine h { s with heap:=h' } ⟨I.ok,I.os,I.bare,⟨λb o e n hb hx=>?_,λb o e n hb hx=>?_,I.base.free,λb o e hx=>?_,I.base.tups,I.base.frzs,I.base.tbls⟩,⟨m,hn.sameBut hs (JV (cne x c hc)),λj y v' e1 e2 e3=>?_⟩,λy c' e=>?_,I.free,I.freeC,λp hp=>?_,tracked ⟨oc,hoc,I.freeC x c hc⟩ hs,by simpa using I.len⟩ ⟨c,hs,.inr hc⟩
  .exact(hs.2 b (JG (JH (Jz e) (I.ok.cab x c hfn hc)))).trans (I.base.keep b o e n hb hx)
  .obtain⟨sl,e1⟩:=I.base.slot b o e n hb hx;exact⟨sl,(hs.2 b (JG (JH (Jz e) (I.ok.cab x c hfn hc)))).trans e1⟩
  .obtain⟨o',e1⟩:=I.base.there b o e hx;exact⟨o',(hs.2 b (JG (JH (Jz e) (I.ok.cab x c hfn hc)))).trans e1⟩
  .by_cases hj:j=i
   .subst hj;rw[hi]at e1;cases e1;rw[Ju hiσ]at e2;cases e2;exact⟨u,r,.inr ⟨.inl hk,c,hc,hc'⟩⟩
   .rw[Jp (JV hj)]at e2;obtain⟨u',r',q⟩:=hl j y v' e1 e2 e3;refine⟨u',r',?_⟩;rcases q with q | ⟨k,c',e,z'⟩
    .exact .inl q
    .refine .inr ⟨k,c',e,z'.sameBut hs ?_⟩;rintro rfl;exact hj (mT hN e1 (I.ok.inj _ _ _ e hc▸hi))
  .by_cases hcc:c'=c
   .subst hcc;exact⟨_,hc'⟩
   .obtain⟨w2,z2⟩:=I.cell y c' e;exact⟨w2,z2.sameBut hs hcc⟩
  .obtain⟨e,n,ne,nf,d⟩:=I.pin p hp;refine⟨(hs.2 p.1 ?_).trans e,n,ne,nf,d⟩;intro q;rw[q,hoc]at e;have q':oc=p.2:=Jt e;exact d w' (by rw[<-q'];exact hocd)
def O0 {M:Model}{A:NT}{E:NO->NQ->Prop}{i:Nat}{x:Str}{v:V}{u:NO}{Q:Unit->NQ->Prop}(I:Inv X pins σ H s)(hN:X.N.Nodup)(hi:X.N[i]? = some x)(hx:Loc X.env.scope x)(r:u6 v u)
  (h:∀s',Inv X pins (σ.set i (some v)) H s'->Q () s') (hf:X.fn x=true\/X.env.scope.names.lookup x=some .local:=by first | exact .inl rfl | exact .inr rfl | assumption):Of M A (storeName X.env x u) Q E s :=
 tE I hN hi hx r (λs' I' _=>h s' I') hf
def Inv.call' {s':NQ}{ch:List NP}(I:Inv X pins σ H s)(ho:s'.os=s.os)(u:Un (frs X.stack) ch H H' s.heap s'.heap)(hok:HOk X.prog X.w H' s'.heap)(hg:AllBare s'.gens)
  (hch:∀b∈ch,(b∈X.ex\/X.s₀.heap.objs.size<=b)/\b≠X.env.locals/\(∀x c,X.env.cells.lookup x=some c->c≠b)/\∀p∈X.pn++pins,p.1≠b):Inv X pins σ H' s':=by
 obtain⟨h',g',d',t',o'⟩:=s';have e:o'=s.os:=ho;subst e;exact I.call (g':=g') (t':=t') (d':=d') u hok hg hch
end
abbrev XK:=NO->Option NP->Hp->Prop
abbrev St:=List (Option V)
abbrev VK:=V->Hp->Prop
abbrev TE:=St->Hp->VK->Prop
abbrev TT:=St->Hp->(Bool->Hp->Prop)->Prop
abbrev TA:=St->Hp->(List V->Hp->Prop)->Prop
structure Ends where
 nx:St->Hp->Prop
 rt:VK
 bk:St->Hp->Prop:=λ_ _=>False
 ct:St->Hp->Prop:=λ_ _=>False
abbrev TS:=Ends->St->Hp->Prop
def EP (X:Cx)(pins:List (NP×Ob))(σ:St)(Q:VK)(u:NO)(s':NQ):Prop:=∃v H',Inv X pins σ H' s'/\u6 v u/\Q v H'
def TP (X:Cx)(pins:List (NP×Ob))(σ:St)(Q:Bool->Hp->Prop)(b:Bool)(s':NQ):Prop:=∃H',Inv X pins σ H' s'/\Q b H'
def AP (X:Cx)(pins:List (NP×Ob))(σ:St)(Q:List V->Hp->Prop)(us:List NO)(s':NQ):Prop:=∃vs H',Inv X pins σ H' s'/\l0 vs us/\Q vs H'
def SP (X:Cx)(pins:List (NP×Ob))(D:Ends)(f:Flow)(s':NQ):Prop :=
 match f with
 | .next=>∃σ' H',Inv X pins σ' H' s'/\D.nx σ' H'
 | .brk=>∃σ' H',Inv X pins σ' H' s'/\D.bk σ' H'
 | .cont=>∃σ' H',Inv X pins σ' H' s'/\D.ct σ' H'
 | .ret u=>∃v σ' H',Inv X pins σ' H' s'/\u6 v u/\D.rt v H'
def PE (X:Cx)(e:NX)(t:TE):Prop :=
 ∀(pins:List (NP×Ob)) (s:NQ) (σ:St) (H:Hp) (Q:VK),Inv X pins σ H s->t σ H Q->Of (model X.prog X.w) X.A (eval e X.env) (EP X pins σ Q) X.xe s
def PT (X:Cx)(e:NX)(t:TT):Prop :=
 ∀(pins:List (NP×Ob)) (s:NQ) (σ:St) (H:Hp) (Q:Bool->Hp->Prop),Inv X pins σ H s->t σ H Q->Of (model X.prog X.w) X.A (isTrue e X.env (eval e X.env)) (TP X pins σ Q) X.xe s
def PW (X:Cx)(e:NX)(t:TT):Prop :=
 ∀(whole:Sem NO) (pins:List (NP×Ob)) (s:NQ) (σ:St) (H:Hp) (Q:Bool->Hp->Prop),Inv X pins σ H s->t σ H Q->Of (model X.prog X.w) X.A (isTrue e X.env whole) (TP X pins σ Q) X.xe s
def PW.pt {X:Cx}{e:NX}{t:TT}(h:PW X e t):PT X e t:=h _
def PA (X:Cx)(es:List NX)(t:TA):Prop :=
 ∀(pos:Pos) (pins:List (NP×Ob)) (s:NQ) (σ:St) (H:Hp) (Q:List V->Hp->Prop),Inv X pins σ H s->t σ H Q->Of (model X.prog X.w) X.A (spliced (Od pos (Oa es X.env))) (AP X pins σ Q) X.xe s
def PS (X:Cx)(st:NW)(t:TS):Prop :=
 ∀(pins:List (NP×Ob)) (s:NQ) (σ:St) (H:Hp) (D:Ends),Inv X pins σ H s->t D σ H->Of (model X.prog X.w) X.A (exec st X.env) (SP X pins D) X.xe s
def PSs (X:Cx)(st:List NW)(t:TS):Prop :=
 ∀(pins:List (NP×Ob)) (s:NQ) (σ:St) (H:Hp) (D:Ends),Inv X pins σ H s->t D σ H->Of (model X.prog X.w) X.A (execs st X.env) (SP X pins D) X.xe s
def thn {α:Type}{t:Sem α}{Q Q':α->NQ->Prop}{M:Model}{A:NT}{E:NO->NQ->Prop}{s:NQ}(h:Of M A t Q E s)(hQ:∀a s,Q a s->Q' a s):Of M A t Q' E s:=KM h hQ λ_ _ x=>x
end
section
section
variable {X:Cx}
def t9 (i:Nat):TE:=λσ H Q=>∃v,σ[i]? = some (some v)/\Q v H
def tC (v:V):TE:=λ_ H Q=>Q v H
def D4 {i:Nat}{x:Str}{pos:Pos}(hN:X.N[i]? = some x)(hv:Vis X.env.scope x)(hd:(x == ("__debug__":Str))=false:=by decide)(hcd:(x == ("__classdict__":Str))=false:=by decide):PE X (.Name x pos) (t9 i):=by
 intro pins s σ H Q I h;obtain⟨v,e,h⟩:=h;obtain⟨m,hn,hl⟩:=I.loc;obtain⟨u,r,l⟩:=hl i x v hN e hv;have fin:EP X pins σ Q u s:=⟨v,H,I,r,h⟩;rcases l with ⟨hk,hm⟩ | ⟨hk,c,hc,hcell⟩
 .exact wpAny_Name (wpAny_loadName_local I.ok.kind hk hn hm fin) hd
 .rcases hk with hk | hk
  .exact wpAny_Name (wpAny_loadName_cell I.ok.kind hk hc hcell fin) hd
  .exact wpAny_Name (wpAny_loadName_free I.ok.kind hk hc hcell fin hcd) hd
def i7 {i j pos}:PE X (.Constant (.int i) j pos) (tC (.int i)):=λ_ _ _ H _ I h=>wpAny_Constant_int ⟨.int i,H,I.tok _,⟨_,rfl⟩,h⟩
def El {b j pos}:PE X (.Constant (.bool b) j pos) (tC (.bl b)):=λ_ _ _ H _ I h=>Constant_bool ⟨.bl b,H,I,rfl,h⟩
def BC {j pos}:PE X (.Constant .none j pos) (tC .non):=λ_ _ _ H _ I h=>Constant_none ⟨.non,H,I,rfl,h⟩
def z7 {x j pos}:PE X (.Constant (.str x) j pos) (tC (.str x)):=λ_ _ _ H _ I h=>Calls.Constant_str ⟨.str x,H,I.tok _,⟨_,rfl⟩,h⟩
def Gl (X:Cx)(x:Str):Prop:=X.env.kindOf x=some .globalImplicit
def qI {E:NO->NQ->Prop}{pins:List (NP×Ob)}{s:NQ}{σ:St}{H:Hp}{x:Str}{u:NO}{pos:Pos}{Q:NO->NQ->Prop}(I:Inv X pins σ H s)(hg:Gl X x)(hm:X.mg x=some u)(h:Q u s)
  (hd:(x == ("__debug__":Str))=false:=by decide):Of (model X.prog X.w) X.A (eval (.Name x pos) X.env) Q E s :=
 Calls.Name_function_global I.ok.kind hg (Calls.loadGlobal_global (by rw[I.ok.glob];exact I.mod.glob.keeps I.bk) hm h) hd
def aK {E:NO->NQ->Prop}{pins:List (NP×Ob)}{s:NQ}{σ:St}{H:Hp}{x:Str}{u:NO}{pos:Pos}{Q:NO->NQ->Prop}(I:Inv X pins σ H s)(hg:Gl X x)(hm:X.mg x=none)(hv:Oj x=some u)(h:Q u s)
  (hn:x ≠ "__name__":=by decide) (hd:(x == ("__debug__":Str))=false:=by decide):Of (model X.prog X.w) X.A (eval (.Name x pos) X.env) Q E s:=by
 obtain⟨mb,h1,h2⟩:=I.mod.blt;exact Calls.Name_function_global I.ok.kind hg (Calls.loadGlobal_builtin (by rw[I.ok.glob];exact I.mod.glob.keeps I.bk) hm (by rw[I.ok.blt];exact h1.keeps I.bk) ((h2 x hn).trans hv) h) hd
def xV {x:Str}{v:V}{u:NO}{pos:Pos}(hg:Gl X x)(hm:X.mg x=some u)(r:u6 v u)(hd:(x == ("__debug__":Str))=false:=by decide):PE X (.Name x pos) (tC v) :=
 λ_ _ _ H _ I h=>qI I hg hm ⟨v,H,I,r,h⟩ hd
variable {a b:NX}{ta tb:TE}{pos:Pos}
variable {tA tB':TT}{rest:List NX}
def zl (t u:TT):TT:=λσ H Q=>t σ H λc H1=>if c=true then u σ H1 Q else Q false H1
def tOr (t u:TT):TT:=λσ H Q=>t σ H λc H1=>if c=true then Q true H1 else u σ H1 Q
def DJ (t:TT):TT:=λσ H Q=>t σ H λc H1=>Q (!c) H1
def kE (ha:PT X a tA):PW X (.BoolOp .And [a] pos) tA:=by
 intro wh pins s σ H Q I h;refine isTrue_and (thn (ha pins s σ H Q I h) λc s1 e=>?_);cases c with
 | true=>exact isTrue_and_nil e
 | false=>exact e
def Bo (ha:PT X a tA):PW X (.BoolOp .Or [a] pos) tA:=by
 intro wh pins s σ H Q I h;refine isTrue_or (thn (ha pins s σ H Q I h) λc s1 e=>?_);cases c with
 | false=>exact isTrue_or_nil e
 | true=>exact e
def oG (ha:PT X a tA)(hb:PW X (.BoolOp .And (b::rest) pos) tB'):PW X (.BoolOp .And (a::b::rest) pos) (zl tA tB'):=by
 intro wh pins s σ H Q I h;refine isTrue_and (thn (ha pins s σ H _ I h) λc s1 ⟨H1,I1,q1⟩=>?_);cases c with
 | true=>exact hb wh pins s1 σ H1 Q I1 q1
 | false=>exact⟨H1,I1,q1⟩
def Di (ha:PT X a tA)(hb:PW X (.BoolOp .Or (b::rest) pos) tB'):PW X (.BoolOp .Or (a::b::rest) pos) (tOr tA tB'):=by
 intro wh pins s σ H Q I h;refine isTrue_or (thn (ha pins s σ H _ I h) λc s1 ⟨H1,I1,q1⟩=>?_);cases c with
 | true=>exact⟨H1,I1,q1⟩
 | false=>exact hb wh pins s1 σ H1 Q I1 q1
def Ck (ha:PT X a tA):PT X (.UnaryOp .Not a pos) (DJ tA):=by
 intro pins s σ H Q I h;exact isTrue_not (ha pins s σ H (λc H1=>Q (!c) H1) I h)
def wb (ta tb:TE):TE:=λσ H Q=>ta σ H λx H1=>∃c,x = .bl c/\if c=true then tb σ H1 Q else Q (.bl false) H1
def zR (ta:TE):TE:=λσ H Q=>ta σ H λx H1=>∃c,x = .bl c/\Q (.bl (!c)) H1
def xF {op}{t:TE}(h:PE X a t):PE X (.BoolOp op [a] pos) t:=λpins s σ H Q I hw=>BoolOp_one (h pins s σ H Q I hw)
def vc (ha:PE X a ta)(hb:PE X (.BoolOp .And (b::rest) pos) tb):PE X (.BoolOp .And (a::b::rest) pos) (wb ta tb):=by
 intro pins s σ H Q I h;refine BoolOp_and (thn (ha pins s σ H _ I h) λv s1 ⟨x,H1,I1,r1,q1⟩=>?_);obtain⟨c,rfl,q1⟩:=q1;cases r1;refine Lp ?_;cases c with
 | true=>exact hb pins s1 σ H1 Q I1 q1
 | false=>exact⟨.bl false,H1,I1,rfl,q1⟩
def Cg (ha:PE X a ta):PE X (.UnaryOp .Not a pos) (zR ta):=by
 intro pins s σ H Q I h;refine UnaryOp_ (thn (ha pins s σ H _ I h) λv s1 ⟨x,H1,I1,r1,q1⟩=>?_);obtain⟨c,rfl,q1⟩:=q1;cases r1;exact not_of (Lp ⟨.bl (!c),H1,I1,rfl,q1⟩)
def tIf (t:TT)(ta tb:TE):TE:=λσ H Q=>t σ H λc H1=>if c=true then ta σ H1 Q else tb σ H1 Q
def mw {c:NX}(hc:PT X c tA)(ha:PE X a ta)(hb:PE X b tb):PE X (.IfExp c a b pos) (tIf tA ta tb):=by
 intro pins s σ H Q I h;refine wpAny_IfExp (thn (hc pins s σ H _ I h) λd s1 ⟨H1,I1,q1⟩=>?_);cases d with
 | true=>exact ha pins s1 σ H1 Q I1 q1
 | false=>exact hb pins s1 σ H1 Q I1 q1
end
end
section
def SqL (K:Fg)(H:Hp)(a:NP)(xs:List V):Prop :=
 Rd H a (.lst xs) \/
  ∃(o:Ob) (its:Array NO) (n:Nat),K.lookup a=some o/\o.cls = .type "list" /\ o.dict=none/\o.data = .seq its n/\its.size<=NZ/\l0 xs its.toList
def SqT (K:Fg)(H:Hp)(a:NP)(xs:List V):Prop :=
 Rd H a (.tup xs) \/
  ∃(o:Ob) (its:Array NO) (n:Nat),K.lookup a=some o/\o.cls = .type "tuple" /\ o.data = .seq its n/\its.size<=NZ/\l0 xs its.toList
def ER:NO->Option V
 | .none=>some .non
 | .bool b=>some (.bl b)
 | .int i _=>some (.int i)
 | .str x _=>some (.str x)
 | .bytes b _=>some (.byt b)
 | .float b _=>some (.flt b)
 | .ref a=>some (.ref a)
 | .type n=>some (.ty n)
 | _=>none
def u6.abs {x:V}{u:NO}(r:u6 x u):ER u=some x:=by
 cases x with
 | non=>cases r;rfl
 | bl _=>cases r;rfl
 | int _=>obtain⟨t,rfl⟩:=r;rfl
 | str _=>obtain⟨t,rfl⟩:=r;rfl
 | byt _=>obtain⟨t,rfl⟩:=r;rfl
 | flt _=>obtain⟨t,rfl⟩:=r;rfl
 | ref _=>cases r;rfl
 | ty _=>cases r;rfl
def u6.inj {x y:V}{u:NO}(r:u6 x u)(q:u6 y u):x=y:=Jt (r.abs.symm.trans q.abs)
theorem l0.inj:∀{xs ys:List V} {us:List NO},l0 xs us->l0 ys us->xs=ys
 | _,_,_,.nil,.nil=>rfl
 | _,_,_,.cons r t,.cons r' t'=>by rw[r.inj r',l0.inj t t']
section
variable {X:Cx}{pins:List (NP×Ob)}{σ:St}{H:Hp}{s:NQ}{a:NP}{xs ys:List V}
def SqL.of {K:Fg}(h:H a=some (.lst xs)):SqL K H a xs:=.inl (.inl h)
def SqT.of {K:Fg}(h:H a=some (.tup xs)):SqT K H a xs:=.inl (.inl h)
def Inv.list (I:Inv X pins σ H s)(h:SqL X.K H a xs):∃its:List NO,l0 xs its/\PlainL s.heap a its.toArray/\xs.length<=NZ:=by
 rcases h with h | ⟨o,its,n,hk,hc,hd,hs,hz,r⟩
 .obtain⟨z,its,n,r,e⟩:=h.ok I.hok;exact⟨its,r,⟨_,n,e,rfl,rfl,rfl⟩,z⟩
 .refine⟨its.toList,r,⟨o,n,I.kIn a o hk,hc,hd,by simpa using hs⟩,?_⟩;have e:=r.length;simp only[KY]at e;omega
def Inv.tuple (I:Inv X pins σ H s)(h:SqT X.K H a xs):∃its:List NO,l0 xs its/\IsTup s.heap a its.toArray/\xs.length<=NZ:=by
 rcases h with h | ⟨o,its,n,hk,hc,hs,hz,r⟩
 .obtain⟨z,its,r,p⟩:=h.ok I.hok;exact⟨its,r,p,z⟩
 .refine⟨its.toList,r,⟨o,I.kIn a o hk,hc,n,by simpa using hs⟩,?_⟩;have e:=r.length;simp only[KY]at e;omega
def Inv.list_inj (I:Inv X pins σ H s)(h:SqL X.K H a xs)(h':SqL X.K H a ys):xs=ys:=by
 obtain⟨its,r,⟨o,n,e,_,_,d⟩,_⟩:=I.list h;obtain⟨its',r',⟨o',n',e',_,_,d'⟩,_⟩:=I.list h';rw[e]at e';cases e';rw[d]at d';injection d' with d1 _
 have:its=its':=by simpa using Kk Array.toList d1
 subst this;exact r.inj r'
def Inv.tuple_inj (I:Inv X pins σ H s)(h:SqT X.K H a xs)(h':SqT X.K H a ys):xs=ys:=by
 obtain⟨its,r,⟨o,e,_,n,d⟩,_⟩:=I.tuple h;obtain⟨its',r',⟨o',e',_,n',d'⟩,_⟩:=I.tuple h';rw[e]at e';cases e';rw[d]at d';injection d' with d1 _
 have:its=its':=by simpa using Kk Array.toList d1
 subst this;exact r.inj r'
end
abbrev Cx.wish (X:Cx)(E:NO->NQ->Prop):Cx:={ X with xe:=E }
abbrev Cx.nox (X:Cx):Cx:=X.wish λ_ _=>False
def Cx.Ok.wish {X:Cx}(ok:X.Ok)(E:NO->NQ->Prop):(X.wish E).Ok :=
 ⟨ok.mod,ok.kind,ok.glob,ok.blt,ok.above,ok.inj,ok.has,ok.cab,ok.hd,ok.frames,ok.stk,ok.exf,ok.bs,ok.bsz,ok.noex,ok.exfs,ok.funs,ok.frf⟩
def Cx.Ok.unwish {X:Cx}{E:NO->NQ->Prop}(ok:(X.wish E).Ok):X.Ok :=
 ⟨ok.mod,ok.kind,ok.glob,ok.blt,ok.above,ok.inj,ok.has,ok.cab,ok.hd,ok.frames,ok.stk,ok.exf,ok.bs,ok.bsz,ok.noex,ok.exfs,ok.funs,ok.frf⟩
section
variable {X:Cx}{pins:List (NP×Ob)}{σ:St}{H:Hp}{s:NQ}{E:NO->NQ->Prop}
def Inv.wish (I:Inv X pins σ H s)(E:NO->NQ->Prop):Inv (X.wish E) pins σ H s:=⟨I.ok.wish E,I.os,I.bare,I.base,I.loc,I.cell,I.free,I.freeC,I.pin,I.hok,I.len⟩
def Inv.unwish (I:Inv (X.wish E) pins σ H s):Inv X pins σ H s:=⟨I.ok.unwish,I.os,I.bare,I.base,I.loc,I.cell,I.free,I.freeC,I.pin,I.hok,I.len⟩
def SP.unwish {D:Ends}{f:Flow}{s':NQ}(h:SP (X.wish E) pins D f s'):SP X pins D f s':=by
 cases f with
 | next=>obtain⟨σ',H',I,q⟩:=h;exact⟨σ',H',I.unwish,q⟩
 | brk=>obtain⟨σ',H',I,q⟩:=h;exact⟨σ',H',I.unwish,q⟩
 | cont=>obtain⟨σ',H',I,q⟩:=h;exact⟨σ',H',I.unwish,q⟩
 | ret u=>obtain⟨v,σ',H',I,r,q⟩:=h;exact⟨v,σ',H',I.unwish,r,q⟩
def PSs.nox {st:List NW}{t:TS}(h:PSs X.nox st t):PSs X st t:=λpins s σ H D I hw =>
 KM (h pins s σ H D (I.wish _) hw) (λ_ _ q=>q.unwish) λ_ _ z=>False.elim z
end
section
variable {X:Cx}{st:NW}{rest:List NW}{t u:TS}{e:NX}{te:TE}{pos:Pos}
def vS:TS:=λD σ H=>D.nx σ H
def T5 (t u:TS):TS:=λD σ H=>t { D with nx:=u D } σ H
def gB:PSs X [] vS:=λ_ _ σ H _ I h=>wpAny_execs_nil ⟨σ,H,I,h⟩
def l3 (h1:PS X st t)(h2:PSs X rest u):PSs X (st::rest) (T5 t u):=by
 intro pins s σ H D I h;refine wpAny_execs_cons (thn (h1 pins s σ H { D with nx:=u D } I h) λf s1 q=>?_);cases f with
 | next =>
  obtain⟨σ',H',I',q⟩:=q;exact h2 pins s1 σ' H' D I' q
 | ret v=>exact q
 | brk=>exact q
 | cont=>exact q
def C6 (h1:PS X st t):PSs X [st] t:=by
 intro pins s σ H D I h;refine wpAny_execs_cons (thn (h1 pins s σ H D I h) λf s1 q=>?_);cases f with
 | next=>exact wpAny_execs_nil q
 | ret v=>exact q
 | brk=>exact q
 | cont=>exact q
def zQ:TS:=λD σ H=>D.ct σ H
def og:PS X (.Continue pos) zQ:=λ_ _ σ H _ I h=>wpAny_Continue ⟨σ,H,I,h⟩
def Inv.quiet {pins:List (NP×Ob)}{σ:St}{H:Hp}{s:NQ}(I:Inv X pins σ H s):interactive X.env=false:=by simp[interactive,I.ok.kind]
def cb (te:TE):TS:=λD σ H=>te σ H λ_ H1=>D.nx σ H1
def ag (he:PE X e te)(hs:Oh e none pos.line X.env=pure false:=by rfl):PS X (.Expr e pos) (cb te):=by
 intro pins s σ H D I h;exact wpAny_Expr_any (thn (he pins s σ H _ I h) λv s1 ⟨x,H1,I1,r1,q1⟩=>⟨σ,H1,I1,q1⟩) I.quiet hs
def oK (te:TE):TS:=λD σ H=>te σ H D.rt
def X7 (he:PE X e te):PS X (.Return (some e) pos) (oK te):=by
 intro pins s σ H D I h;exact wpAny_Return_some (thn (he pins s σ H _ I h) λv s1 ⟨x,H1,I1,r1,q1⟩=>⟨x,σ,H1,I1,r1,q1⟩)
def lX (c:TT)(t u:TS):TS:=λD σ H=>c σ H λb H1=>if b=true then t D σ H1 else u D σ H1
def iS {c:NX}{a b:List NW}{tc:TT}(hc:PT X c tc)(ha:PSs X a t)(hb:PSs X b u):PS X (.If c a b pos) (lX tc t u):=by
 intro pins s σ H D I h;refine wpAny_If (thn (hc pins s σ H _ I h) λd s1 ⟨H1,I1,q1⟩=>?_);cases d with
 | true=>exact ha pins s1 σ H1 D I1 q1
 | false=>exact hb pins s1 σ H1 D I1 q1
end
abbrev TG:=V->St->Hp->(St->Hp->Prop)->Prop
abbrev TGs:=List V->St->Hp->(St->Hp->Prop)->Prop
def PG (X:Cx)(target:NX)(t:TG):Prop :=
 ∀(pins:List (NP×Ob)) (s:NQ) (σ:St) (H:Hp) (v:V) (u:NO) (Q:St->Hp->Prop),Inv X pins σ H s->u6 v u->t v σ H Q ->
  Of (model X.prog X.w) X.A (assign target X.env u) (λ_ s'=>∃σ' H',Inv X pins σ' H' s'/\Q σ' H') X.xe s
def PGs (X:Cx)(ts:List NX)(t:TGs):Prop :=
 ∀(pins:List (NP×Ob)) (s:NQ) (σ:St) (H:Hp) (vs:List V) (us:List NO) (Q:St->Hp->Prop),Inv X pins σ H s->l0 vs us->t vs σ H Q ->
  Of (model X.prog X.w) X.A (assignInOrder ((Om ts X.env).map (·.2)) us) (λ_ s'=>∃σ' H',Inv X pins σ' H' s'/\Q σ' H') X.xe s
abbrev BG:=V->V->V->Hp->(Hp->Prop)->Prop
def DT (X:Cx)(t:BG):Prop :=
 ∀(pins:List (NP×Ob)) (s:NQ) (σ:St) (H:Hp) (o i v:V) (ov iv u:NO) (Q:Hp->Prop),Inv X pins σ H s->u6 o ov->u6 i iv->u6 v u->t o i v H Q ->
  Of (model X.prog X.w) X.A (setItem ov iv u) (λ_ s'=>∃H',Inv X pins σ H' s'/\Q H') X.xe s
abbrev TIp:=V->V->Hp->VK->Prop
def PIp (X:Cx)(op:Operator)(t:TIp):Prop :=
 ∀(pins:List (NP×Ob)) (s:NQ) (σ:St) (H:Hp) (x y:V) (v u:NO) (Q:VK),Inv X pins σ H s->u6 x v->u6 y u->t x y H Q ->
  Of (model X.prog X.w) X.A (inplaceOp op v u) (EP X pins σ Q) X.xe s
section
variable {X:Cx}{pos:Pos}
def K0 (i:Nat):TG:=λv σ H Q=>Q (σ.set i (some v)) H
def gz {i:Nat}{x:Str}(hN:X.N.Nodup)(hi:X.N[i]? = some x)(hx:Loc X.env.scope x)(hf:X.fn x=true\/X.env.scope.names.lookup x=some .local:=by first | exact .inl rfl | exact .inr rfl | assumption):PG X (.Name x pos) (K0 i):=by
 intro pins s σ H v u Q I r h;exact wpAny_assign_Name (O0 I hN hi hx r (λs' I'=>⟨_,H,I',h⟩) hf)
def CA:TGs:=λvs σ H Q=>vs=[]/\Q σ H
def rK (t:TG)(u:TGs):TGs:=λvs σ H Q=>∃v r,vs=v::r/\t v σ H λσ' H'=>u r σ' H' Q
def qN:PGs X [] CA:=by
 intro pins s σ H vs us Q I r h;obtain⟨e,h⟩:=h;subst e;cases r;exact assignInOrder_nil ⟨σ,H,I,h⟩
def gR {e:NX}{es:List NX}{t:TG}{u:TGs}(h1:PG X e t)(h2:PGs X es u)
  (hs:(Om (e::es) X.env).map (·.2)=assign e X.env::(Om es X.env).map (·.2):=by rfl):PGs X (e::es) (rK t u):=by
 intro pins s σ H vs us Q I r h;obtain⟨v,vr,e1,h⟩:=h;subst e1;cases r with
 | cons r rr =>
  rw[hs];refine Ly (thn (h1 pins s σ H _ _ _ I r h) λ_ s1 ⟨σ1,H1,I1,q1⟩=>?_);exact h2 pins s1 σ1 H1 _ _ Q I1 rr q1
def zD (K:Fg)(n:Nat)(t:TGs):TG:=λv σ H Q=>∃a xs,v = .ref a/\SqT K H a xs/\xs.length=n/\t xs σ H Q
def AJ {es:List NX}{k:Nat}{t:TGs}{n:Nat}(hc:X.calm=true)(h:PGs X es t)
  (hn:(Om es X.env).length=n:=by rfl) (hst:(Om es X.env).findIdx? (·.1)=none:=by rfl):PG X (.Tuple es k pos) (zD X.K n t):=by
 intro pins s σ H v u Q I r hw;obtain⟨a,xs,e1,hq,hl,hw⟩:=hw;subst e1;cases r;obtain⟨its,rv,ht,hz⟩:=I.tuple hq;refine assign_Tuple_tuple (I.ok.hd hc) ht (by simp[hn,<-hl,rv.length]) hst λh' hx=>?_
 have I1:Inv X pins σ H { s with heap:=h' }:=I.kept (t':=s.toks) λb o e=>hx b o (JG (Jz e)) e
 exact h pins _ σ H xs _ Q I1 (by simpa using rv) hw
def kH (to ti:TE)(t:BG):TG:=λv σ H Q=>to σ H λo H1=>ti σ H1 λi H2=>t o i v H2 λH3=>Q σ H3
def ae {o i:NX}{to ti:TE}{t:BG}(ho:PE X o to)(hi:PE X i ti)(hs:DT X t)
  (ha:∀v,assign (.Subscript o i pos) X.env v=(do
   let ov <-holding [v] (eval o X.env)
   let iv <-holding [v,ov] (eval i X.env)
   standAt pos
   holding [v,ov,iv] (setItem ov iv v)
   release [v,ov,iv] []):=by intro _;rfl):PG X (.Subscript o i pos) (kH to ti t):=by
 intro pins s σ H v u Q I r h;rw[ha];refine Jg (Ld (thn (ho pins s σ H _ I h) λov s1 ⟨x,H1,I1,r1,q1⟩=>?_));refine Jg (Ld (thn (hi pins s1 σ H1 _ I1 q1) λiv s2 ⟨y,H2,I2,r2,q2⟩=>?_));refine Jg (MT (Jg (Ld (thn (hs pins s2 σ H2 x y v ov iv u _ I2 r1 r2 r q2) λ_ s3 ⟨H3,I3,q3⟩=>?_))));exact wpAny_release ⟨σ,H3,I3,q3⟩
def N0 (te:TE)(g:TG):TS:=λD σ H=>te σ H λx H1=>g x σ H1 D.nx
def T7 {tg e:NX}{te:TE}{g:TG}(he:PE X e te)(hg:PG X tg g)(hs:swapsWithSole [tg] e pos.line X.env=pure false:=by rfl)(hw:swappedStores [tg] e X.env=pure none:=by rfl)
  (h1:(Om [tg] X.env).map (·.2)=[assign tg X.env]:=by rfl):PS X (.Assign [tg] e pos) (N0 te g):=by
 intro pins s σ H D I h;refine wpAny_Assign_stores (thn (he pins s σ H _ I h) λv s1 ⟨x,H1,I1,r1,q1⟩=>?_) hs hw;rw[h1];exact thn (hg pins s1 σ H1 x v _ I1 r1 q1) λ_ s2 q=>q
def N1 {i:Nat}{x:Str}{e:NX}{te:TE}{pos':Pos}(hN:X.N.Nodup)(hi:X.N[i]? = some x)(hx:Loc X.env.scope x)(he:PE X e te)(hs:Oh e (some (.Name x pos')) pos.line X.env=pure false:=by rfl)(hf:X.fn x=true\/X.env.scope.names.lookup x=some .local:=by first | exact .inl rfl | exact .inr rfl | assumption) :
  PS X (.Assign [.Name x pos'] e pos) (N0 te (K0 i)):=by
 intro pins s σ H D I h;refine wpAny_Assign_Name (thn (he pins s σ H _ I h) λv s1 ⟨y,H1,I1,r1,q1⟩=>?_) hs;exact O0 I1 hN hi hx r1 (λs2 I2=>⟨_,H1,I2,q1⟩) hf
def DG (i j:Nat)(ta:TA):TS:=λD σ H=>ta σ H λvs H1=>∃v w,vs=[v,w]/\D.nx ((σ.set i (some v)).set j (some w)) H1
def Cj {i j:Nat}{x y:Str}{a b:NX}{ta:TA}{px py pt:Pos}{kt k2 pt2}(hc:X.calm=true)(hN:X.N.Nodup)(hi:X.N[i]? = some x)(hj:X.N[j]? = some y)(hij:i≠j)
  (hx:X.env.scope.names.lookup x=some .local) (hy:X.env.scope.names.lookup y=some .local) (ha:PA X [a,b] ta)
  (hw:swappedStores [.Tuple [.Name x px,.Name y py] kt pt] (.Tuple [a,b] k2 pt2) X.env=pure (some [x,y]))
  (hs:swapsWithSole [.Tuple [.Name x px,.Name y py] kt pt] (.Tuple [a,b] k2 pt2) pos.line X.env=pure false:=by rfl) :
  PS X (.Assign [.Tuple [.Name x px,.Name y py] kt pt] (.Tuple [a,b] k2 pt2) pos) (DG i j ta):=by
 intro pins s σ H D I h;rw[exec_Assign_arm];refine Jg (MT ?_);rw[hs];refine Jg (Jx ?_);rw[Jo (by decide)];refine Jg (Tuple_ (thn (ha _ pins s σ H _ I h) λus s1 ⟨vs,H1,I1,r1,q1⟩=>?_));obtain⟨v,w,e1,q1⟩:=q1;subst e1;obtain⟨u1,u2,rfl,rv,rw'⟩:∃u1 u2,us=[u1,u2]/\u6 v u1/\u6 w u2:=by
  cases r1 with
  | cons p q =>
   cases q with
   | cons p' q' =>
    cases q';exact⟨_,_,rfl,p,p'⟩
 refine Km ?_ (by show 2<=NZ;decide);have I2:Inv X pins σ H1 { s1 with heap:=s1.heap.push { cls:=.type "tuple",data:=.seq [u1,u2].toArray } }:=I1.kept (t':=s1.toks) λb o e=>Jn _ e
 rw[hw];refine Jg (Jx ?_);show Of (model X.prog X.w) X.A (do rule "assign.swapped-stores";let items <-unpackItems (.ref s1.heap.objs.size) 2 none;assignInOrder [λv=>bindName X.env y v,λv=>bindName X.env x v] items.reverse;pure Flow.next) _ _ _;refine Jg (Md (Jg (unpackItems_tuple (items:=#[u1,u2]) (I.ok.hd hc) (Mp s1.heap _) λh' hx'=>?_)));have I3:=I2.kept (h':=h') (t':=s1.toks) λb o e=>hx' b o (JG (Jz e)) e
 show Of _ _ (assignInOrder [λv=>bindName X.env y v,λv=>bindName X.env x v] [u2,u1] >>= λ_=>pure Flow.next) _ _ _;refine Jg (Ly (MC (O0 I3 hN hj (.inl hy) rw' (λs2 I4=>?_) (.inr hy))));refine Ly (MC (O0 I4 hN hi (.inl hx) rv (λs3 I5=>assignInOrder_nil (Jx ?_)) (.inr hx)));rw[Nu _ _ (JV hij)]at I5;exact⟨_,H1,I5,q1⟩
def vI (i:Nat)(te:TE)(ti:TIp):TS:=λD σ H=>∃x,σ[i]? = some (some x)/\te σ H λy H1=>ti x y H1 λz H2=>D.nx (σ.set i (some z)) H2
def vy {i:Nat}{x:Str}{e:NX}{te:TE}{op:Operator}{ti:TIp}{pos':Pos}(hN:X.N.Nodup)(hi:X.N[i]? = some x)(hx:Loc X.env.scope x)(he:PE X e te)(ho:PIp X op ti)(hf:X.fn x=true\/X.env.scope.names.lookup x=some .local:=by first | exact .inl rfl | exact .inr rfl | assumption) :
  PS X (.AugAssign (.Name x pos') op e pos) (vI i te ti):=by
 intro pins s σ H D I h;obtain⟨v,e1,h⟩:=h;obtain⟨m,hn,hl⟩:=I.loc;have vis:Vis X.env.scope x:=by rcases hx with k | k;exact .inl k;exact .inr (.inl k)
 obtain⟨u,r,l⟩:=hl i x v hi e1 vis;refine wpAny_AugAssign_Name ?_;have go:Of (model X.prog X.w) X.A (eval e X.env) (λw s₂=>Of (model X.prog X.w) X.A (inplaceOp op u w) (λr s₃=>Of (model X.prog X.w) X.A (storeName X.env x r) (λ_=>SP X pins D .next) X.xe s₃) X.xe s₂) X.xe s:=by
  refine thn (he pins s σ H _ I h) λw s1 ⟨y,H1,I1,r1,q1⟩=>?_
  refine thn (ho pins s1 σ H1 v y u w _ I1 r r1 q1) λz s2 ⟨zv,H2,I2,r2,q2⟩=>?_
  exact O0 I2 hN hi hx r2 (λs3 I3=>⟨_,H2,I3,q2⟩) hf
 rcases l with ⟨hk,hm⟩ | ⟨hk,c,hc,hcell⟩
 .exact wpAny_loadName_local I.ok.kind hk hn hm go
 .rcases hk with hk | hk
  .exact wpAny_loadName_cell I.ok.kind hk hc hcell go
  .rcases hx with k | k
   .have:X.env.scope.names.lookup x=some .free:=hk;rw[k]at this;cases this
   .have:X.env.scope.names.lookup x=some .free:=hk;rw[k]at this;cases this
def ipI (f:Int->Int->Int):TIp:=λx y H Q=>∃i j,x = .int i/\y = .int j/\Q (.int (f i j)) H
def BJ:PIp X .Add (ipI λi j=>i+j):=by
 intro pins s σ H x y v u Q I r1 r2 h;obtain⟨i,j,e1,e2,q⟩:=h;subst e1;subst e2;obtain⟨t,rfl⟩:=r1;obtain⟨t',rfl⟩:=r2;exact iadd_int ⟨.int _,H,I.tok _,⟨_,rfl⟩,q⟩
end
section
variable {X:Cx}{pos:Pos}
end
structure It where
 go:Nat->Hp->Prop
 yld:Nat->Hp->V->Hp->Prop
 stop:Nat->Hp->Prop
def gp (X:Cx)(pins:List (NP×Ob))(H:Hp)(b:NP):Prop :=
 H b=none/\b≠X.env.locals/\b ∉ X.fs/\(b∈X.ex\/X.s₀.heap.objs.size<=b)/\(∀x c,X.env.cells.lookup x=some c->c≠b)/\∀p∈X.pn++pins,p.1≠b
def Inv.fpOk {X:Cx}{pins:List (NP×Ob)}{σ:St}{H H':Hp}{s:NQ}{b:NP}(I:Inv X pins σ H s)(hb:s.heap.objs.size<=b)(hn:H' b=none):gp X pins H' b:=by
 refine⟨hn,NC (JH I.lt hb),I.nofs hb,.inr (JM I.sz hb),λx c e z=>?_,λp hp z=>?_⟩
 .obtain⟨v,q⟩:=I.cell x c e;exact absurd (JH q.lt (by rw[z];exact hb)) (KD _)
 .exact absurd (JH (Jz (I.pin p hp).1) (by rw[z];exact hb)) (KD _)
structure Turn (P:NR) (w:NS) (K:Fg) (tg:NX) (J:It) (fp:List NP) (it:NP) (tn:Nat->NY->Prop):Prop where
 mem:it∈fp
 obj:∀i h,tn i h->∀b∈fp,∃o,h.get? b=some o/\∀v,o.data ≠ .cell v
 keep:∀i h h',tn i h->(∀b∈fp,∀o,h.get? b=some o->h'.get? b=some o)->tn i h'
 item:∀(X:Cx),X.prog=P->X.w=w->X.K=K->X.calm=true->∀(i:Nat) (pins:List (NP×Ob)) (s:NQ) (σ:St) (H:Hp) (E:NO->NQ->Prop),Inv X pins σ H s->(∀b∈fp,gp X pins H b)->tn i s.heap->J.go i H ->
  Of (model P w) X.A (pyNext (.ref it)) (λr s1=>∃u,r=some u /\
   Of (model P w) X.A (letOwnedTupleGo tg (.ref it) u) (λ_ s2=>∃x H',Inv X pins σ H' s2/\u6 x u/\J.yld i H x H'/\tn (i+1) s2.heap/\∀b∈fp,H' b=none) E s1) E s
 done:∀(X:Cx),X.prog=P->X.w=w->X.K=K->X.calm=true->∀(i:Nat) (pins:List (NP×Ob)) (s:NQ) (σ:St) (H:Hp) (E:NO->NQ->Prop),Inv X pins σ H s->(∀b∈fp,gp X pins H b)->tn i s.heap->J.stop i H ->
  Of (model P w) X.A (pyNext (.ref it)) (λr s1=>r=none/\Inv X pins σ H s1) E s
 self:∀(A:NT) (i:Nat) (s:NQ) (Q:NO->NQ->Prop) (E:NO->NQ->Prop),tn i s.heap->Q (.ref it) s->Of (model P w) A (pyIter (.ref it)) Q E s
abbrev TI:=St->Hp->(It->Hp->Prop)->Prop
def PIE (X:Cx)(pins:List (NP×Ob))(σ:St)(tg:NX)(R:It->Hp->Prop)(itv:NO)(s2:NQ):Prop :=
 ∃(it:NP) (fp:List NP) (tn:Nat->NY->Prop) (J:It) (H':Hp),itv = .ref it/\Inv X pins σ H' s2/\Turn X.prog X.w X.K tg J fp it tn/\tn 0 s2.heap/\(∀b∈fp,gp X pins H' b)/\R J H'
def PI (X:Cx)(tg iter:NX)(wi:TI):Prop :=
 ∀(pins:List (NP×Ob)) (s:NQ) (σ:St) (H:Hp) (R:It->Hp->Prop),Inv X pins σ H s->wi σ H R ->
  Of (model X.prog X.w) X.A (eval iter X.env) (λv s1=>Of (model X.prog X.w) X.A (pyIter v) (PIE X pins σ tg R) X.xe s1) X.xe s
def vz {M:Model}{A:NT}{E:NO->NQ->Prop}{s:NQ}{tg:NX}{it:NP}{u:NO}{o:Ob}{n:String}{vs:Array NO}{Q:Unit->NQ->Prop}(ho:s.heap.get? it=some o)(hc:o.cls = .type n)(hd:o.data = .fields vs)
    (hn:["enumerate","zip","dict_itemiterator","dict_reverseitemiterator","odict_iterator","itertools.zip_longest","itertools.pairwise"].contains n=false) (hQ:Q () s):Of M A (letOwnedTupleGo tg (.ref it) u) Q E s:=by
  unfold letOwnedTupleGo;cases tg <;> first
    | exact Jx hQ
    | (cases u <;> first
        | exact Jx hQ
        | (refine Jg (wpAny_load ho ?_)
           rw[hc,hd]
           show Of M A (if (["enumerate","zip","dict_itemiterator","dict_reverseitemiterator","odict_iterator","itertools.zip_longest","itertools.pairwise"].contains n&&vs[0]? == some (rawInt _))=true then _ else _) Q E s
           rw[Jo (by intro h;rw[hn,Ma]at h;cases h)]
           exact Jx hQ))
def Itl (K:Fg)(a:NP):It :=
 ⟨λi H=>∃xs x,SqL K H a xs/\xs[i]? = some x,λi H x H'=>H'=H/\∀xs,SqL K H a xs->xs[i]? = some x,λi H=>∃xs,SqL K H a xs/\xs.length<=i⟩
def Itt (K:Fg)(a:NP):It :=
 ⟨λi H=>∃xs x,SqT K H a xs/\xs[i]? = some x,λi H x H'=>H'=H/\∀xs,SqT K H a xs->xs[i]? = some x,λi H=>∃xs,SqT K H a xs/\xs.length<=i⟩
def Itr (lo:Int)(n:Nat):It:=⟨λi _=>i<n,λi H x H'=>H'=H/\x = .int (lo+i),λi _=>n<=i⟩
def tw {P:NR}{w:NS}{K:Fg}{tg:NX}(a it:NP):Turn P w K tg (Itl K a) [it] it (λi h=>h.IsListIter it a i) where
 mem:=by simp
 obj:=λi h st b hb=>by
  have e:b=it:=by simpa using hb
  subst e;obtain⟨o,e,c,d⟩:=st;exact⟨o,e,λv z=>by rw[d]at z;cases z⟩
 keep:=λi h h' st k=>st.at λo e=>k it (by simp) o e
 item:=by
  intro X hP hw hK hc i pins s σ H E I hf st hg;subst hP hw hK;obtain⟨xs,x,hq,hx⟩:=hg;obtain⟨its,rv,p,hz⟩:=I.list hq;obtain⟨u,hu,ru⟩:=rv.get hx;obtain⟨f0,f1,f2,f3,f4,f5⟩:=hf it (by simp);refine wpAny_pyNext_list_item st p.isList (x:=u) (by simpa using hu) λh' st' sb=>?_
  have I1:Inv X pins σ H { s with heap:=h' }:=I.turned (t':=s.toks) (λb o hb e=>(sb.2 b hb).trans e) f0 f1 f3 f4 f5;obtain⟨o,e,c,d⟩:=id st';exact⟨u,rfl,vz (s:={ s with heap:=h' }) e c d (by decide) ⟨x,H,I1,ru,⟨rfl,λys hy=>by rw[I.list_inj hy hq];exact hx⟩,st',λb hb=>(hf b hb).1⟩⟩
 done:=by
  intro X hP hw hK hc i pins s σ H E I hf st hg;subst hP hw hK;obtain⟨xs,hq,hx⟩:=hg;obtain⟨its,rv,p,hz⟩:=I.list hq;obtain⟨f0,f1,f2,f3,f4,f5⟩:=hf it (by simp);have hl:=rv.length;exact wpAny_pyNext_list_end (I.ok.hd hc) st p.isList (by simp;omega) λh' eb=>⟨rfl,I.turned (t':=s.toks) (λb o hb e=>eb b o hb e) f0 f1 f3 f4 f5⟩
 self:=λ_ _ _ _ _ st h=>wpAny_pyIter_listiter st h
def qu {P:NR}{w:NS}{K:Fg}{tg:NX}(a it:NP):Turn P w K tg (Itt K a) [it] it (λi h=>h.IsTupleIter it a i) where
 mem:=by simp
 obj:=λi h st b hb=>by
  have e:b=it:=by simpa using hb
  subst e;obtain⟨o,e,c,d⟩:=st;exact⟨o,e,λv z=>by rw[d]at z;cases z⟩
 keep:=λi h h' st k=>st.at λo e=>k it (by simp) o e
 item:=by
  intro X hP hw hK hc i pins s σ H E I hf st hg;subst hP hw hK;obtain⟨xs,x,hq,hx⟩:=hg;obtain⟨its,rv,p,hz⟩:=I.tuple hq;obtain⟨u,hu,ru⟩:=rv.get hx;obtain⟨f0,f1,f2,f3,f4,f5⟩:=hf it (by simp);refine wpAny_pyNext_tuple_item st (show s.heap.IsTuple a its.toArray from p) (x:=u) (by simpa using hu) λh' st' sb=>?_
  have I1:Inv X pins σ H { s with heap:=h' }:=I.turned (t':=s.toks) (λb o hb e=>(sb.2 b hb).trans e) f0 f1 f3 f4 f5;obtain⟨o,e,c,d⟩:=id st';exact⟨u,rfl,vz (s:={ s with heap:=h' }) e c d (by decide) ⟨x,H,I1,ru,⟨rfl,λys hy=>by rw[I.tuple_inj hy hq];exact hx⟩,st',λb hb=>(hf b hb).1⟩⟩
 done:=by
  intro X hP hw hK hc i pins s σ H E I hf st hg;subst hP hw hK;obtain⟨xs,hq,hx⟩:=hg;obtain⟨its,rv,p,hz⟩:=I.tuple hq;obtain⟨f0,f1,f2,f3,f4,f5⟩:=hf it (by simp);have hl:=rv.length;exact wpAny_pyNext_tuple_end (I.ok.hd hc) st (show s.heap.IsTuple a its.toArray from p) (by simp;omega) λh' eb=>⟨rfl,I.turned (t':=s.toks) (λb o hb e=>eb b o hb e) f0 f1 f3 f4 f5⟩
 self:=λ_ _ _ _ _ st h=>wpAny_pyIter_tupleiter st h
def qx {P:NR}{w:NS}{K:Fg}{tg:NX}(it:NP)(lo:Int)(n:Nat):Turn P w K tg (Itr lo n) [it] it (λi h=>IsRangeIter h it (lo+(i:Nat)*1) ((n:Int)-(i:Nat)) 1) where
 mem:=by simp
 obj:=λi h st b hb=>by
  have e:b=it:=by simpa using hb
  subst e;exact⟨_,st,λv z=>by
   have z':Data.fields _=Data.cell v:=z;cases z'⟩
 keep:=λi h h' st k=>k it (by simp) _ st
 item:=by
  intro X hP hw hK hc i pins s σ H E I hf st hg;subst hP hw hK;obtain⟨f0,f1,f2,f3,f4,f5⟩:=hf it (by simp);have W:=Walks.range (prog:=X.prog) (w:=X.w) (I.ok.hd hc) it lo 1 n;refine W.item i s _ _ hg st λv h' tk hv st' kk=>?_
  obtain⟨t,rfl⟩:=hv;have I1:Inv X pins σ H { s with heap:=h',toks:=tk }:=I.turned (λb o hb e=>kk b o (by simpa using hb) e) f0 f1 f3 f4 f5;refine⟨_,rfl,vz (s:={ s with heap:=h',toks:=tk }) (n:="range_iterator") st' rfl rfl (by decide) ⟨.int (lo+i),H,I1,⟨t,?_⟩,⟨rfl,rfl⟩,st',λb hb=>(hf b hb).1⟩⟩;rw[Int.mul_one]
 done:=by
  intro X hP hw hK hc i pins s σ H E I hf st hg;subst hP hw hK;obtain⟨f0,f1,f2,f3,f4,f5⟩:=hf it (by simp);exact wpAny_pyNext_range_end (I.ok.hd hc) st (by have:n<=i:=hg;omega) λh' eb=>⟨rfl,I.turned (t':=s.toks) (λb o hb e=>eb b o hb e) f0 f1 f3 f4 f5⟩
 self:=λ_ _ _ _ _ st h=>wpAny_pyIter_rangeiter st h
end
section
section
variable {X:Cx}{tg:NX}
def mX {pins:List (NP×Ob)}{σ:St}{H:Hp}{s:NQ}{R:It->Hp->Prop}{E:NO->NQ->Prop}{lo hi:Int}{t u v:Tok}{tk:Nat}(I:Inv X pins σ H s)(h1:-(2 ^ 62)<=lo)(h2:lo<2 ^ 62)(h3:-(2 ^ 62)<=hi)(h4:hi<2 ^ 62)
  (q:R (Itr lo (hi-lo).toNat) H):Of (model X.prog X.w) X.A (pyIter (.ref s.heap.objs.size)) (PIE X pins σ tg R) E { s with heap:=s.heap.push { cls:=.type "range",data:=.fields #[.int lo t,.int hi u,.int 1 v] },toks:=tk }:=by
 refine wpAny_pyIter_range (IsRange.new ..) (small_one h1 h2 h3 h4) ?_;have I1:Inv X pins σ H { s with heap:=s.heap.push { cls:=.type "range",data:=.fields #[.int lo t,.int hi u,.int 1 v] },toks:=tk }:=I.kept λb o e=>Jn _ e
 refine⟨(s.heap.push { cls:=.type "range",data:=.fields #[.int lo t,.int hi u,.int 1 v] }).objs.size,[(s.heap.push { cls:=.type "range",data:=.fields #[.int lo t,.int hi u,.int 1 v] }).objs.size],_,_,H,rfl,
  I1.kept (t':=tk) λb o e=>Jn _ e,qx _ lo (hi-lo).toNat,?_,λb hb=>?_,q⟩
 .have e1:lo+((0:Nat):Int)*1=lo:=by simp
  have e2:(((hi-lo).toNat:Nat):Int)-((0:Nat):Int)=Builtin.Range.rangeSize lo hi 1:=by rw[rangeSize_one];split <;> omega
  show IsRangeIter _ _ (lo+((0:Nat):Int)*1) ((((hi-lo).toNat:Nat):Int)-((0:Nat):Int)) 1;rw[e1,e2];exact JK _ rfl
 .have e:b=(s.heap.push { cls:=.type "range",data:=.fields #[.int lo t,.int hi u,.int 1 v] }).objs.size:=by simpa using hb
  subst e;exact I1.fpOk (Jq _) (I1.hok.fresh (Jq _))
def uE (ta:TA):TI:=λσ H R=>ta σ H λvs H1=>∃j:Int,vs=[.int j] /\ -(2 ^ 62)<=j/\j<2 ^ 62/\R (Itr 0 j.toNat) H1
def AB (ta:TA):TI:=λσ H R=>ta σ H λvs H1=>∃i j:Int,vs=[.int i,.int j]/\(-(2 ^ 62)<=i/\i<2 ^ 62 /\ -(2 ^ 62)<=j/\j<2 ^ 62)/\R (Itr i (j-i).toNat) H1
def jw {a:NX}{ta:TA}{p pos:Pos}(hg:Gl X "range")(hm:X.mg "range" = none)(ha:PA X [a] ta)(hs:Oa [a] X.env=[(false,eval a X.env)]:=by rfl):PI X tg (.Call (.Name "range" p) [a] [] pos) (uE ta):=by
 intro pins s σ H R I h;refine Call_ (aK I hg hm boot_range (KR (thn (ha pos pins s σ H _ I h) λus s1 ⟨vs,H1,I1,r1,q1⟩=>?_) hs rfl));obtain⟨j,e,q1,q2,q⟩:=q1;subst e;cases r1 with
 | cons r rr =>
  cases rr;obtain⟨t,rfl⟩:=r;exact call_range_1 (mX I1 (by omega) (by omega) q1 q2 (by simpa using q))
def sS {a b:NX}{ta:TA}{p pos:Pos}(hg:Gl X "range")(hm:X.mg "range" = none)(ha:PA X [a,b] ta)(hs:Oa [a,b] X.env=[(false,eval a X.env),(false,eval b X.env)]:=by rfl)(hs2:Oa [b] X.env=[(false,eval b X.env)]:=by rfl) :
  PI X tg (.Call (.Name "range" p) [a,b] [] pos) (AB ta):=by
 intro pins s σ H R I h;refine Call_ (aK I hg hm boot_range (KR (thn (ha pos pins s σ H _ I h) λus s1 ⟨vs,H1,I1,r1,q1⟩=>?_) (by rw[hs,hs2]) (by rw[hs2];rfl)));obtain⟨i,j,e,⟨q1,q2,q3,q4⟩,q⟩:=q1;subst e;cases r1 with
 | cons r rr =>
  cases rr with
  | cons r' rr =>
   cases rr;obtain⟨t,rfl⟩:=r;obtain⟨t',rfl⟩:=r';exact call_range_2 (mX I1 q1 q2 q3 q4 q)
def sG (wi:TI)(g:TG)(tb:TS):TS:=λD σ H=>wi σ H λJ H1=>∃W:Nat->Nat->St->Hp->Prop,(∃m,W 0 m σ H1)/\∀i m σ H,W i m σ H ->
 (J.stop i H/\D.nx σ H)\/(J.go i H/\∃N:St->Hp->Prop,(∀σ' H',N σ' H'->∃m',m'<m/\W (i+1) m' σ' H')/\∀x H',J.yld i H x H'->g x σ H' λσ2 H2=>tb { D with nx:=N,ct:=N,bk:=D.nx } σ2 H2)
def eV (fp:List NP)(h:NY):List (NP×Ob):=fp.filterMap λb=>(h.get? b).map λo=>(b,o)
def R4 {fp:List NP}{h:NY}{b:NP}{o:Ob}(hb:b∈fp)(e:h.get? b=some o):(b,o)∈eV fp h:=Mq.2 ⟨b,hb,by rw[e];rfl⟩
def ua {fp:List NP}{h:NY}{p:NP×Ob}(hp:p∈eV fp h):p.1∈fp/\h.get? p.1=some p.2:=by
 obtain⟨b,hb,e⟩:=Mq.1 hp;cases q:h.get? b with
 | none=>rw[q]at e;cases e
 | some o =>
  rw[q]at e;have e':(b,o)=p:=Jt e;subst e';exact⟨hb,q⟩
def Inv.pinned {pins:List (NP×Ob)}{σ:St}{H:Hp}{s:NQ}{fp:List NP}(I:Inv X pins σ H s)(hf:∀b∈fp,gp X pins H b)(ho:∀b∈fp,∃o,s.heap.get? b=some o/\∀v,o.data ≠ .cell v):Inv X (pins++eV fp s.heap) σ H s :=
 I.pins_of λp hp=>(Jj.1 hp).elim (λz=>I.pin p (JA _ z)) λz=>by
  obtain⟨hb,e⟩:=ua z;obtain⟨f0,f1,f2,_⟩:=hf p.1 hb;obtain⟨o,e',d⟩:=ho p.1 hb;rw[e]at e';cases e';exact⟨e,f0,f1,f2,d⟩
def Inv.unpinned {pins pl:List (NP×Ob)}{σ:St}{H:Hp}{s:NQ}(I:Inv X (pins++pl) σ H s):Inv X pins σ H s:=I.pins_of λp hp=>I.pin p (JA _ (MX _ hp))
def oU {iter:NX}{body:List NW}{wi:TI}{g:TG}{tb:TS}{pos:Pos}(hp:PassesOwn (model X.prog X.w) X.A X.env X.xe)(hc:X.calm=true)(hi:PI X tg iter wi)(hg:PG X tg g)(hb:PSs X body tb)
  (hs:∀x,Ol iter X.env x=pure x:=by intro _;rfl):PS X (.For tg iter body [] pos) (sG wi g tb):=by
 intro pins s σ H D I h;refine wpAny_For (thn (hi pins s σ H _ I h) λv s1 h1=>thn h1 λitv s2 h2=>?_) hs;obtain⟨it,fp,tn,J,H2,e,I2,T,st2,f2,W,⟨m0,w0⟩,turn⟩:=h2;subst e;have stat:∀{H':Hp},(∀b∈fp,H' b=none)->∀b∈fp,gp X pins H' b:=λhn b hb=>⟨hn b hb,(f2 b hb).2⟩
 refine codeAny_forLoop_any (λn s'=>∃i σ' H',Inv X pins σ' H' s'/\tn i s'.heap/\(∀b∈fp,H' b=none)/\W i n σ' H') ?_ m0 ⟨0,σ,H2,I2,st2,λb hb=>(f2 b hb).1,w0⟩;rintro n s3 ⟨i,σ3,H3,I3,st3,fr3,w3⟩;rcases turn i n σ3 H3 w3 with ⟨stop,qn⟩ | ⟨go,N,hN,step⟩
 .refine Mn hp (thn (T.done X rfl rfl rfl hc i pins s3 σ3 H3 X.xe I3 (stat fr3) st3 stop) λr s4 ⟨hr,I4⟩=>?_);subst hr;exact wpAny_execs_nil ⟨σ3,H3,I4,qn⟩
 .refine Mn hp (thn (T.item X rfl rfl rfl hc i pins s3 σ3 H3 X.xe I3 (stat fr3) st3 go) λr s4 ⟨u,hr,h4⟩=>?_);subst hr;refine Mn hp (thn h4 λ_ s5 ⟨x,H5,I5,r5,y5,st5,fr5⟩=>?_);have I5':=I5.pinned (stat fr5) (T.obj _ _ st5);refine Mn hp (thn (hg _ s5 σ3 H5 x u _ I5' r5 (step x H5 y5)) λ_ s6 ⟨σ6,H6,I6,q6⟩=>?_);refine Mn hp (thn (hb _ s6 σ6 H6 _ I6 q6) λf s7 q7=>?_);have again:∀{σ7:St} {H7:Hp},Inv X (pins++eV fp s5.heap) σ7 H7 s7->N σ7 H7->∃m,m<n/\∃i σ' H',Inv X pins σ' H' s7/\tn i s7.heap/\(∀b∈fp,H' b=none)/\W i m σ' H':=λ{σ7 H7} I7 n7=>by
   obtain⟨m',hm,w7⟩:=hN σ7 H7 n7;refine⟨m',hm,i+1,σ7,H7,I7.unpinned,T.keep _ _ _ st5 λb hb o e=>(I7.pin (b,o) (JA _ (JA _ (R4 hb e)))).1,λb hb=>?_,w7⟩;obtain⟨o,e,d⟩:=T.obj _ _ st5 b hb;exact(I7.pin (b,o) (JA _ (JA _ (R4 hb e)))).2.1
  cases f with
  | next=>obtain⟨σ7,H7,I7,n7⟩:=q7;exact again I7 n7
  | cont=>obtain⟨σ7,H7,I7,n7⟩:=q7;exact again I7 n7
  | brk=>obtain⟨σ7,H7,I7,q7⟩:=q7;exact⟨σ7,H7,I7.unpinned,q7⟩
  | ret v=>obtain⟨x7,σ7,H7,I7,r7,q7⟩:=q7;exact⟨x7,σ7,H7,I7.unpinned,r7,q7⟩
end
end
section
abbrev R2:=V->V->Hp->VK->Prop
def OpR (X:Cx)(f:NO->NO->Sem NO)(r:R2):Prop :=
 ∀(pins:List (NP×Ob)) (s:NQ) (σ:St) (H:Hp) (x y:V) (v u:NO) (Q:VK),Inv X pins σ H s->u6 x v->u6 y u->r x y H Q ->
  Of (model X.prog X.w) X.A (f v u) (EP X pins σ Q) X.xe s
def UnR (X:Cx)(f:NO->Sem NO)(r:V->Hp->VK->Prop):Prop :=
 ∀(pins:List (NP×Ob)) (s:NQ) (σ:St) (H:Hp) (x:V) (v:NO) (Q:VK),Inv X pins σ H s->u6 x v->r x H Q ->
  Of (model X.prog X.w) X.A (f v) (EP X pins σ Q) X.xe s
def D1 (X:Cx)(f:NO)(r:List V->Hp->VK->Prop):Prop :=
 ∀(pins:List (NP×Ob)) (s:NQ) (σ:St) (H:Hp) (xs:List V) (us:List NO) (Q:VK),Inv X pins σ H s->l0 xs us->r xs H Q ->
  Of (model X.prog X.w) X.A (call f us) (EP X pins σ Q) X.xe s
def Ey (X:Cx)(r:V->Hp->(Bool->Hp->Prop)->Prop):Prop :=
 ∀(pins:List (NP×Ob)) (s:NQ) (σ:St) (H:Hp) (x:V) (v:NO) (Q:Bool->Hp->Prop),Inv X pins σ H s->u6 x v->r x H Q ->
  Of (model X.prog X.w) X.A (truthy v) (TP X pins σ Q) X.xe s
def tOp (r:R2)(ta tb:TE):TE:=λσ H Q=>ta σ H λx H1=>tb σ H1 λy H2=>r x y H2 Q
def tUn (r:V->Hp->VK->Prop)(ta:TE):TE:=λσ H Q=>ta σ H λx H1=>r x H1 Q
def rI (C:Int->Int->Prop)(g:Int->Int->V):R2:=λx y H Q=>∃i j,x = .int i/\y = .int j/\C i j/\Q (g i j) H
def rI0 (g:Int->Int->V):R2:=λx y H Q=>∃i j,x = .int i/\y = .int j/\Q (g i j) H
def rU (g:Int->V):V->Hp->VK->Prop:=λx H Q=>∃i,x = .int i/\Q (g i) H
section
variable {X:Cx}{a b c:NX}{ta tb tc:TE}{pos:Pos}
def Cw (ha:PE X a ta)(hb:PE X b tb){pins:List (NP×Ob)}{s:NQ}{σ:St}{H:Hp}{R:V->V->Hp->Prop}(I:Inv X pins σ H s)
  (h:ta σ H λx H1=>tb σ H1 λy H2=>R x y H2) {Q:NO->NQ->Prop} {f:NO->NO->Sem NO}
  (hf:∀v u s2 x y H2,Inv X pins σ H2 s2->u6 x v->u6 y u->R x y H2->Of (model X.prog X.w) X.A (f v u) Q X.xe s2) :
  Of (model X.prog X.w) X.A (eval a X.env) (λv s₁=>Of (model X.prog X.w) X.A (eval b X.env) (λu s₂=>Of (model X.prog X.w) X.A (f v u) Q X.xe s₂) X.xe s₁) X.xe s:=by
 refine thn (ha pins s σ H _ I h) λv s1 ⟨x,H1,I1,r1,q1⟩=>?_
 refine thn (hb pins s1 σ H1 _ I1 q1) λu s2 ⟨y,H2,I2,r2,q2⟩=>?_
 exact hf v u s2 x y H2 I2 r1 r2 q2
def B7 {op:Operator}{r:R2}(ho:OpR X (binaryOp op) r)(ha:PE X a ta)(hb:PE X b tb):PE X (.BinOp a op b pos) (tOp r ta tb):=by
 intro pins s σ H Q I h;exact wpAny_BinOp (Cw ha hb I h λv u s2 x y H2 I2 rx ry q=>ho pins s2 σ H2 x y v u Q I2 rx ry q)
def vB {op:UnaryOp}{r:V->Hp->VK->Prop}(ho:UnR X (unaryOp op) r)(ha:PE X a ta):PE X (.UnaryOp op a pos) (tUn r ta):=by
 intro pins s σ H Q I h;exact UnaryOp_ (thn (ha pins s σ H _ I h) λv s1 ⟨x,H1,I1,r1,q1⟩=>ho pins s1 σ H1 x v Q I1 r1 q1)
def opI {f:NO->NO->Sem NO}{C:Int->Int->Prop}{g:Int->Int->Int}
  (rule:∀(i j:Int) (t u:Tok) (s:NQ) (Q:NO->NQ->Prop) (E:NO->NQ->Prop),C i j->Q (.int (g i j) s.toks) { s with toks:=s.toks+1 }->Of (model X.prog X.w) X.A (f (.int i t) (.int j u)) Q E s) :
  OpR X f (rI C λi j=>.int (g i j)):=by
 intro pins s σ H x y v u Q I rx ry h;obtain⟨i,j,rfl,rfl,hc,q⟩:=h;obtain⟨t,rfl⟩:=rx;obtain⟨t',rfl⟩:=ry;exact rule i j t t' s _ _ hc ⟨.int (g i j),H,I.tok _,⟨_,rfl⟩,q⟩
def Ek {f:NO->NO->Sem NO}{g:Int->Int->Int}
  (rule:∀(i j:Int) (t u:Tok) (s:NQ) (Q:NO->NQ->Prop) (E:NO->NQ->Prop),Q (.int (g i j) s.toks) { s with toks:=s.toks+1 }->Of (model X.prog X.w) X.A (f (.int i t) (.int j u)) Q E s) :
  OpR X f (rI0 λi j=>.int (g i j)):=by
 intro pins s σ H x y v u Q I rx ry h;obtain⟨i,j,rfl,rfl,q⟩:=h;obtain⟨t,rfl⟩:=rx;obtain⟨t',rfl⟩:=ry;exact rule i j t t' s _ _ ⟨.int (g i j),H,I.tok _,⟨_,rfl⟩,q⟩
def zm {f:NO->NO->Sem NO}{g:Int->Int->Bool}
  (rule:∀(i j:Int) (t u:Tok) (s:NQ) (Q:NO->NQ->Prop) (E:NO->NQ->Prop),Q (.bool (g i j)) s->Of (model X.prog X.w) X.A (f (.int i t) (.int j u)) Q E s) :
  OpR X f (rI0 λi j=>.bl (g i j)):=by
 intro pins s σ H x y v u Q I rx ry h;obtain⟨i,j,rfl,rfl,q⟩:=h;obtain⟨t,rfl⟩:=rx;obtain⟨t',rfl⟩:=ry;exact rule i j t t' s _ _ ⟨.bl (g i j),H,I,rfl,q⟩
def EI (i j:Int):Prop:=0<j/\j<1073741824
def yB (i j:Int):Prop:=0<=j/\j<=1000000/\i.natAbs<2 ^ 64
def xE (i j:Int):Prop:=(-(2 ^ 64)<i/\i<2 ^ 64)\/(-(2 ^ 64)<j/\j<2 ^ 64)
def xE.ok {i j:Int}(h:xE i j):IntMulOk i j:=by
 rcases h with ⟨h1,h2⟩ | ⟨h1,h2⟩
 .exact .of_left (intBits_le_64 h1 h2)
 .exact .of_right (intBits_le_64 h1 h2)
def aq:OpR X (binaryOp .Add) (rI0 λi j=>.int (i+j)):=Ek λ_ _ _ _ _ _ _ q=>add_int q
def vK:OpR X (binaryOp .Sub) (rI0 λi j=>.int (i-j)):=Ek λ_ _ _ _ _ _ _ q=>sub_int q
def cu:OpR X (binaryOp .Mult) (rI xE λi j=>.int (i*j)):=opI λ_ _ _ _ _ _ _ hc q=>mul_int q hc.ok
def kz:OpR X (binaryOp .FloorDiv) (rI EI λi j=>.int (i / j)):=opI λi j _ _ _ _ _ hc q=>by
 have h1:(0:Int)<j:=hc.1;have h2:j<1073741824:=hc.2;exact floordiv_int (by omega) (by rw[Int.fdiv_eq_ediv_of_nonneg i (by omega)];exact q) (.inl (PyProof.noPylong_small (by omega)))
def aD:OpR X (binaryOp .Mod) (rI (λ_ j=>0<j) λi j=>.int (i % j)):=opI λi j _ _ _ _ _ hc q=>by
 have h1:(0:Int)<j:=hc;exact mod_int' (by omega) (by rw[Int.fmod_eq_emod_of_nonneg i (by omega)];exact q)
def uI:OpR X (binaryOp .Pow) (rI yB λi j=>.int (i ^ j.toNat)):=opI λ_ _ _ _ _ _ _ hc q=>pow_int_small hc.1 hc.2.1 hc.2.2 q
def unI {f:NO->Sem NO}{g:Int->Int}
  (rule:∀(i:Int) (t:Tok) (s:NQ) (Q:NO->NQ->Prop) (E:NO->NQ->Prop),Q (.int (g i) s.toks) { s with toks:=s.toks+1 }->Of (model X.prog X.w) X.A (f (.int i t)) Q E s) :
  UnR X f (rU λi=>.int (g i)):=by
 intro pins s σ H x v Q I rx h;obtain⟨i,rfl,q⟩:=h;obtain⟨t,rfl⟩:=rx;exact rule i t s _ _ ⟨.int (g i),H,I.tok _,⟨_,rfl⟩,q⟩
def qB:UnR X (unaryOp .USub) (rU λi=>.int (-i)):=unI λ_ _ _ _ _ q=>neg_int q
end
def CY:V->V->Bool
 | .non,.non=>true | .non,.int _=>true | .int _,.non=>true | .non,.bl _=>true | .bl _,.non=>true | .non,.str _=>true | .str _,.non=>true
 | .int _,.int _=>true | .bl _,.bl _=>true | .str _,.str _=>true | .byt _,.byt _=>true
 | .int _,.str _=>true | .str _,.int _=>true | .bl _,.str _=>true | .str _,.bl _=>true
 | _,_=>false
def rEq:R2:=λx y H Q=>CY x y=true/\Q (.bl (decide (x=y))) H
def rNe:R2:=λx y H Q=>CY x y=true/\Q (.bl (!decide (x=y))) H
def qZ {i j:Int}:decide (V.int i=V.int j)=(i == j):=by
 rw[LC];simp
def vi {i j:Bool}:decide (V.bl i=V.bl j)=(i == j):=by
 rw[LC];simp
def qY {i j:Str}:decide (V.str i=V.str j)=(i == j):=by
 rw[LC];simp
def qX {i j:Array UInt8}:decide (V.byt i=V.byt j)=(i.toList == j.toList):=by
 rw[LC];cases i;cases j;simp
section
variable {X:Cx}{a b c:NX}{ta tb tc:TE}{pos:Pos}
def u8 {pins:List (NP×Ob)}{σ:St}{H:Hp}{s:NQ}{Q:VK}{k k':Bool}(I:Inv X pins σ H s)(q:Q (.bl k) H)(e:k=k'):EP X pins σ Q (.bool k') s:=by
 subst e;exact⟨.bl k,H,I,rfl,q⟩
def xp:OpR X (compareOp .Eq) rEq:=by
 intro pins s σ H x y v u Q I rx ry h;obtain⟨hs,q⟩:=h;cases x with
 | non =>
  cases rx;cases y with
  | non=>cases ry;exact PySem.EqNone.eq_none_none (u8 I q (by simp))
  | bl j=>cases ry;exact PySem.EqNone.eq_none_bool (u8 I q (by simp))
  | int j=>obtain⟨t',rfl⟩:=ry;exact PySem.EqNone.eq_none_int (u8 I q (by simp))
  | str j=>obtain⟨t',rfl⟩:=ry;exact PySem.EqNone.eq_none_str (u8 I q (by simp))
  | _=>exact absurd (show false=true from hs) JI
 | bl i =>
  cases rx;cases y with
  | non=>cases ry;exact PySem.EqNone.eq_bool_none (u8 I q (by simp))
  | bl j=>cases ry;exact eq_bool (u8 I q vi)
  | str j=>obtain⟨t',rfl⟩:=ry;exact PySem.EqMixed.eq_bool_str (u8 I q (by simp))
  | _=>exact absurd (show false=true from hs) JI
 | int i =>
  obtain⟨t,rfl⟩:=rx;cases y with
  | non=>cases ry;exact PySem.EqNone.eq_int_none (u8 I q (by simp))
  | int j=>obtain⟨t',rfl⟩:=ry;exact eq_int (u8 I q qZ)
  | str j=>obtain⟨t',rfl⟩:=ry;exact PySem.EqMixed.eq_int_str (u8 I q (by simp))
  | _=>exact absurd (show false=true from hs) JI
 | str i =>
  obtain⟨t,rfl⟩:=rx;cases y with
  | non=>cases ry;exact PySem.EqNone.eq_str_none (u8 I q (by simp))
  | bl j=>cases ry;exact PySem.EqMixed.eq_str_bool (u8 I q (by simp))
  | int j=>obtain⟨t',rfl⟩:=ry;exact PySem.EqMixed.eq_str_int (u8 I q (by simp))
  | str j=>obtain⟨t',rfl⟩:=ry;exact eq_str (u8 I q qY)
  | _=>exact absurd (show false=true from hs) JI
 | byt i =>
  obtain⟨t,rfl⟩:=rx;cases y with
  | byt j=>obtain⟨t',rfl⟩:=ry;exact PySem.W.eq_bytes (u8 I q qX)
  | _=>exact absurd (show false=true from hs) JI
 | _=>cases y <;> exact absurd (show false=true from hs) JI
def Da:OpR X (compareOp .NotEq) rNe:=by
 intro pins s σ H x y v u Q I rx ry h;obtain⟨hs,q⟩:=h;cases x with
 | non =>
  cases rx;cases y with
  | non=>cases ry;exact PySem.EqNone.ne_none_none (u8 I q (by simp))
  | bl j=>cases ry;exact PySem.EqNone.ne_none_bool (u8 I q (by simp))
  | int j=>obtain⟨t',rfl⟩:=ry;exact PySem.EqNone.ne_none_int (u8 I q (by simp))
  | str j=>obtain⟨t',rfl⟩:=ry;exact PySem.EqNone.ne_none_str (u8 I q (by simp))
  | _=>exact absurd (show false=true from hs) JI
 | bl i =>
  cases rx;cases y with
  | non=>cases ry;exact PySem.EqNone.ne_bool_none (u8 I q (by simp))
  | bl j=>cases ry;exact ne_bool (u8 I q (Kk not vi))
  | str j=>obtain⟨t',rfl⟩:=ry;exact PySem.EqMixed.ne_bool_str (u8 I q (by simp))
  | _=>exact absurd (show false=true from hs) JI
 | int i =>
  obtain⟨t,rfl⟩:=rx;cases y with
  | non=>cases ry;exact PySem.EqNone.ne_int_none (u8 I q (by simp))
  | int j=>obtain⟨t',rfl⟩:=ry;exact ne_int (u8 I q (Kk not qZ))
  | str j=>obtain⟨t',rfl⟩:=ry;exact PySem.EqMixed.ne_int_str (u8 I q (by simp))
  | _=>exact absurd (show false=true from hs) JI
 | str i =>
  obtain⟨t,rfl⟩:=rx;cases y with
  | non=>cases ry;exact PySem.EqNone.ne_str_none (u8 I q (by simp))
  | bl j=>cases ry;exact PySem.EqMixed.ne_str_bool (u8 I q (by simp))
  | int j=>obtain⟨t',rfl⟩:=ry;exact PySem.EqMixed.ne_str_int (u8 I q (by simp))
  | str j=>obtain⟨t',rfl⟩:=ry;exact ne_str (u8 I q (Kk not qY))
  | _=>exact absurd (show false=true from hs) JI
 | byt i =>
  obtain⟨t,rfl⟩:=rx;cases y with
  | byt j=>obtain⟨t',rfl⟩:=ry;exact PySem.W.ne_bytes (u8 I q (Kk not qX))
  | _=>exact absurd (show false=true from hs) JI
 | _=>cases y <;> exact absurd (show false=true from hs) JI
def zY:OpR X (compareOp .Lt) (rI0 λi j=>.bl (decide (i<j))):=zm λ_ _ _ _ _ _ _ q=>lt_int q
def Eh:OpR X (compareOp .LtE) (rI0 λi j=>.bl (decide (i<=j))):=zm λ_ _ _ _ _ _ _ q=>le_int q
def Ao:OpR X (compareOp .Gt) (rI0 λi j=>.bl (decide (j<i))):=zm λ_ _ _ _ _ _ _ q=>gt_int q
def Af:OpR X (compareOp .GtE) (rI0 λi j=>.bl (decide (j<=i))):=zm λ_ _ _ _ _ _ _ q=>ge_int q
def Bu:OpR X (compareOp .Is) (λx y H Q=>y = .non/\Q (.bl (decide (x = .non))) H):=by
 intro pins s σ H x y v u Q I rx ry h;obtain⟨rfl,q⟩:=h;cases ry;refine is_none_gen (u8 I q ?_);cases x <;> first
  | (cases rx;rfl)
  | (obtain⟨t,rfl⟩:=rx;rfl)
def yV:OpR X (compareOp .IsNot) (λx y H Q=>y = .non/\Q (.bl (!decide (x = .non))) H):=by
 intro pins s σ H x y v u Q I rx ry h;obtain⟨rfl,q⟩:=h;cases ry;refine isnot_none_gen (u8 I q ?_);cases x <;> first
  | (cases rx;rfl)
  | (obtain⟨t,rfl⟩:=rx;rfl)
def X5 (b:NX){op:CmpOp}(h:op ≠ .In:=by decide)(h2:op ≠ .NotIn:=by decide):behindInMarks op b=false:=by
 have e1:(op == CmpOp.In)=false:=by cases op <;> first | rfl | exact absurd rfl h
 have e2:(op == CmpOp.NotIn)=false:=by cases op <;> first | rfl | exact absurd rfl h2
 cases b <;> simp[behindInMarks,e1,e2]
def kf {op:CmpOp}{r:R2}(ho:OpR X (compareOp op) r)(ha:PE X a ta)(hb:PE X b tb)(hm:behindInMarks op b=false):PE X (.Compare a [op] [b] pos) (tOp r ta tb):=by
 intro pins s σ H Q I h;exact wpAny_Compare1 (Cw ha hb I h λv u s2 x y H2 I2 rx ry q=>ho pins s2 σ H2 x y v u Q I2 rx ry q) hm
def bf (t:TE):TT:=λσ H Q=>t σ H λx H'=>∃k,x = .bl k/\Q k H'
def R8 {op:CmpOp}{r:R2}(ho:OpR X (compareOp op) r)(ha:PE X a ta)(hb:PE X b tb)(hm:behindInMarks op b=false):PT X (.Compare a [op] [b] pos) (bf (tOp r ta tb)):=by
 intro pins s σ H Q I h;refine wpAny_isTrue_Compare1 (thn (ha pins s σ H _ I h) λv s1 ⟨x,H1,I1,r1,q1⟩=>thn (hb pins s1 σ H1 _ I1 q1) λu s2 ⟨y,H2,I2,r2,q2⟩ =>
  thn (ho pins s2 σ H2 x y v u _ I2 r1 r2 q2) λc s3 ⟨z,H3,I3,r3,k,e,q3⟩=>?_) hm
 subst e;cases r3;exact Lp ⟨H3,I3,q3⟩
def qy (r r':R2)(ta tb tc:TE):TE:=λσ H Q=>ta σ H λx H1=>tb σ H1 λy H2=>r x y H2 λz H3=>∃k,z = .bl k /\
 (if k=true then tc σ H3 λw' H4=>r' y w' H4 Q else Q (.bl false) H3)
def uF {op op':CmpOp}{r r':R2}(ho:OpR X (compareOp op) r)(ho':OpR X (compareOp op') r')(ha:PE X a ta)(hb:PE X b tb)(hc:PE X c tc)
  (hm:lastMarks [op,op'] [b,c]=false:=by with_unfolding_all rfl):PT X (.Compare a [op,op'] [b,c] pos) (bf (qy r r' ta tb tc)):=by
 intro pins s σ H Q I h;refine isTrue_chain (thn (ha pins s σ H _ I h) λv s1 ⟨x,H1,I1,r1,q1⟩=>test_link (thn (hb pins s1 σ H1 _ I1 q1) λu s2 ⟨y,H2,I2,r2,q2⟩ =>
  thn (ho pins s2 σ H2 x y v u _ I2 r1 r2 q2) λd s3 ⟨z,H3,I3,r3,k,e,q3⟩=>?_)) hm
 subst e;cases r3;refine Lp ?_;cases k with
 | false =>
  obtain⟨k',e',q'⟩:=q3;cases e';exact ite_ff ⟨H3,I3,q'⟩
 | true =>
  refine ite_tt (test_last (thn (hc pins s3 σ H3 _ I3 q3) λw' s4 ⟨z',H4,I4,r4,q4⟩=>thn (ho' pins s4 σ H4 y z' u w' _ I4 r2 r4 q4) λd' s5 ⟨z2,H5,I5,r5,k2,e2,q5⟩=>?_));subst e2;cases r5;exact Lp ⟨H5,I5,q5⟩
def uY (K:Fg)(x:V)(H:Hp)(k:Bool):Prop :=
 match x with
 | .non=>k=false
 | .bl b=>k=b
 | .int i=>k=(i != 0)
 | .str y=>y.length<=NZ/\k=((y.length:Int) != 0)
 | .byt y=>y.size<=NZ/\k=((y.size:Int) != 0)
 | .ref p=>(∃xs,SqL K H p xs/\k = !xs.isEmpty)\/(∃xs,SqT K H p xs/\k = !xs.isEmpty)\/∃kvs,H p=some (.dK kvs)/\k = !kvs.isEmpty
 | _=>False
def qk {κ:Type}{kvs:List (κ×V)}{vs:List (κ×NO)}(r:KV kvs vs):(!vs.isEmpty) = !kvs.isEmpty:=by
 cases r <;> rfl
def iM {xs:List V}{its:List NO}(r:l0 xs its):(!its.toArray.isEmpty) = !xs.isEmpty:=by
 cases r <;> simp
def cJ:(NZ:Nat)<2 ^ 63:=by rw[JQ];decide
def Bb:Ey X (λx H Q=>∃k,uY X.K x H k/\Q k H):=by
 intro pins s σ H x v Q I rx h;obtain⟨k,e,q⟩:=h;have hl:=cJ;have hs:NZ=16777216:=JQ;cases x with
 | non =>
  cases rx;have e':k=false:=e;subst e';exact truthy_none ⟨H,I,q⟩
 | bl b =>
  cases rx;have e':k=b:=e;subst e';exact Lp ⟨H,I,q⟩
 | int i =>
  obtain⟨t,rfl⟩:=rx;have e':k=(i != 0):=e;subst e';exact PySem.P.truthy_int ⟨H,I,q⟩
 | str y =>
  obtain⟨t,rfl⟩:=rx;obtain⟨hy,e'⟩:y.length<=NZ/\k=((y.length:Int) != 0):=e;subst e';exact PySem.P.truthy_str (by omega) ⟨H,I.tok _,q⟩
 | byt y =>
  obtain⟨t,rfl⟩:=rx;obtain⟨hy,e'⟩:y.size<=NZ/\k=((y.size:Int) != 0):=e;subst e';exact PySem.W.truthy_bytes (by omega) ⟨H,I.tok _,q⟩
 | ref p =>
  cases rx;have e':(∃xs,SqL X.K H p xs/\k = !xs.isEmpty)\/(∃xs,SqT X.K H p xs/\k = !xs.isEmpty)\/∃kvs,H p=some (.dK kvs)/\k = !kvs.isEmpty:=e;rcases e' with ⟨xs,hx,e'⟩ | ⟨xs,hx,e'⟩ | ⟨kvs,hx,e'⟩
  .subst e';obtain⟨its,r,pl,hz⟩:=I.list hx;have hlen:=r.length;exact wpAny_truthy_list pl.isList (by simp only[Jw];omega) ⟨H,I.tok _,by rw[iM r];exact q⟩
  .subst e';obtain⟨its,r,pl,hz⟩:=I.tuple hx;have hlen:=r.length;exact truthy_tuple pl (by simp only[Jw];omega) ⟨H,I.tok _,by rw[iM r];exact q⟩
  .subst e';obtain⟨hz,hS,vs,r,m⟩:kvs.length<=NZ/\(p == sysModules)=false/\∃vs,KV kvs vs/\s.heap.DictOf (D6 X.prog X.w) p vs:=I.hok p _ hx;have hlen:kvs.length=vs.length:=Nt r;exact wpAny_truthy_dict hS m (by omega) ⟨H,I.tok _,by rw[qk r];exact q⟩
 | _=>exact(show False from e).elim
def vT (ha:PE X a ta)(he:∀whole,isTrue a X.env whole=(do let v <-whole;standAt a.pos;holding [v] (truthy v))) :
  PT X a (λσ H Q=>ta σ H λx H'=>∃k,uY X.K x H' k/\Q k H'):=by
 intro pins s σ H Q I h;exact isTrue_plain (thn (ha pins s σ H _ I h) λv s1 ⟨x,H1,I1,r1,q1⟩=>Bb pins s1 σ H1 x v Q I1 r1 q1) (he _)
def oO:OpR X (binaryOp .Add) (λx y H Q=>∃i j,x = .str i/\y = .str j/\i.length+j.length<=NZ/\Q (.str (i++j)) H):=by
 intro pins s σ H x y v u Q I rx ry h;obtain⟨i,j,rfl,rfl,hz,q⟩:=h;obtain⟨t,rfl⟩:=rx;obtain⟨t',rfl⟩:=ry;exact add_str (λt' tk=>⟨.str (i++j),H,I.tok _,⟨_,rfl⟩,q⟩) hz
def P5 {x:V}{us:List NO}(r:l0 [x] us):∃u,us=[u]/\u6 x u:=by
 cases r with
 | cons r1 r2=>cases r2;exact⟨_,rfl,r1⟩
def zW {x y:V}{us:List NO}(r:l0 [x,y] us):∃u w',us=[u,w']/\u6 x u/\u6 y w':=by
 cases r with
 | cons r1 r2 =>
  cases r2 with
  | cons r3 r4=>cases r4;exact⟨_,_,rfl,r1,r3⟩
def uw (hc:X.calm=true):D1 X (.builtin "max") (λxs H Q=>∃i j,xs=[.int i,.int j]/\Q (.int (if j > i then j else i)) H):=by
 intro pins s σ H xs us Q I r h;obtain⟨i,j,rfl,q⟩:=h;obtain⟨u,w',rfl,⟨t,rfl⟩,⟨t',rfl⟩⟩:=zW r;refine max_two_ints (I.ok.hd hc) λh' tk k=>⟨_,H,I.kept k,?_,q⟩
 by_cases hj:j > i
 .rw[Jk hj,Jk hj];exact⟨_,rfl⟩
 .rw[Jo hj,Jo hj];exact⟨_,rfl⟩
def sx (hc:X.calm=true):D1 X (.builtin "min") (λxs H Q=>∃i j,xs=[.int i,.int j]/\Q (.int (if j<i then j else i)) H):=by
 intro pins s σ H xs us Q I r h;obtain⟨i,j,rfl,q⟩:=h;obtain⟨u,w',rfl,⟨t,rfl⟩,⟨t',rfl⟩⟩:=zW r;refine min_two_ints (I.ok.hd hc) λh' tk k=>⟨_,H,I.kept k,?_,q⟩
 by_cases hj:j<i
 .rw[Jk hj,Jk hj];exact⟨_,rfl⟩
 .rw[Jo hj,Jo hj];exact⟨_,rfl⟩
def jA:D1 X (.type "int") (λxs H Q=>(∃i,xs=[.int i]/\Q (.int i) H)\/∃k,xs=[.bl k]/\Q (.int (if k then 1 else 0)) H):=by
 intro pins s σ H xs us Q I r h;rcases h with ⟨i,rfl,q⟩ | ⟨k,rfl,q⟩
 .obtain⟨u,rfl,t,rfl⟩:=P5 r;exact call_int_int ⟨.int i,H,I,⟨_,rfl⟩,q⟩
 .obtain⟨u,rfl,r1⟩:=P5 r;cases r1;exact call_int_bool ⟨.int (if k then 1 else 0),H,I.tok _,⟨_,rfl⟩,q⟩
end
end
section
section
variable {prog:NR}{w:NS}{A:NT}{E:NO->NQ->Prop}{s:NQ}{K:Fg}{x dx C f:NP}{mA:Str->Option NO}{name:Str}{v:NO}
end
def jm.some_of {v:V}{o:Option NO}(r:jm (some v) o):∃u,o=some u/\u6 v u:=by
 cases o with
 | none=>exact(show False from r).elim
 | some u=>exact⟨u,rfl,r⟩
section
variable {P:NR}{w:NS}{H H':Hp}{h h':NY}{a C dx:NP}{fs fs':List (Str×V)}
end
section
variable {X:Cx}{pins:List (NP×Ob)}{σ:St}{H:Hp}{s:NQ}{a C dx:NP}{fs:List (Str×V)}{f:Str}{v:V}{A:NT}{E:NO->NQ->Prop}
end
section
variable {X:Cx}{o e value:NX}{f:Str}{pos pos' tpos:Pos}{ta tv:TE}
end
section
variable {X:Cx}{pins:List (NP×Ob)}{σ:St}{H:Hp}{s:NQ}{A:NT}{E:NO->NQ->Prop}{Q:NO->NQ->Prop}{c:NO}{b:Bool}
end
end
section
structure Room (k:Nat) (A:NT):Prop where
 hd:A.handled=none
 dp:A.depth+3*k+5<recursionLimit
 un:A.units+16*k+200<On
 gd:A.guards=some []
def Room.mono {j k:Nat}{A:NT}(r:Room k A)(h:j<=k):Room j A:=⟨r.hd,by have:=r.dp;omega,by have:=r.un;omega,r.gd⟩
def Room.deeper {k:Nat}{A:NT}(r:Room (k+1) A)(env:Oc):Room k (A.deeper env) :=
 ⟨r.hd,by have:=r.dp;show A.depth+1+3*k+5<_;omega,by have:=r.un;show A.units+3+16*k+200<_;omega,r.gd⟩
def Room.depth {k:Nat}{A:NT}(r:Room k A):A.depth<recursionLimit:=by have:=r.dp;omega
def Room.units {k:Nat}{A:NT}(r:Room k A):A.units+64<On:=by have:=r.un;omega
def F0:TA:=λ_ H Q=>Q [] H
def v6 (ta:TE)(tr:TA):TA:=λσ H Q=>ta σ H λx H1=>tr σ H1 λxs H2=>Q (x::xs) H2
section
variable {X:Cx}{e:NX}{es:List NX}{te:TE}{t:TA}{pos:Pos}
def l6:PA X [] F0:=λ_ _ _ _ H Q I h=>Calls.spliced_nil ⟨[],H,I,.nil,h⟩
def i8 (ha:PE X e te)(hr:PA X es t)(hs:Oa (e::es) X.env=(false,eval e X.env)::Oa es X.env:=by rfl):PA X (e::es) (v6 te t):=by
 intro pos pins s σ H Q I h;rw[hs];show Of _ _ (spliced ((false,eval e X.env)::Od pos (Oa es X.env))) _ _ s;refine Calls.spliced_cons (thn (ha pins s σ H _ I h) λu s1 ⟨x,H1,I1,r1,q1⟩=>?_);exact thn (hr pos pins s1 σ H1 _ I1 q1) λus s2 ⟨xs,H2,I2,r2,q2⟩=>⟨x::xs,H2,I2,.cons r1 r2,q2⟩
def sF (t:TA):TE:=λσ H Q=>t σ H λxs H1=>xs.length<=NZ/\∀p,H1 p=none->Q (.ref p) (upd H1 p (.tup xs))
def cz (t:TA):TE:=λσ H Q=>t σ H λxs H1=>xs.length<=NZ/\∀p,H1 p=none->Q (.ref p) (upd H1 p (.lst xs))
def gY {x1}(h:PA X es t):PE X (.Tuple es x1 pos) (sF t):=by
 intro pins s σ H Q I hq;refine wpAny_Tuple_spliced (thn (h pos pins s σ H _ I hq) λus s1 ⟨xs,H1,I1,r,z,q⟩=>⟨by rw[<-r.length];exact z,?_⟩);have hf:H1 s1.heap.objs.size=none:=I1.hok.fresh (Jq _);refine⟨.ref s1.heap.objs.size,upd H1 s1.heap.objs.size (.tup xs),I1.laid (t':=s1.toks) (λb u e=>Jn _ e) (Jq _) ?_,rfl,q _ hf⟩;exact⟨z,us,r,⟨_,JK _ rfl,rfl,_,rfl⟩⟩
def P7 (h:PA X es t):PE X (.List es pos) (cz t):=by
 intro pins s σ H Q I hq;refine wpAny_List_spliced (thn (h pos pins s σ H _ I hq) λus s1 ⟨xs,H1,I1,r,z,q⟩=>⟨by rw[<-r.length];exact z,?_⟩);have hf:H1 s1.heap.objs.size=none:=I1.hok.fresh (Jq _);refine⟨.ref s1.heap.objs.size,upd H1 s1.heap.objs.size (.lst xs),I1.laid (t':=s1.toks) (λb u e=>Jn _ e) (Jq _) ?_,rfl,q _ hf⟩;exact⟨z,us,0,r,JK _ rfl⟩
end
abbrev Sp:=List V->Hp->VK->XK->Prop
abbrev CXT:=List Oc->Hp->NQ->XK->NO->NQ->Prop
structure Env0 (P:NR) (w:NS) (K:Fg) (mg:Str->Option NO) (base:NY) (A:NT) (outer:List Oc) (s:NQ) (H:Hp):Prop where
 frames:A.frames=some outer
 mod:Mod K mg base
 bs:∀b o,base.get? b=some o->s.heap.get? b=some o/\H b=none
 bsz:base.objs.size<=s.heap.objs.size
 funs:s.heap.FunFrames base outer
 frf:∀b∈frs outer,H b=none
 hok:HOk P w H s.heap
 bare:AllBare s.gens
def CE (outer:List Oc)(P:NR)(w:NS)(H:Hp)(s:NQ)(Q:VK)(u:NO)(s':NQ):Prop :=
 ∃v H',s'.os=s.os/\AllBare s'.gens/\Un (frs outer) [] H H' s.heap s'.heap/\HOk P w H' s'.heap/\u6 v u/\Q v H'
def CR (CX:CXT)(outer:List Oc)(P:NR)(w:NS)(H:Hp)(s:NQ)(Q:VK)(E:XK)(r:Result)(s':NQ):Prop :=
 match r with
 | .ok (.ret u)=>CE outer P w H s Q u s'
 | .ok _=>False
 | .error e=>CX outer H s E e s'
structure FnOk (P:NR) (w:NS) (K:Fg) (mg:Str->Option NO) (base:NY) (CX:CXT) (k:Nat) (f:NP) (fd:NV) (ps:List Str) (sp:Sp):Prop where
 len:∀vs H Q E,sp vs H Q E->vs.length=ps.length
 run:∀(A:NT) (outer:List Oc) (s:NQ) (H:Hp) (args:Args) (us:List NO) (vs:List V) (Q:VK) (E:XK),Room k A->Env0 P w K mg base A outer s H->BindsTo s fd args (ps.zip us)->l0 vs us->sp vs H Q E ->
  codeAny (model P w) A (.call (.ref f) args) (CR CX outer P w H s Q E) s
def FnOk.imp {P:NR}{w:NS}{K:Fg}{mg:Str->Option NO}{base:NY}{CX:CXT}{k:Nat}{f:NP}{fd:NV}{ps:List Str}{sp sp':Sp}(F:FnOk P w K mg base CX k f fd ps sp)
  (h:∀vs H Q E,sp' vs H Q E->sp vs H Q E):FnOk P w K mg base CX k f fd ps sp' :=
 ⟨λvs H Q E q=>F.len vs H Q E (h _ _ _ _ q),λA outer s H args us vs Q E hr he hb hv hs=>F.run A outer s H args us vs Q E hr he hb hv (h _ _ _ _ hs)⟩
section
variable {X:Cx}{pins:List (NP×Ob)}{σ:St}{H:Hp}{s s':NQ}
def Inv.env0 (I:Inv X pins σ H s):Env0 X.prog X.w X.K X.mg X.base X.A X.stack s H :=
 ⟨I.ok.frames,I.ok.mod,I.bs,JM I.ok.bsz I.sz,I.stack,I.stkFree,I.hok,I.bare⟩
def Inv.after {Q:VK}{u:NO}(I:Inv X pins σ H s)(h:CE X.stack X.prog X.w H s Q u s'):EP X pins σ Q u s':=by
 obtain⟨v,H',os,bare,un,hok,r,q⟩:=h;obtain⟨hh,g,d,t,os'⟩:=s';obtain rfl:os'=s.os:=os;exact⟨v,H',I.call (h':=hh) (g':=g) (d':=d) (t':=t) (ch:=[]) un hok bare (λb z=>absurd z (by simp)),r,q⟩
end
def dA (sp:Sp)(dvs:List V)(E:XK)(t:TA):TE:=λσ H Q=>t σ H λvs H1=>sp (vs++dvs) H1 Q E
def fG (K:Fg)(fd:NV)(ps:List Str)(ds:List NO):Prop :=
 ∀(s:NQ) (us:List NO),K.In s.heap->(us++ds).length=ps.length->BindsTo s fd ⟨us,[]⟩ (ps.zip (us++ds))
def fG.all {K:Fg}{fd:NV}{ps:List Str}(h:∀us:List NO,us.length=ps.length->bindArgs fd ⟨us,[]⟩=pure (ps.zip us)):fG K fd ps []:=λs us _ hl=>by
 rw[Kg]at hl ⊢;exact .of_eq (h us hl)
def pQ (CX:CXT)(X:Cx)(E:XK):Prop:=∀(pins:List (NP×Ob)) (σ:St) (H:Hp) (s:NQ) (e:NO) (s':NQ),Inv X pins σ H s->CX X.stack H s E e s'->X.xe e s'
section
variable {X:Cx}{CX:CXT}{k:Nat}{f C:NP}{fd:NV}{ps:List Str}{sp:Sp}{dvs:List V}{ds:List NO}{E:XK}{x m:Str}{p pos apos:Pos}{e o:NX}{es:List NX}{ta:TE}{t:TA}
def Cm {pins:List (NP×Ob)}{σ:St}{H:Hp}{s:NQ}{Q:VK}{us:List NO}{vs:List V}(F:FnOk X.prog X.w X.K X.mg X.base CX k f fd ps sp)(hr:Room k X.A)(hb:fG X.K fd ps ds)(hd:l0 dvs ds)(hx:pQ CX X E)
  (I:Inv X pins σ H s) (r:l0 vs us) (h:sp (vs++dvs) H Q E):Of (model X.prog X.w) X.A (call (.ref f) us) (EP X pins σ Q) X.xe s:=by
 have r2:l0 (vs++dvs) (us++ds):=r.append hd;have hl:(us++ds).length=ps.length:=by rw[<-r2.length];exact F.len _ _ _ _ h
 refine wpAny_call (codeAny_mono (F.run X.A X.stack s H ⟨us,[]⟩ (us++ds) (vs++dvs) Q E hr I.env0 (hb s us I.kIn hl) r2 h) λr s' hq=>?_);cases r with
 | error e=>exact hx pins σ H s e s' I hq
 | ok fl =>
  cases fl with
  | ret u=>exact I.after hq
  | next=>exact False.elim hq
  | brk=>exact False.elim hq
  | cont=>exact False.elim hq
def xR (F:FnOk X.prog X.w X.K X.mg X.base CX k f fd ps sp)(hr:Room k X.A)(hg:Gl X x)(hm:X.mg x=some (.ref f))(hk:PySem.W.keepIn X.K (.ref f)=true)(hb:fG X.K fd ps ds)(hd:l0 dvs ds)(hx:pQ CX X E)
  (ha:PA X (e::es) t) (hdb:(x == ("__debug__":Str))=false:=by decide) (he:Oa (e::es) X.env=(false,eval e X.env)::Oa es X.env:=by rfl) (hpl:(Od pos (Oa es X.env)).any (·.1)=false:=by rfl) :
  PE X (.Call (.Name x p) (e::es) [] pos) (dA sp dvs E t):=by
 intro pins s σ H Q I h;refine Nn (qI I hg hm ?_ hdb);refine PySem.W.callWith_K (h₀:=X.base) I.ok.mod.kin hk (thn (ha pos pins s σ H _ I h) λus s1 ⟨vs,H1,I1,r,q⟩=>⟨I1.kIn,?_⟩) he hpl;exact Cm F hr hb hd hx I1 r q
end
section
variable {X:Cx}{CX:CXT}{k:Nat}{f C:NP}{fd:NV}{ps ks:List Str}{sp:Sp}{E:XK}{x m:Str}{p pos apos kpos:Pos}{e o:NX}{es:List NX}{kws:List Oe}{te ta:TE}{t tk:TA}{nm:Option Str}
variable {g:List NO->List NO->List NO}{gV:List V->List V->List V}
end
structure FnScope (N P:List Str) (sc:NU):Prop where
 kind:sc.kind = .function:=by rfl
 co:sc.isCoroutine=false:=by rfl
 gen:sc.isGenerator=false:=by rfl
 nd:N.Nodup:=by decide +kernel
 pre:N.take P.length=P:=by rfl
 par:∀x∈P,sc.names.lookup x=some .local\/sc.names.lookup x=some .cell:=by decide +kernel
 nofree:∀y∈sc.names,y.2 ≠ .free:=by decide +kernel
theorem jN {kindOf:Str->Option Oq}{x:Str}:∀{binds:List (Str×NO)} {m:Str->Option NO},(∀v,(x,v) ∉ binds)->bindL kindOf binds m x=m x
 | [],_,_=>rfl
 | (n,v)::r,m,h=>by
  unfold bindL;rw[jN λw hw=>h w (Jh _ hw)];split
  .have:x≠n:=by rintro rfl;exact h v Jv
   simp[this]
  .rfl
theorem jZ {kindOf:Str->Option Oq}{x:Str}:∀{binds:List (Str×NO)} {m:Str->Option NO},(∀v,(x,v) ∉ binds)->bindC kindOf binds m x=m x
 | [],_,_=>rfl
 | (n,v)::r,m,h=>by
  unfold bindC;rw[jZ λw hw=>h w (Jh _ hw)];split
  .rfl
  .have:x≠n:=by rintro rfl;exact h v Jv
   simp[this]
def jJ {kindOf:Str->Option Oq}{x:Str}{v:NO}:∀{P:List Str} {vs:List NO} {i:Nat} {m:Str->Option NO},P.Nodup->P[i]? = some x->vs[i]? = some v->kindOf x=some .local ->
  bindL kindOf (P.zip vs) m x=some v
 | [],_,_,_,_,h,_,_=>by simp at h
 | _::_,[],_,_,_,_,h,_=>by simp at h
 | p::P,w::vs,0,m,nd,h1,h2,hk=>by
  simp at h1 h2;subst h1;subst h2;show bindL kindOf ((p,w)::P.zip vs) m p=_;unfold bindL;rw[jN λv hv=>(Kt.1 nd).1 (NK hv).1,Jk hk];simp
 | p::P,w::vs,i+1,m,nd,h1,h2,hk=>by
  show bindL kindOf ((p,w)::P.zip vs) m x=_;unfold bindL;exact jJ (i:=i) (Kt.1 nd).2 (by simpa using h1) (by simpa using h2) hk
def jE {kindOf:Str->Option Oq}{x:Str}{v:NO}:∀{P:List Str} {vs:List NO} {i:Nat} {m:Str->Option NO},P.Nodup->P[i]? = some x->vs[i]? = some v->kindOf x≠some .local ->
  bindC kindOf (P.zip vs) m x=some v
 | [],_,_,_,_,h,_,_=>by simp at h
 | _::_,[],_,_,_,_,h,_=>by simp at h
 | p::P,w::vs,0,m,nd,h1,h2,hk=>by
  simp at h1 h2;subst h1;subst h2;show bindC kindOf ((p,w)::P.zip vs) m p=_;unfold bindC;rw[jZ λv hv=>(Kt.1 nd).1 (NK hv).1,Jo hk];simp
 | p::P,w::vs,i+1,m,nd,h1,h2,hk=>by
  show bindC kindOf ((p,w)::P.zip vs) m x=_;unfold bindC;exact jE (i:=i) (Kt.1 nd).2 (by simpa using h1) (by simpa using h2) hk
def E8 (N:List Str)(vs:List V):St:=vs.map some++List.replicate (N.length-vs.length) none
def O6 (CX:CXT)(P:NR)(w:NS)(K:Fg)(mg:Str->Option NO)(base:NY)(N:List Str)(qual:Str)(scope:NU)(f:NP)(cd:NO)(A:NT)(outer:List Oc)(s:NQ)(H:Hp)(E:XK):Cx where
 prog:=P
 w:=w
 K:=K
 mg:=mg
 base:=base
 A:=A.deeper (envOfC qual scope s.heap.objs.size f cd)
 N:=N
 s₀:=s
 H₀:=H
 env:=envOfC qual scope s.heap.objs.size f cd
 outer:=outer
 stack:=envOfC qual scope s.heap.objs.size f cd::outer
 ex:=[]
 calm:=true
 fn:=λ_=>true
 pn:=[]
 xe:=λe s'=>Of (model P w) (A.deeper (envOfC qual scope s.heap.objs.size f cd)) (leaving (envOfC qual scope s.heap.objs.size f cd) e) (λ_ s''=>CX outer H s E e s'') (λe' s''=>CX outer H s E e' s'') s'
def mU {sc:NU}{n:Nat}{x:Str}(h:sc.names.lookup x=some .cell):∃c,(cellsFrom n sc.names []).lookup x=some c:=by
 have q:=PySem.W.cellsFrom_some sc.names n [] (.inl h);exact Mr.1 q
def sQ {CX:CXT}{P:NR}{w:NS}{K:Fg}{mg:Str->Option NO}{base:NY}{N ps:List Str}{qual:Str}{scope:NU}{f:NP}{cd:NO}{A:NT}{outer:List Oc}{s s1:NQ}{H:Hp}{E:XK}{us:List NO}{vs:List V}
  (S:FnScope N ps scope) (hd:A.handled=none) (e0:Env0 P w K mg base A outer s H) (hl:vs.length=ps.length) (r:l0 vs us)
  (x:InCallC s s.heap.objs.size (bindL (envOfC qual scope s.heap.objs.size f cd).kindOf (ps.zip us) λ_=>none) (cellsFrom (s.heap.objs.size+1) scope.names []) (bindC (envOfC qual scope s.heap.objs.size f cd).kindOf (ps.zip us) λ_=>none) s1) :
  Inv (O6 CX P w K mg base N qual scope f cd A outer s H E) [] (E8 N vs) H s1:=by
 have hpl:ps.length<=N.length:=by have:=Kk List.length S.pre;rw[Ke]at this;omega
 obtain⟨h1,tk,rfl,hk⟩:=x.done;have noA:∀b:NP,b ∉ (O6 CX P w K mg base N qual scope f cd A outer s H E).ex:=λb z=>absurd (show b∈([]:List NP) from z) (by simp)
 refine⟨⟨e0.mod,S.kind,rfl,rfl,Jq _,λy z c h1 h2=>?_,λy hy=>?_,λy c _ h=>?_,λ_=>hd,NT.frames_deeper e0.frames,.inr ⟨rfl,rfl⟩,λb z=>absurd z (noA b),e0.bs,e0.bsz,λb _ _=>noA b,λb z=>absurd z (noA b),e0.funs,e0.frf⟩,
  rfl,e0.bare,Un.kept hk,⟨_,x.toInCall.ns,λi y v h1 h2 h3=>?_⟩,λy c h=>⟨_,x.cell y c h⟩,e0.hok.fresh (Jq _),λy c h=>?_,λp hp=>absurd (show p∈([]:List (NP×Ob)) from hp) (by simp),e0.hok.kept hk,?_⟩
 .exact name_of_addr x.apart (Kz h1) (Kz h2)
 .have hy:scope.names.lookup y=some .cell\/scope.names.lookup y=some .free:=hy;rcases hy with hy | hy
  .exact mU hy
  .exact absurd rfl (S.nofree _ (Kz hy))
 .exact KA (x.above y c (Kz h))
 .have hi:i<vs.length:=by
   unfold E8 at h2;by_cases hi:i<vs.length
   .exact hi
   .rw[JR (by simpa using hi)]at h2;rw[Ki]at h2;split at h2 <;> cases h2
  have ha:vs[i]? = some v:=by
   unfold E8 at h2;rw[JL (by simpa using hi),Js]at h2;cases e:vs[i]? with
   | none=>rw[e]at h2;cases h2
   | some a=>rw[e]at h2;cases h2;rfl
  obtain⟨u,hu,rv⟩:=r.get ha;have hp:ps[i]? = some y:=by
   rw[<-S.pre,List.getElem?_take_of_lt (by omega)];exact h1
  have ndP:ps.Nodup:=by rw[<-S.pre];exact S.nd.sublist (List.take_sublist _ _)
  refine⟨u,rv,?_⟩;rcases S.par y (JW hp) with k | k
  .exact .inl ⟨k,jJ ndP hp hu k⟩
  .obtain⟨c,e⟩:=mU (n:=s.heap.objs.size+1) k;refine .inr ⟨.inl k,c,e,?_⟩;have q:=x.cell y c e;rw[jE ndP hp hu (by show scope.names.lookup y≠_;rw[k];decide)]at q;exact q
 .exact e0.hok.fresh (KA (x.above y c (Kz h)))
 .unfold E8;show _=N.length;rw[JX,Jf,KG];omega
def Ar {CX:CXT}{P:NR}{w:NS}{K:Fg}{mg:Str->Option NO}{base:NY}{k:Nat}{f:NP}{name qual:Str}{params:Arguments}{body:List NW}{scope:NU}{dV kV doc pm cdv ct oc:NO}{an od:Option NP}
  {osl:Array (Option NO)} {N ps:List Str} {sp:Sp} (lk:K.lookup f=some ⟨oc,od,.func (PySem.W.fnOf name qual params body scope dV kV doc pm an cdv ct),osl⟩) (hcd:PySem.W.codeIn K cdv qual=true) (S:FnScope N ps scope)
  (len:∀vs H Q E,sp vs H Q E->vs.length=ps.length)
  (hbody:∀(A:NT) (outer:List Oc) (s:NQ) (H:Hp) (vs:List V) (Q:VK) (E:XK),Room k (A.deeper (envOfC qual scope s.heap.objs.size f cdv))->sp vs H Q E ->
   ∃t,PSs (O6 CX P w K mg base N qual scope f cdv A outer s H E) body t/\t { nx:=λ_ H'=>Q .non H',rt:=Q } (E8 N vs) H) :
  FnOk P w K mg base CX (k+1) f (PySem.W.fnOf name qual params body scope dV kV doc pm an cdv ct) ps sp:=by
 refine⟨len,λA outer s H args us vs Q E hr e0 hb r hsp=>?_⟩;have hl:=len _ _ _ _ hsp;have KX:K.In s.heap:=e0.mod.kin.keeps λb o e=>(e0.bs b o e).1
 have lim:s.heap.NoLimit:=e0.mod.nolimit.keeps λb o e=>(e0.bs b o e).1
 have hkind:∀y∈ps.zip us,scope.names.lookup y.1=some .local\/(scope.names.lookup y.1=some .cell/\((cellsFrom (s.heap.objs.size+1) scope.names []).lookup y.1).isSome=true):=λ⟨n,v⟩ hy=>by
  rcases S.par n (NK hy).1 with q | q
  .exact .inl q
  .exact .inr ⟨q,PySem.W.cellsFrom_some _ _ _ (.inl q)⟩
 refine codeAny_call_function hr.depth (KX _ _ lk) rfl S.co S.gen rfl (PySem.W.codeRec_of KX hcd) (hb _ _ _ _ ?_);refine wpAny_newFunctionEnv_cells S.kind hkind λenv he s1 x=>?_
 subst he;refine⟨lim.keeps x.toInCall.keep,codeAny_func ?_⟩;obtain⟨t,ht,hq⟩:=hbody A outer s H vs Q E (hr.deeper _) hsp;have I:Inv (O6 CX P w K mg base N qual scope f cdv A outer s H E) [] (E8 N vs) H s1:=sQ S hr.hd e0 hl r x;refine KM (ht [] s1 (E8 N vs) H _ I hq) (λfl s' hs=>?_) λe s' hs=>hs
 have fin:∀{σ':St} {H':Hp} {v:V} {u:NO},Inv (O6 CX P w K mg base N qual scope f cdv A outer s H E) [] σ' H' s'->u6 v u->Q v H'->CE outer P w H s Q u s' :=
  λ{σ' H' v u} J rv q=>⟨v,H',J.os,J.bare,J.base,J.hok,rv,q⟩
 cases fl with
 | ret u =>
  obtain⟨v,σ',H',J,rv,q⟩:=hs;exact fin J rv q
 | next =>
  obtain⟨σ',H',J,q⟩:=hs;exact fin (v:=V.non) (u:=NO.none) J rfl q
 | brk =>
  obtain⟨_,_,_,q⟩:=hs;exact False.elim q
 | cont =>
  obtain⟨_,_,_,q⟩:=hs;exact False.elim q
end
section
section
variable {X:Cx}{x:Str}{p pos:Pos}{e:NX}{es:List NX}{t:TA}{id T:String}{r:List V->Hp->VK->Prop}
def tCB (r:List V->Hp->VK->Prop)(t:TA):TE:=λσ H Q=>t σ H λvs H1=>r vs H1 Q
def Y6 (hc:D1 X (.builtin id) r)(hg:Gl X x)(hm:X.mg x=none)(hv:Oj x=some (.builtin id))(ha:PA X (e::es) t)(hn:x ≠ "__name__":=by decide)(hdb:(x == ("__debug__":Str))=false:=by decide)
  (he:Oa (e::es) X.env=(false,eval e X.env)::Oa es X.env:=by rfl) (hpl:(Od pos (Oa es X.env)).any (·.1)=false:=by rfl):PE X (.Call (.Name x p) (e::es) [] pos) (tCB r t):=by
 intro pins s σ H Q I h;refine Nn (aK I hg hm hv ?_ hn hdb);exact PyProof.Rows.callWith_builtin1 (thn (ha pos pins s σ H _ I h) λus s1 ⟨vs,H1,I1,r1,q1⟩=>hc pins s1 σ H1 vs us Q I1 r1 q1) he hpl
def bK (hc:D1 X (.type T) r)(hg:Gl X x)(hm:X.mg x=none)(hv:Oj x=some (.type T))(ha:PA X (e::es) t)(hn:x ≠ "__name__":=by decide)(hdb:(x == ("__debug__":Str))=false:=by decide)
  (he:Oa (e::es) X.env=(false,eval e X.env)::Oa es X.env:=by rfl) (hpl:(Od pos (Oa es X.env)).any (·.1)=false:=by rfl):PE X (.Call (.Name x p) (e::es) [] pos) (tCB r t):=by
 intro pins s σ H Q I h;refine Nn (aK I hg hm hv ?_ hn hdb);exact KR (thn (ha pos pins s σ H _ I h) λus s1 ⟨vs,H1,I1,r1,q1⟩=>hc pins s1 σ H1 vs us Q I1 r1 q1) he hpl
end
end
end L2
namespace HT
open PySem PyProof.Rows
section
open PySem.SeqAt
open PySem.AutoSeq1 (wpAny_loadPart')
open PySem.MeetsSeq PySem.MeetsSeq2 PySem.MeetsSeq3
end
section
variable {prog:NR}{w:NS}{A:NT}{E:NO->NQ->Prop}{s:NQ}
def cat_tup {t b:NP}{vs ws:List NO}{Q:NO->NQ->Prop}(ht:IsTup s.heap t vs.toArray)(hb:IsTup s.heap b ws.toArray)(hv:vs≠[])
  (h1:ws=[]->Q (.ref t) s) (h2:ws≠[]->Q (.ref s.heap.objs.size) { s with heap:=s.heap.push { cls:=.type "tuple",data:=.seq (vs++ws).toArray } })
  (hsz:vs.length+ws.length<=NZ):Of (model prog w) A (binaryOp .Add (.ref t) (.ref b)) Q E s:=by
 obtain⟨⟨cls,dd,data,sl⟩,ho,hc,n,hd⟩:=id ht;obtain⟨⟨cls2,dd2,data2,sl2⟩,ho2,hc2,n2,hd2⟩:=id hb;simp only at hc hd hc2 hd2;subst hc hd hc2 hd2;have e:vs.toArray++ws.toArray=(vs++ws).toArray:=by simp
 by_cases hw:ws=[]
 .exact concat_meets ⟨_,ho,rfl⟩ ⟨_,ho2,rfl⟩ noFill_tuple_add seq_tuple_add MO MG (Ms _ _)
   (tuple_addW1 t b vs.toArray ws.toArray n n2 dd dd2 sl sl2 (by simpa using hv) (by simp[hw])) ⟨ho,ho2,h1 hw⟩
 .refine concat_meets ⟨_,ho,rfl⟩ ⟨_,ho2,rfl⟩ noFill_tuple_add seq_tuple_add MO MG (Ms _ _)
   (tuple_addW2 t b vs.toArray ws.toArray n n2 dd dd2 sl sl2 (by simpa using hv) (by simpa using hw) (by rw[Jw,Jw];exact hsz)) ⟨ho,ho2,?_⟩
  rw[e];exact h2 hw
def sIx (n d:Nat):Option Int->Nat
 | none=>d
 | some v=>if v<0 then(v+(n:Int)).toNat else min v.toNat n
def sIx_none (n d:Nat):sIx n d none=d:=rfl
def sIx_nat (n d k:Nat):sIx n d (some (k:Int))=min k n:=by
 show(if (k:Int)<0 then((k:Int)+(n:Int)).toNat else min (k:Int).toNat n)=min k n;rw[Jo (by omega),KN]
def CH (n d:Nat)(hd:d<=n)(o:Option Int):sIx n d o<=n:=by
 cases o with
 | none=>exact hd
 | some v =>
  show(if v<0 then(v+(n:Int)).toNat else min v.toNat n)<=n;by_cases hv:v<0
  .rw[Jk hv];omega
  .rw[Jo hv];exact Nat.min_le_right _ _
def rG (v:Int)(n d:Nat):(if v<0 then max (v+(n:Int)) 0 else min v (n:Int))=((sIx n d (some v):Nat):Int):=by
 show(if v<0 then max (v+(n:Int)) 0 else min v (n:Int))=(((if v<0 then(v+(n:Int)).toNat else min v.toNat n):Nat):Int);by_cases hv:v<0
 .simp only[Jk hv];omega
 .simp only[Jo hv];omega
def qt (lo hi:Option Int)(n:Nat):Builtin.Slice.sliceAdjust lo hi 1 (n:Int)=(((sIx n 0 lo:Nat):Int),((sIx n n hi:Nat):Int)):=by
 have h1:¬((1:Int)<0):=by omega
 unfold Builtin.Slice.sliceAdjust;simp only[h1,KH];refine Prod.ext ?_ ?_
 .cases lo with
  | none=>rfl
  | some v=>exact rG v n 0
 .cases hi with
  | none=>rfl
  | some v=>exact rG v n n
def pd (i j:Nat):Builtin.Slice.slicePlaces (i:Int) (j:Int) 1=j-i:=by
 unfold Builtin.Slice.slicePlaces;have h1:(1:Int) > 0:=by omega
 simp only[h1,KL,Int.ediv_one];split <;> omega
def cw {v:NO}{o:Option Int}{Q:Option Int->NQ->Prop}(p:IsPart v o)(h:Q o s):Of (model prog w) A (Builtin.Slice.slicePartIndex v) Q E s:=by
 cases p with
 | none=>exact slicePart_none h
 | int i t=>exact slicePart_int h
def Y0 {sl:NP}{vl vu:NO}{lo hi:Option Int}{n:Nat}{Q:Int×Int×Nat->NQ->Prop}(hs:s.heap.IsSliceOf sl vl vu .none)(pl:IsPart vl lo)(pu:IsPart vu hi)
  (h:Q (((sIx n 0 lo:Nat):Int),1,sIx n n hi-sIx n 0 lo) s):Of (model prog w) A (Builtin.Slice.sliceApplied (.ref sl) (pure (n:Int))) Q E s:=by
 obtain⟨os,hos,hcs,hds⟩:=id hs;unfold Builtin.Slice.sliceApplied Builtin.Slice.sliceFields;refine Jg (Jg (Lw hos hds (x:=vl) rfl (Jg (Lw hos hds (x:=vu) rfl (Jg (Lw hos hds (x:=.none) rfl (Jx ?_)))))));refine Jg (slicePart_none ?_);show Of _ _ (if ((1:Int) == 0)=true then _ else _) _ _ s;rw[Jo (by decide)];refine Jg (cw pl (Jg (cw pu (Jg (Jx ?_)))));show Of _ _ (match Builtin.Slice.sliceAdjust lo hi 1 (n:Int) with | (lo,hi)=>pure (lo,(1:Int),Builtin.Slice.slicePlaces lo hi 1)) _ _ s;rw[qt lo hi n];show Of _ _ (pure (((sIx n 0 lo:Nat):Int),(1:Int),Builtin.Slice.slicePlaces ((sIx n 0 lo:Nat):Int) ((sIx n n hi:Nat):Int) 1)) _ _ s;rw[pd];exact Jx h
def uK (xs:Array NO)(i k:Nat):((List.range k).filterMap λ(m:Nat)=>xs[((i:Int)+(m:Int)*1).toNat]?).toArray=((xs.toList.drop i).take k).toArray:=by
 have e:(λ(m:Nat)=>xs[((i:Int)+(m:Int)*1).toNat]?) = λm=>xs[i+m]?:=by
  funext m;have:((i:Int)+(m:Int)*1).toNat=i+m:=by omega
  rw[this]
 rw[e];have:=pick_run xs i k;rw[List.filterMap_map]at this;have e2:((λx=>xs[x]?) ∘ λx=>i+x) = λm=>xs[i+m]?:=rfl
 rw[e2]at this;rw[this]
def getItem_tuple_cut {t sl:NP}{items:Array NO}{vl vu:NO}{lo hi:Option Int}{Q:NO->NQ->Prop}(ht:IsTup s.heap t items)(hs:s.heap.IsSliceOf sl vl vu .none)(pl:IsPart vl lo)(pu:IsPart vu hi)
  (hw:¬(sIx items.size 0 lo=0/\sIx items.size items.size hi=items.size))
  (h:Q (.ref s.heap.objs.size) { s with heap:=s.heap.push { cls:=.type "tuple",data:=.seq ((items.toList.drop (sIx items.size 0 lo)).take (sIx items.size items.size hi-sIx items.size 0 lo)).toArray } })
  (hsz:items.size<=NZ):Of (model prog w) A (getItem (.ref t) (.ref sl)) Q E s:=by
 have htake:sizeOk (.seq ((items.toList.drop (sIx items.size 0 lo)).take (sIx items.size items.size hi-sIx items.size 0 lo)).toArray):=by
  show((items.toList.drop (sIx items.size 0 lo)).take (sIx items.size items.size hi-sIx items.size 0 lo)).toArray.size<=NZ;rw[Jw,Ke,List.length_drop,KY];omega
 have hj:sIx items.size items.size hi<=items.size:=CH _ _ (Jq _) hi;obtain⟨os,hos,hcs,hds⟩:=id hs;have hTs:s.TypeIs (.ref sl) "slice":=⟨os,hos,hcs⟩;unfold getItem;try with_reducible refine Ld ?_
 first | refine Jg (Jx ?_) | skip
 refine Jg (wpAny_sequenceKey ht.typeIs (by decide) ?_);refine Jg (Lq (name:=Str.ofString "__getitem__") ht.typeIs Kb
  (Ls Kb ht.typeIs entry_tuple_getitem ?_ (args_tuple_getitem _ _)))
 show Of _ _ (Builtin.Tuple.tupleItemsOf (.ref t) >>= _) _ _ s;refine Jg (tupleItemsOf_ ht ?_);refine Jg (MY hTs ?_);rw[Jk (by decide)];refine Jg (Y0 hs pl pu ?_);have hno:¬((((sIx items.size 0 lo:Nat):Int) == 0&&(1:Int) == 1&&(sIx items.size items.size hi-sIx items.size 0 lo) == items.size)=true):=by
  intro q;rw[LJ,LJ]at q;have q1:((sIx items.size 0 lo:Nat):Int)=0:=eq_of_beq q.1.1;have q2:sIx items.size items.size hi-sIx items.size 0 lo=items.size:=eq_of_beq q.2;exact hw ⟨by omega,by omega⟩
 show Of _ _ (if (((sIx items.size 0 lo:Nat):Int) == 0&&(1:Int) == 1&&(sIx items.size items.size hi-sIx items.size 0 lo) == items.size)=true then _ else _) _ _ s;rw[Jo hno,uK];first
  | exact Jg (m:=Builtin.Tuple.tupleExact _) (Km (Jx ⟨_,rfl,Jx h⟩) htake)
  | exact Jg (m:=Builtin.Tuple.tupleExact _) (Km (Jg (Jx (Jx ⟨_,rfl,Jx h⟩))) htake)
  | exact Jg (Jg (m:=Builtin.Tuple.tupleExact _) (Km (Jx (Jx ⟨_,rfl,Jx h⟩)) htake))
  | exact Jg (Jg (m:=Builtin.Tuple.tupleExact _) (Km (Jx ⟨_,rfl,Jx h⟩) htake))
end
end HT
namespace L2
open PySem PySem.Spec PyProof.Rows
section
abbrev TO:=St->Hp->(Option Int->Hp->Prop)->Prop
def PO (X:Cx)(e:Option NX)(t:TO):Prop :=
 ∀(pins:List (NP×Ob)) (s:NQ) (σ:St) (H:Hp) (Q:Option Int->Hp->Prop),Inv X pins σ H s->t σ H Q ->
  Of (model X.prog X.w) X.A (evalPart e X.env) (λu s'=>∃o H',Inv X pins σ H' s'/\IsPart u o/\Q o H') X.xe s
def rX:TO:=λ_ H Q=>Q none H
def zT (t:TE):TO:=λσ H Q=>t σ H λx H1=>∃i,x = .int i/\Q (some i) H1
def cm {ns:List Int}:∀{us:List NO},l0 (ns.map V.int) us->IntsAre us ns:=by
 induction ns with
 | nil=>intro us r;rw[Kl]at r;cases r;exact .nil
 | cons n ns ih =>
  intro us r;rw[Jy]at r;cases r with
  | cons r1 r2 =>
   obtain⟨t,e⟩:=r1;subst e;exact .cons n t (ih r2)
section
variable {X:Cx}{e:NX}{te:TE}{lo hi:Option NX}{tl th:TO}{pos p2:Pos}
def qU:PO X none rX:=by
 intro pins s σ H Q I h;rw[evalPart_none];exact Jx ⟨none,H,I,.none,h⟩
def ki (h:PE X e te):PO X (some e) (zT te):=by
 intro pins s σ H Q I hw;rw[evalPart_some];refine thn (h pins s σ H _ I hw) λu s1 ⟨x,H1,I1,r1,q1⟩=>?_
 obtain⟨i,rfl,q⟩:=q1;obtain⟨t,rfl⟩:=r1;exact⟨some i,H1,I1,.int i t,q⟩
def SlR (X:Cx)(r:V->Option Int->Option Int->Hp->VK->Prop):Prop :=
 ∀(pins:List (NP×Ob)) (s:NQ) (σ:St) (H:Hp) (x:V) (v vl vu:NO) (lo hi:Option Int) (sl:NP) (Q:VK),Inv X pins σ H s->u6 x v->s.heap.IsSliceOf sl vl vu .none->IsPart vl lo->IsPart vu hi->r x lo hi H Q ->
  ∃T id,typeLookup (.type T) "__getitem__" = pure (some (.builtin id))/\s.TypeIs v T/\Of (model X.prog X.w) X.A (getItem v (.ref sl)) (EP X pins σ Q) X.xe s
def tSl (r:V->Option Int->Option Int->Hp->VK->Prop)(te:TE)(tl th:TO):TE:=λσ H Q=>te σ H λx H1=>tl σ H1 λl H2=>th σ H2 λu H3=>r x l u H3 Q
def lZ {r:V->Option Int->Option Int->Hp->VK->Prop}(hr:SlR X r)(he:PE X e te)(hl:PO X lo tl)(hu:PO X hi th):PE X (.Subscript e (.Slice lo hi none p2) pos) (tSl r te tl th):=by
 intro pins s σ H Q I h;refine Subscript_ (thn (he pins s σ H _ I h) λv s1 ⟨x,H1,I1,r1,q1⟩=>?_);refine wpAny_Slice (thn (hl pins s1 σ H1 _ I1 q1) λvl s2 ⟨l,H2,I2,pl,q2⟩=>thn (hu pins s2 σ H2 _ I2 q2) λvu s3 ⟨u,H3,I3,pu,q3⟩=>?_);rw[evalPart_none];refine Jx ?_;have I4:Inv X pins σ H3 { s3 with heap:=s3.heap.push { cls:=.type "slice",data:=.fields #[vl,vu,.none] } }:=I3.kept (t':=s3.toks) λb ob q=>Jn _ q
 obtain⟨T,id,hT,ht,hg⟩:=hr pins { s3 with heap:=s3.heap.push { cls:=.type "slice",data:=.fields #[vl,vu,.none] } } σ H3 x v vl vu l u s3.heap.objs.size Q I4 r1 (Np ..) pl pu q3;show Of (model X.prog X.w) X.A (subscriptTail e (.Slice lo hi none p2) v (.ref s3.heap.objs.size)) (EP X pins σ Q) X.xe { s3 with heap:=s3.heap.push { cls:=.type "slice",data:=.fields #[vl,vu,.none] } };exact tail_any (ops:=[.ref s3.heap.objs.size,v]) ht hT hg (by with_unfolding_all rfl)
def eO (xs:List V)(lo hi:Option Int):List V:=(xs.drop (HT.sIx xs.length 0 lo)).take (HT.sIx xs.length xs.length hi-HT.sIx xs.length 0 lo)
def fF (xs:List V)(lo hi:Option Int):(eO xs lo hi).length<=xs.length:=by
 unfold eO;rw[Ke,List.length_drop];omega
def EO (K:Fg):V->Option Int->Option Int->Hp->VK->Prop:=λx lo hi H Q=>∃a xs,x = .ref a/\SqT K H a xs /\
 ¬(HT.sIx xs.length 0 lo=0/\HT.sIx xs.length xs.length hi=xs.length)/\∀p,H p=none->Q (.ref p) (upd H p (.tup (eO xs lo hi)))
def BK:SlR X (EO X.K):=by
 intro pins s σ H x v vl vu lo hi sl Q I rx hs pl pu h;obtain⟨a,xs,rfl,hx,hw,q⟩:=h;cases rx;obtain⟨its,r,ht,hz⟩:=I.tuple hx;have hlen:its.toArray.size=xs.length:=by rw[Jw];exact r.length.symm
 refine⟨"tuple",_,Kb.lookup,ht.typeIs,?_⟩;refine HT.getItem_tuple_cut ht hs pl pu (by rw[hlen];exact hw) ?_ (by rw[hlen];exact hz);rw[hlen];refine⟨.ref s.heap.objs.size,_,I.laid (t':=s.toks) (o:=.tup (eO xs lo hi)) (λb ob q=>Jn _ q) (Jq _) ?_,rfl,q _ (I.hok.fresh (Jq _))⟩;exact⟨JM (fF xs lo hi) hz,_,(r.drop (HT.sIx xs.length 0 lo)).take (HT.sIx xs.length xs.length hi-HT.sIx xs.length 0 lo),Mp _ _⟩
def CQ (K:Fg):R2:=λx y H Q=>∃a b xs ys,x = .ref a/\y = .ref b/\SqT K H a xs/\SqT K H b ys/\xs≠[]/\xs.length+ys.length<=NZ /\
 (ys=[]->Q (.ref a) H)/\(ys≠[]->∀p,H p=none->Q (.ref p) (upd H p (.tup (xs++ys))))
def l0.nil_iff {xs:List V}{us:List NO}(r:l0 xs us):us=[]↔xs=[]:=by
 cases r with
 | nil=>simp
 | cons _ _=>simp
def yR:OpR X (binaryOp .Add) (CQ X.K):=by
 intro pins s σ H x y v u Q I rx ry h;obtain⟨a,b,xs,ys,rfl,rfl,ha,hb,hx,hz,q1,q2⟩:=h;cases rx;cases ry;obtain⟨its,r1,p1,_⟩:=I.tuple ha;obtain⟨its2,r2,p2,_⟩:=I.tuple hb;refine HT.cat_tup p1 p2 (λz=>hx (r1.nil_iff.1 z)) (λz=>⟨.ref a,H,I,rfl,q1 (r2.nil_iff.1 z)⟩) (λz=>?_) (by rw[<-r1.length,<-r2.length];exact hz);refine⟨.ref s.heap.objs.size,_,I.laid (t':=s.toks) (o:=.tup (xs++ys)) (λb ob q=>Jn _ q) (Jq _) ?_,rfl,q2 (λw=>z (r2.nil_iff.2 w)) _ (I.hok.fresh (Jq _))⟩;exact⟨by rw[JX];exact hz,_,r1.append r2,Mp _ _⟩
end
end
section
def ixN (n:Nat)(i:Int):Option Nat:=if 0<=i then(if i<n then some i.toNat else none) else if -(n:Int)<=i then some (i+n).toNat else none
def atI {α:Type}(xs:List α)(i:Int):Option α:=(ixN xs.length i).bind λj=>xs[j]?
def qV {n:Nat}{i:Int}{j:Nat}(h:ixN n i=some j):seqIndex? i n=some j/\j<n /\ -(n:Int)<=i/\i<n:=by
 unfold ixN at h;by_cases h0:0<=i
 .rw[Jk h0]at h;by_cases h1:i<n
  .rw[Jk h1]at h;have e:i.toNat=j:=Jt h;exact⟨by rw[seqIndex_of h0 h1,e],by omega,by omega,h1⟩
  .rw[Jo h1]at h;cases h
 .rw[Jo h0]at h;by_cases h1:-(n:Int)<=i
  .rw[Jk h1]at h;have e:(i+n).toNat=j:=Jt h;exact⟨by rw[seqIndex_neg (by omega) h1,e],by omega,h1,by omega⟩
  .rw[Jo h1]at h;cases h
def kR {α:Type}{xs:List α}{i:Int}{v:α}(h:atI xs i=some v):∃j,seqIndex? i xs.length=some j/\xs[j]? = some v/\j<xs.length /\ -(xs.length:Int)<=i/\i<xs.length:=by
 unfold atI at h;cases e:ixN xs.length i with
 | none=>rw[e]at h;cases h
 | some j =>
  rw[e]at h;obtain⟨h1,h2,h3,h4⟩:=qV e;exact⟨j,h1,h,h2,h3,h4⟩
def W1 {α:Type}{xs:List α}{j:Nat}{v:α}(h:xs[j]? = some v):atI xs (j:Int)=some v:=by
 have hj:j<xs.length:=(Jm.1 h).1;have e:ixN xs.length (j:Int)=some j:=by
  unfold ixN;rw[Jk (by omega),Jk (by omega)];simp
 unfold atI;rw[e];exact h
def lB (b:NX):Prop:=∀o i,subscripted b false o i=operate [o,i] (getItem o i)
def IxR (X:Cx)(r:R2):Prop :=
 ∀(value slice:NX) (pins:List (NP×Ob)) (s:NQ) (σ:St) (H:Hp) (x y:V) (v u:NO) (Q:VK),Inv X pins σ H s->u6 x v->u6 y u->r x y H Q ->
  subscripted slice false v u=operate [v,u] (getItem v u)->Of (model X.prog X.w) X.A (subscriptTail value slice v u) (EP X pins σ Q) X.xe s
def MtR (X:Cx)(id:String)(r:V->List V->Hp->VK->Prop):Prop :=
 ∀(pins:List (NP×Ob)) (s:NQ) (σ:St) (H:Hp) (x:V) (xs:List V) (v:NO) (us:List NO) (Q:VK),Inv X pins σ H s->u6 x v->l0 xs us->r x xs H Q ->
  Of (model X.prog X.w) X.A (call (.builtin id) (v::us)) (EP X pins σ Q) X.xe s
section
variable {X:Cx}{a b:NX}{ta tb:TE}{pos:Pos}
def N4 {r:R2}(hr:IxR X r)(ha:PE X a ta)(hb:PE X b tb)(hs:lB b):PE X (.Subscript a b pos) (tOp r ta tb):=by
 intro pins s σ H Q I h;exact Subscript_ (Cw ha hb I h λv u s2 x y H2 I2 rx ry q=>hr a b pins s2 σ H2 x y v u Q I2 rx ry q (hs _ _))
def uu (K:Fg):R2:=λx y H Q=>∃p xs i v,x = .ref p/\y = .int i/\SqL K H p xs/\atI xs i=some v/\Q v H
def Bg (K:Fg):R2:=λx y H Q=>∃p xs i v,x = .ref p/\y = .int i/\SqT K H p xs/\atI xs i=some v/\Q v H
def EE:R2:=λx y H Q=>∃z i c,x = .str z/\y = .int i/\z.length<=NZ/\atI z.cps.toList i=some c/\Q (.str ⟨#[c]⟩) H
def C8:IxR X (uu X.K):=by
 intro value slice pins s σ H x y v u Q I rx ry h hs;obtain⟨p,xs,i,z,rfl,rfl,hq,he,q⟩:=h;cases rx;obtain⟨t,rfl⟩:=ry;obtain⟨its,r,pl,hz⟩:=I.list hq;obtain⟨j,h1,h2,h3,h4,h5⟩:=kR he;obtain⟨w,ew,rw'⟩:=r.get h2;have hl:=r.length;have hn:=cJ;have fin:EP X pins σ Q w s:=⟨z,H,I,rw',q⟩;by_cases h0:0<=i
 .have hj:i.toNat=j:=by
   rw[seqIndex_of h0 h5]at h1;exact Jt h1
  exact item_listR pl.isList h0 (by omega) (by rw[hj];simpa using ew) fin hs
 .have hj:(i+(its.toArray.size:Int)).toNat=j:=by
   rw[seqIndex_neg (by omega) h4]at h1;rw[Jw,<-hl];exact Jt h1
  exact subscriptTail_builtinR (x:=w) pl.isList.typeIs slot_list_getitem.lookup
   (wpAny_getItem_list_neg (Q:=λr s'=>r=w/\EP X pins σ Q r s') pl.isList (by omega) (by rw[Jw] <;> omega) (by omega) (by rw[hj];simpa using ew) ⟨rfl,fin⟩) hs
def qo:IxR X (Bg X.K):=by
 intro value slice pins s σ H x y v u Q I rx ry h hs;obtain⟨p,xs,i,z,rfl,rfl,hq,he,q⟩:=h;cases rx;obtain⟨t,rfl⟩:=ry;obtain⟨its,r,pl,hz⟩:=I.tuple hq;obtain⟨j,h1,h2,h3,h4,h5⟩:=kR he;obtain⟨w,ew,rw'⟩:=r.get h2;have hl:=r.length;have hn:=cJ;have fin:EP X pins σ Q w s:=⟨z,H,I,rw',q⟩;exact subscriptTail_builtinR (x:=w) pl.typeIs slot_tuple_getitem.lookup
  (getItem_tuple (j:=j) (Q:=λr s'=>r=w/\EP X pins σ Q r s') pl (by omega) (by omega) (by rw[Jw,<-hl];exact h1) (by simpa using ew) ⟨rfl,fin⟩) hs
def Cz:IxR X EE:=by
 intro value slice pins s σ H x y v u Q I rx ry h hs;obtain⟨z,i,c,rfl,rfl,hz,he,q⟩:=h;obtain⟨t,rfl⟩:=rx;obtain⟨t',rfl⟩:=ry;obtain⟨j,h1,h2,h3,h4,h5⟩:=kR he;have hl:z.cps.toList.length=z.length:=by simp[Str.length]
 rw[hl]at h1 h4 h5;have hn:=cJ;exact tail_any (MZ s z t) slot_str_getitem.lookup (getItem_str (c:=c) (by
  have e1:decide (i < -(2 ^ 63:Int))=false:=JY (by omega);have e2:decide (i >= 2 ^ 63)=false:=JY (by omega);rw[e1,e2,Bool.or_false]) (by rw[h1];simpa using h2) ⟨.str ⟨#[c]⟩,H,I.tok _,⟨_,rfl⟩,q⟩) hs
def qz (its:List NO)(n j:Nat)(u:NO):Ob.mapSeq (·.setIfInBounds j u) { cls:=.type "list",data:=.seq its.toArray n }={ cls:=.type "list",data:=.seq (its.set j u).toArray n }:=by
 simp[Ob.mapSeq]
def Inv.lst {pins:List (NP×Ob)}{σ:St}{H:Hp}{s:NQ}{p:NP}{xs:List V}(I:Inv X pins σ H s)(h:H p=some (.lst xs)) :
  ∃(its:List NO) (n:Nat),l0 xs its/\s.heap.get? p=some { cls:=.type "list",data:=.seq its.toArray n }/\xs.length<=NZ:=by
 obtain⟨z,its,n,r,e⟩:=I.hok p _ h;exact⟨its,n,r,e,z⟩
def Inv.lstUpd {pins:List (NP×Ob)}{σ:St}{H:Hp}{s:NQ}{p:NP}{xs ys:List V}{its its':List NO}{n n':Nat}{f:Ob->Ob}(I:Inv X pins σ H s)(h:H p=some (.lst xs))
  (ho:s.heap.get? p=some { cls:=.type "list",data:=.seq its.toArray n }) (hf:f { cls:=.type "list",data:=.seq its.toArray n }={ cls:=.type "list",data:=.seq its'.toArray n' }) (r:l0 ys its') (hz:ys.length<=NZ) (t:Nat) :
  Inv X pins σ (upd H p (.lst ys)) { s with heap:=s.heap.update p f,toks:=t }:=by
 have e:(s.heap.update p f).get? p=some { cls:=.type "list",data:=.seq its'.toArray n' }:=by
  rw[NY.get?_update_self f ho (by rw[hf] <;> rfl),hf]
 refine I.write (x:=p) (e:=p) (by rw[h];trivial) (.inl rfl) (λb u hb q=>(NY.get?_update_other _ _ (JV hb)).trans q) ⟨_,e⟩ ?_;exact⟨hz,its',n',r,e⟩
def cY:V->V->V->Hp->(Hp->Prop)->Prop:=λo i v H Q=>∃p xs k j,o = .ref p/\i = .int k/\H p=some (.lst xs)/\ixN xs.length k=some j/\Q (upd H p (.lst (xs.set j v)))
def O5:DT X cY:=by
 intro pins s σ H o i v ov iv u Q I ro ri rv h;obtain⟨p,xs,k,j,rfl,rfl,hp,hj,q⟩:=h;cases ro;obtain⟨t,rfl⟩:=ri;obtain⟨its,n,r,ho,hz⟩:=I.lst hp;obtain⟨h1,h2,h3,h4⟩:=qV hj;have hl:=r.length;have hn:=cJ;have I':Inv X pins σ (upd H p (.lst (xs.set j v))) { s with heap:=s.heap.update p (Ob.mapSeq (·.setIfInBounds j u)) } :=
  I.lstUpd hp ho (qz its n j u) (r.set rv j) (by rw[Kh];exact hz) s.toks
 by_cases h0:0<=k
 .have hk:k.toNat=j:=by
   rw[seqIndex_of h0 h4]at h1;exact Jt h1
  exact PySem.W.ki_setAt ho h0 (by omega) (by rw[Jw,<-hl];exact h4) (by rw[hk];exact⟨_,I',q⟩)
 .have hk:(k+(its.toArray.size:Int)).toNat=j:=by
   rw[seqIndex_neg (by omega) h3]at h1;rw[Jw,<-hl];exact Jt h1
  exact PySem.W.ki_setBack ho (by omega) (by rw[Jw,<-hl];exact h3) (by omega) (by rw[hk];exact⟨_,I',q⟩)
def kU (lo hi:Option Int)(n:Nat):(sliceBounds lo hi none n).1=((HT.sIx n 0 lo:Nat):Int)/\(sliceBounds lo hi none n).2.1=((HT.sIx n n hi:Nat):Int)/\(sliceBounds lo hi none n).2.2=1:=by
 refine⟨?_,?_,rfl⟩
 .cases lo with
  | none=>simp[sliceBounds,HT.sIx]
  | some i =>
   simp only[sliceBounds,HT.sIx,ND,show(1:Int) > 0 by decide,KL]
   by_cases h:i<0
   .simp only[h,KL] <;> omega
   .simp only[h,KH] <;> omega
 .cases hi with
  | none=>simp[sliceBounds,HT.sIx]
  | some i =>
   simp only[sliceBounds,HT.sIx,ND,show(1:Int) > 0 by decide,KL]
   by_cases h:i<0
   .simp only[h,KL] <;> omega
   .simp only[h,KH] <;> omega
def js (its:List NO)(lo hi:Option Int):slicePick its.toArray lo hi none=((its.drop (HT.sIx its.length 0 lo)).take (HT.sIx its.length its.length hi-HT.sIx its.length 0 lo)).toArray:=by
 obtain⟨h1,h2,h3⟩:=kU lo hi its.toArray.size;unfold slicePick;rw[h1,h2,h3];simp only[sliceRange_one,pick_run,Jw] <;> rfl
def EA (K:Fg):V->Option Int->Option Int->Hp->VK->Prop:=λx lo hi H Q=>∃a xs,x = .ref a/\SqL K H a xs/\∀p,H p=none->Q (.ref p) (upd H p (.lst (eO xs lo hi)))
def qP:SlR X (EA X.K):=by
 intro pins s σ H x v vl vu lo hi sl Q I rx hs pl pu h;obtain⟨a,xs,rfl,hx,q⟩:=h;cases rx;obtain⟨its,r,ht,hz⟩:=I.list hx;have hlen:=r.length;refine⟨"list",_,slot_list_getitem.lookup,ht.isList.typeIs,?_⟩;refine wpAny_getItem_list_slice ht.isList hs pl pu .none (by simp) ?_ (by rw[Jw] <;> omega);rw[js,<-hlen];refine⟨.ref s.heap.objs.size,_,I.laid (t':=s.toks) (o:=.lst (eO xs lo hi)) (λb ob q=>Jn _ q) (Jq _) ?_,rfl,q _ (I.hok.fresh (Jq _))⟩;exact⟨JM (fF xs lo hi) hz,_,0,(r.drop (HT.sIx xs.length 0 lo)).take (HT.sIx xs.length xs.length hi-HT.sIx xs.length 0 lo),JK _ rfl⟩
def L0:D1 X (.builtin "len") (λxs H Q=>∃p ys,xs=[.ref p]/\(SqL X.K H p ys\/SqT X.K H p ys)/\Q (.int ys.length) H):=by
 intro pins s σ H xs us Q I r h;obtain⟨p,ys,rfl,hq,q⟩:=h;obtain⟨u,rfl,rx⟩:=P5 r;cases rx;have hn:=cJ;rcases hq with hq | hq
 .obtain⟨its,r',pl,hz⟩:=I.list hq;have hlen:=r'.length;exact Calls.call_len_list pl.isList (by simp only[Jw] <;> omega) ⟨.int ys.length,H,I.tok _,⟨s.toks+1,by rw[Jw,hlen]⟩,q⟩
 .obtain⟨its,r',pl,hz⟩:=I.tuple hq;have hlen:=r'.length;exact len_tuple pl (by simp only[Jw] <;> omega) ⟨.int ys.length,H,I.tok _,⟨s.toks+1,by rw[Jw,hlen]⟩,q⟩
def kY:D1 X (.builtin "len") (λxs H Q=>∃z,xs=[.str z]/\z.length<=NZ/\Q (.int z.length) H):=by
 intro pins s σ H xs us Q I r h;obtain⟨z,rfl,hz,q⟩:=h;obtain⟨u,rfl,t,rfl⟩:=P5 r;have hn:=cJ;exact len_str (by omega) ⟨.int z.length,H,I.tok _,⟨_,rfl⟩,q⟩
def kT:D1 X (.type "list") (λxs H Q=>∃p ys,xs=[.ref p]/\(SqL X.K H p ys\/SqT X.K H p ys)/\∀l,H l=none->Q (.ref l) (upd H l (.lst ys))):=by
 intro pins s σ H xs us Q I r h;obtain⟨p,ys,rfl,hq,q⟩:=h;obtain⟨u,rfl,rx⟩:=P5 r;cases rx;have fin:∀(its:List NO),l0 ys its->ys.length<=NZ->∀(h':NY) (c':Nat),(∀b o',s.heap.get? b=some o'->h'.get? b=some o') ->
   h'.get? s.heap.objs.size=some { cls:=.type "list",dict:=none,data:=.seq its.toArray c',slots:=#[] }->EP X pins σ Q (.ref s.heap.objs.size) { s with heap:=h' }:=λits r' hz h' c' kp e =>
  ⟨.ref s.heap.objs.size,_,I.laid (t':=s.toks) kp (Jq _) (show L9 X.prog X.w _ h' _ (.lst ys) from⟨hz,its,c',r',e⟩),rfl,q _ (I.hok.fresh (Jq _))⟩
 rcases hq with hq | hq
 .obtain⟨its,r',pl,hz⟩:=I.list hq;have hlen:=r'.length;obtain⟨o,ho,hc,n,hd⟩:=pl.isList;exact call_list_seq p (.inl rfl) ho hc hd (λh' c' kp e=>fin its r' hz h' c' kp e) (by simp only[Jw] <;> omega)
 .obtain⟨its,r',pl,hz⟩:=I.tuple hq;have hlen:=r'.length;obtain⟨o,ho,hc,n,hd⟩:=pl;exact call_list_seq p (.inr rfl) ho hc hd (λh' c' kp e=>fin its r' hz h' c' kp e) (by simp only[Jw] <;> omega)
def jq:D1 X (.type "tuple") (λxs H Q=>∃p ys,xs=[.ref p]/\((SqL X.K H p ys/\∀l,H l=none->Q (.ref l) (upd H l (.tup ys)))\/(SqT X.K H p ys/\Q (.ref p) H))):=by
 intro pins s σ H xs us Q I r h;obtain⟨p,ys,rfl,h⟩:=h;obtain⟨u,rfl,rx⟩:=P5 r;cases rx;rcases h with ⟨hq,q⟩ | ⟨hq,q⟩
 .obtain⟨its,r',pl,hz⟩:=I.list hq;have hlen:=r'.length;refine call_tuple_list pl.isList (λh' kp=>?_) (by simp only[Jw] <;> omega);have I1:Inv X pins σ H { s with heap:=h' }:=I.kept (t':=s.toks) kp;have I2:Inv X pins σ (upd H h'.objs.size (.tup ys)) { s with heap:=h'.push { cls:=.type "tuple",data:=.seq its.toArray } } :=
   I1.laid (t':=s.toks) (λb o e=>Jn _ e) (Jq _) (show L9 X.prog X.w _ _ _ (.tup ys) from⟨hz,its,r',Mp _ _⟩)
  exact⟨.ref h'.objs.size,_,I2,rfl,q _ (I1.hok.fresh (Jq _))⟩
 .obtain⟨its,r',pl,hz⟩:=I.tuple hq;exact call_tuple_same pl ⟨.ref p,H,I,rfl,q⟩
def tyV (K:Fg)(T:String)(x:V)(H:Hp):Prop:=match x with
 | .str _=>T = "str"
 | .int _=>T = "int"
 | .ref p=>(T = "list" /\ ∃xs,SqL K H p xs)\/(T = "tuple" /\ ∃o,K.lookup p=some o/\o.cls = .type "tuple" /\ o.dict=none) \/
   (T = "dict" /\ ((∃kvs,H p=some (.dK kvs))\/∃kvs,H p=some (.dT kvs)))\/(T = "set" /\ ∃S n,H p=some (.set S n))
 | _=>False
def AH {pins:List (NP×Ob)}{σ:St}{H:Hp}{s:NQ}{T:String}{x:V}{v:NO}(I:Inv X pins σ H s)(r:u6 x v)(ty:tyV X.K T x H) :
  s.TypeIs v T/\∀a,v = .ref a->∃ob,s.heap.get? a=some ob/\ob.dict=none:=by
 cases x with
 | str z =>
  obtain⟨t,rfl⟩:=r;cases(show T = "str" from ty);exact⟨MZ s z t,λ_ e=>nomatch e⟩
 | int i =>
  obtain⟨t,rfl⟩:=r;cases(show T = "int" from ty);exact⟨typeIs_int s i t,λ_ e=>nomatch e⟩
 | ref p =>
  cases r;rcases ty with ⟨rfl,xs,hq⟩ | ⟨rfl,o,hk,hc,hd⟩ | ⟨rfl,hk⟩ | ⟨rfl,S,n,hk⟩
  .obtain⟨its,_,pl,_⟩:=I.list hq;refine⟨pl.isList.typeIs,λa e=>?_⟩;cases e;obtain⟨o,n,e,c,hd,_⟩:=pl;exact⟨o,e,hd⟩
  .refine⟨⟨o,I.kIn p o hk,hc⟩,λa e=>?_⟩;cases e;exact⟨o,I.kIn _ o hk,hd⟩
  .have z:∃o,s.heap.get? p=some o/\o.ExactDict:=by
    rcases hk with ⟨kvs,hk⟩ | ⟨kvs,hk⟩
    .obtain⟨_,_,_,_,o,_,_,e,ex,_⟩:=I.hok p _ hk;exact⟨o,e,ex⟩
    .obtain⟨_,_,_,_,o,_,_,e,ex,_⟩:=I.hok p _ hk;exact⟨o,e,ex⟩
   obtain⟨o,e,ex⟩:=z;refine⟨⟨o,e,ex.1⟩,λa e2=>?_⟩;cases e2;exact⟨o,e,ex.2.1⟩
  .obtain⟨o,_,_,_,e,ex,_⟩:=I.hok p _ hk;refine⟨⟨o,e,ex.1⟩,λa e2=>?_⟩;cases e2;exact⟨o,e,ex.2.1⟩
 | _=>exact False.elim ty
def tBM (K:Fg)(T:String)(r:V->List V->Hp->VK->Prop)(to:TE)(t:TA):TE:=λσ H Q=>to σ H λx H1=>tyV K T x H1/\t σ H1 λxs H2=>r x xs H2 Q
variable {o e:NX}{es:List NX}{to:TE}{t:TA}{name:Str}{apos cpos:Pos}{T id:String}{r:V->List V->Hp->VK->Prop}
def gS (pa:PlainAttrs T)(slot:Slot T name id)(hty:typeOf (.builtin id)=pure (.type "method_descriptor"))(hm:MtR X id r)(ho:PE X o to)(ha:PA X (e::es) t)
  (hbase:Oi o name X.env (eval o X.env)=eval o X.env:=by rfl)
  (hfew:((Od cpos (Oa (e::es) X.env)).all (λx=>!x.1)&&(Os cpos (Ot [] X.env)).all (λx=>x.1.isSome)
   && decide ((e::es).length+([]:List Oe).length+(if ([]:List Oe).isEmpty then 0 else 1)<30))=true:=by rfl)
  (hline:(apos.endLine == cpos.line)=true:=by rfl) (hs:Oa (e::es) X.env=(false,eval e X.env)::Oa es X.env:=by rfl) (hplain:(Od cpos (Oa es X.env)).any (·.1)=false:=by rfl) :
  PE X (.Call (.Attribute o name apos) (e::es) [] cpos) (tBM X.K T r to t):=by
 intro pins s σ H Q I h;refine wpAny_Call_method_late hbase hfew hline rfl (thn (ho pins s σ H _ I h) λv s1 ⟨x,H1,I1,r1,ty,q1⟩=>?_);obtain⟨h1,h2⟩:=AH I1 r1 ty;refine⟨T,id,pa,slot,hty,h1,h2,?_⟩;have hA:=ha cpos pins s1 σ H1 _ I1 q1;rw[hs]at hA ⊢;refine Calls.callWith_builtin (by show(false||(Od cpos (Oa es X.env)).any (·.1))=false;rw[hplain] <;> rfl) (Calls.evalArgs_plain ?_);exact thn hA λus s2 ⟨vs,H2,I2,r2,q2⟩=>hm pins s2 σ H2 x vs v us Q I2 r1 r2 q2
end
end
section
def MtM (X:Cx)(id:String)(r:V->List V->Hp->VK->Prop):Prop :=
 ∀(pins:List (NP×Ob)) (s:NQ) (σ:St) (H:Hp) (x:V) (xs:List V) (v:NO) (us:List NO) (Q:VK),Inv X pins σ H s->u6 x v->l0 xs us->r x xs H Q ->
  Of (model X.prog X.w) X.A (call (.builtin id) (v::us)) (EP X pins σ Q) X.xe s
theorem l0.one:∀{x:V} {us:List NO},l0 [x] us->∃u,us=[u]/\u6 x u
 | _,_,.cons r .nil=>⟨_,rfl,r⟩
def l0.reverse {xs:List V}{us:List NO}(h:l0 xs us):l0 xs.reverse us.reverse:=by
 induction h with
 | nil=>exact .nil
 | cons r t ih=>rw[MJ,MJ];exact l0.append ih (.cons r .nil)
theorem l0.rep {xs:List V}{us:List NO}(h:l0 xs us):∀k:Nat,l0 (List.replicate k xs).flatten (List.replicate k us).flatten
 | 0=>.nil
 | k+1=>by
  rw[Kd,Kd,Le,Le];exact l0.append h (l0.rep h k)
def fy (its:List NO):∀(k:Nat) (acc:List NO),
  List.foldl (λx1 x2=>x1++x2) acc.toArray (List.replicate k its.toArray)=(acc++(List.replicate k its).flatten).toArray
 | 0,acc=>by simp
 | k+1,acc=>by
  have e:acc.toArray++its.toArray=(acc++its).toArray:=by simp
  have e2:(acc++its)++(List.replicate k its).flatten=acc++(List.replicate (k+1) its).flatten:=by
   rw[Kd,Le,MK]
  rw[<-e2,<-fy its k (acc++its),<-e,Kd,List.foldl_cons]
section
variable {X:Cx}{pins:List (NP×Ob)}{σ:St}{H:Hp}{s:NQ}{l b:NP}{xs ys zs:List V}
def Inv.lset {its its':List NO}{n:Nat}{f:Array NO->Array NO}{t':Nat}(I:Inv X pins σ H s)(hH:H l=some (.lst xs))
  (e:s.heap.get? l=some { cls:=.type "list",data:=.seq its.toArray n }) (hf:f its.toArray=its'.toArray) (hv:l0 ys its') (hz:ys.length<=NZ) :
  Inv X pins σ (upd H l (.lst ys)) { s with heap:=s.heap.update l (Ob.mapSeq f),toks:=t' }:=by
 have q:=PySem.IsL.update e f;rw[hf]at q;refine I.write (x:=l) (e:=l) (by rw[hH];exact trivial) (.inl rfl) (λb' u hb hu=>(NY.get?_update_other s.heap (Ob.mapSeq f) (JV hb)).trans hu) ⟨_,q⟩ ?_;exact⟨hz,its',_,hv,q⟩
def Inv.lnew {its:List NO}{t':Nat}(I:Inv X pins σ H s)(hv:l0 ys its)(hz:ys.length<=NZ) :
  Inv X pins σ (upd H s.heap.objs.size (.lst ys)) { s with heap:=s.heap.push { cls:=.type "list",data:=.seq its.toArray },toks:=t' } :=
 I.laid (λ_ _ q=>Jn _ q) (Jq _) ⟨hz,its,0,hv,JK _ rfl⟩
def Inv.fresh (I:Inv X pins σ H s):H s.heap.objs.size=none:=I.hok.fresh (Jq _)
def Inv.lstM (I:Inv X pins σ H s)(hH:H l=some (.lst xs)):xs.length<=NZ/\∃(its:List NO) (n:Nat),l0 xs its/\xs.length=its.length/\s.heap.get? l=some { cls:=.type "list",data:=.seq its.toArray n }:=by
 obtain⟨z,its,n,r,e⟩:=I.hok l _ hH;exact⟨z,its,n,r,r.length,e⟩
def nc {n:Nat}(h:n<=NZ):Builtin.List.listTooLong n=false:=by
 unfold Builtin.List.listTooLong;exact JY (by omega)
end
section
variable {X:Cx}
def R7:V->List V->Hp->VK->Prop:=λx vs H Q=>∃l xs y,x = .ref l/\vs=[y]/\H l=some (.lst xs)/\xs.length<NZ/\Q .non (upd H l (.lst (xs++[y])))
def L7:MtM X "list.append" R7:=by
 intro pins s σ H x vs v us Q I rx rv h;obtain⟨l,xs,y,rfl,rfl,hH,hz,q⟩:=h;cases rx;obtain⟨u,rfl,ru⟩:=rv.one;obtain⟨z,its,n,r,hl,e⟩:=I.lstM hH;refine Me F.slot_list_append ⟨_,e,rfl⟩ F.entry_list_append (F.args_list_append_2 _ _) (PySem.list_append l its.toArray n u (by rw[Jw];omega)) ⟨e,?_⟩;refine⟨.non,_,I.lset (its':=its++[u]) hH e (by simp) (r.append (.cons ru .nil)) ?_,rfl,q⟩;rw[JX,List.length_singleton];omega
def DS:R2:=λx y H Q=>∃l b xs zs,x = .ref l/\y = .ref b/\H l=some (.lst xs)/\H b=some (.lst zs)/\xs.length+zs.length<=NZ/\∀p,H p=none->Q (.ref p) (upd H p (.lst (xs++zs)))
def vY:OpR X (binaryOp .Add) DS:=by
 intro pins s σ H x y v u Q I rx ry h;obtain⟨l,b,xs,zs,rfl,rfl,hH,hB,hz,q⟩:=h;cases rx;cases ry;obtain⟨z,its,n,r,hl,e⟩:=I.lstM hH;obtain⟨z2,its2,n2,r2,hl2,e2⟩:=I.lstM hB;refine PySem.P.add_list e e2 ?_ (by rw[Jw,Jw];omega);have ea:its.toArray++its2.toArray=(its++its2).toArray:=by simp
 rw[ea];exact⟨.ref _,_,I.lnew (t':=s.toks) (r.append r2) (by rw[JX];omega),rfl,q _ I.fresh⟩
def EN:R2:=λx y H Q=>∃l k xs,x = .ref l/\y = .int k/\H l=some (.lst xs) /\ -(2 ^ 63)<=k/\k<2 ^ 63/\xs.length*k.toNat<=NZ /\
 ∀p,H p=none->Q (.ref p) (upd H p (.lst (List.replicate k.toNat xs).flatten))
def lz {α:Type}(xs:List α)(k:Nat):(List.replicate k xs).flatten.length=k*xs.length:=by
 induction k with
 | zero=>simp
 | succ k ih=>rw[Kd,Le,JX,ih,Nat.succ_mul,Nat.add_comm]
def AV:OpR X (binaryOp .Mult) EN:=by
 intro pins s σ H x y v u Q I rx ry h;obtain⟨l,k,xs,rfl,rfl,hH,h1,h2,hz,q⟩:=h;cases rx;obtain⟨t,rfl⟩:=ry;obtain⟨z,its,n,r,hl,e⟩:=I.lstM hH;have hlen:its.toArray.size*k.toNat<=NZ:=by rw[Jw,<-hl];exact hz
 have hcap:¬its.toArray.size*k.toNat > (2 ^ 63-1) / 8:=by
  have:(NZ:Nat)<=(2 ^ 63-1) / 8:=by decide
  omega
 have hfit:¬(!Builtin.List.listFitsIndex k)=true:=by
  rw[fitsIndex_both h1 h2];exact JI
 have hlong:¬Builtin.List.listTooLong (its.toArray.size*k.toNat)=true:=by
  rw[nc hlen];exact JI
 have hnew:List.foldl (λx1 x2=>x1++x2) #[] (List.replicate (if its.toArray.isEmpty=true then 0 else k.toNat) its.toArray)=(List.replicate k.toNat its).flatten.toArray:=by
  have f0:∀m:Nat,List.foldl (λx1 x2=>x1++x2) #[] (List.replicate m its.toArray)=(List.replicate m its).flatten.toArray:=λm=>by
   have:=fy its m [];rw[Ku]at this;exact this
  rw[f0];cases its with
  | nil=>simp
  | cons a r'=>rw[Jo (by simp)]
 refine wpAny_binaryOp_repeat_ref (T:="list") (U:="int") (by decide) ⟨_,e,rfl⟩ (λs'=>typeIs_int s' k t) noFill_list_mul F.fills_int_mul Na repeat_list F.slot_int_index.lookup
  (Me Na (typeIs_int s k t) F.entry_int_rmul (F.args_int_rmul_2 _ _) (int___rmul___int_list k t l its.toArray n)
   ⟨e,rfl,⟨_,e,rfl⟩,Me F.slot_list_mul ⟨_,e,rfl⟩ F.entry_list_mul (F.args_list_mul_2 _ _) (AutoListH.list___mul___list_int_3 l its.toArray n k t hfit hcap hlong) ⟨e,?_⟩⟩)
 rw[hnew];exact⟨.ref _,_,I.lnew (t':=s.toks) (r.rep k.toNat) (by rw[lz,Nat.mul_comm];exact hz),rfl,q _ I.fresh⟩
end
section
variable {prog:NR}{w:NS}{A:NT}{E:NO->NQ->Prop}{s:NQ}
end
section
variable {X:Cx}
end
end
section
section
variable {κ:Type}[DecidableEq κ]
def bQ (kvs:List (κ×V))(k:κ):Option V:=(kvs.find? λkv=>decide (kv.1=k)).map (·.2)
def O1 (kvs:List (κ×V))(k:κ)(v:V):List (κ×V) :=
 if (kvs.any λkv=>decide (kv.1=k))=true then kvs.map (λkv=>if kv.1=k then(kv.1,v) else kv) else kvs++[(k,v)]
def V1 {p:κ×V}{r:List (κ×V)}{k:κ}(e:p.1=k):bQ (p::r) k=some p.2:=by simp[bQ,LR,e]
def B8 {p:κ×V}{r:List (κ×V)}{k:κ}(e:¬p.1=k):bQ (p::r) k=bQ r k:=by simp[bQ,LR,e]
theorem aG (k:κ):∀kvs:List (κ×V),(kvs.any λkv=>decide (kv.1=k))=(bQ kvs k).isSome
 | []=>rfl
 | p::r=>by
  rw[Nv];by_cases e:p.1=k
  .simp only[V1 e,Kn e,Bool.true_or,Mt]
  .rw[B8 e,JY e,Bool.false_or];exact aG k r
def aO (kvs:List (κ×V))(k:κ)(v:V):(O1 kvs k v).length<=kvs.length+1:=by
 unfold O1;split
 .rw[Jf];omega
 .rw[JX,JB,KE];omega
def dW {kvs:List (κ×V)}{k:κ}(v:V)(h:bQ kvs k=none):O1 kvs k v=kvs++[(k,v)]:=by
 unfold O1;rw[aG,h];exact Jo (by decide)
def jm.isSome_eq {o:Option V}{u:Option NO}(r:jm o u):o.isSome=u.isSome:=by
 cases o with
 | none=>cases u with
  | none=>rfl
  | some _=>exact(show False from r).elim
 | some _=>cases u with
  | none=>exact(show False from r).elim
  | some _=>rfl
def KV.val {kvs:List (κ×V)}{vs:List (κ×NO)}(r:KV kvs vs)(k:κ):jm (bQ kvs k) (valueAt vs k):=by
 unfold KV at r;induction r with
 | nil=>exact True.intro
 | @cons p q ps qs h t ih =>
  obtain⟨h1,h2⟩:=h;by_cases e:p.1=k
  .have e':q.1=k:=h1.symm.trans e;have b:valueAt (q::qs) k=some q.2:=by simp[valueAt,LR,e']
   rw[V1 e,b];exact h2
  .have e':¬q.1=k:=λz=>e (h1.trans z)
   have b:valueAt (q::qs) k=valueAt qs k:=by simp[valueAt,LR,e']
   rw[B8 e,b];exact ih
def KV.any {kvs:List (κ×V)}{vs:List (κ×NO)}(r:KV kvs vs)(k:κ):(kvs.any λkv=>decide (kv.1=k))=vs.any λkv=>decide (kv.1=k):=by
 unfold KV at r;induction r with
 | nil=>rfl
 | cons h t ih=>rw[Nv,Nv,ih,h.1]
def KV.repl {kvs:List (κ×V)}{vs:List (κ×NO)}(r:KV kvs vs)(k:κ){y:V}{u:NO}(ry:u6 y u) :
  KV (kvs.map λkv=>if kv.1=k then(kv.1,y) else kv) (vs.map λkv=>if kv.1=k then(kv.1,u) else kv):=by
 unfold KV at r ⊢;induction r with
 | nil=>exact .nil
 | @cons p q ps qs h t ih =>
  rw[Jy,Jy];refine .cons ?_ ih;obtain⟨h1,h2⟩:=h;by_cases e:p.1=k
  .rw[Jk e,Jk (h1.symm.trans e)];exact⟨h1,ry⟩
  .rw[Jo e,Jo (λz=>e (h1.trans z))];exact⟨h1,h2⟩
def KV.put {kvs:List (κ×V)}{vs:List (κ×NO)}(r:KV kvs vs)(k:κ){y:V}{u:NO}(ry:u6 y u):KV (O1 kvs k y) (stored vs k u):=by
 unfold O1 stored;rw[r.any k];by_cases e:(vs.any λkv=>decide (kv.1=k))=true
 .rw[Jk e,Jk e];exact r.repl k ry
 .rw[Jo e,Jo e];exact Paired.snoc r ⟨rfl,ry⟩
def KV.length {kvs:List (κ×V)}{vs:List (κ×NO)}(r:KV kvs vs):kvs.length=vs.length:=Nt r
end
def rY {P:NR}{w:NS}{k:Key}{u:NO}(r:u6 (kV k) u):(D6 P w).is k u=true:=by
 cases k with
 | inl i=>obtain⟨t,e⟩:=(show ∃t,u=NO.int i t from r);subst e;exact mz P w i t
 | inr x=>obtain⟨t,e⟩:=(show ∃t,u=NO.str x t from r);subst e;exact mZ P w x t
theorem jG {P:NR}{w:NS}:∀{ks:List Key} {us:List NO},l0 (ks.map kV) us->ItemsAre (D6 P w) ks us
 | [],_,r=>by rw[Kl]at r;cases r;exact .nil
 | k::ks,_,r=>by
  rw[Jy]at r;cases r with
  | cons h t=>exact .cons (rY h) (jG t)
abbrev KT (H:Hp):List (List Key×V)->List (List Key×NP×NO)->Prop:=Paired λp q=>p.1=q.1/\H q.2.1=some (.tup (p.1.map kV))/\u6 p.2 q.2.2
def KT.val {H:Hp}{kvs:List (List Key×V)}{xs:List (List Key×NP×NO)}(r:KT H kvs xs)(k:List Key):jm (bQ kvs k) ((atKey xs k).map (·.2)):=by
 induction r with
 | nil=>exact True.intro
 | @cons p q ps qs h t ih =>
  obtain⟨h1,_,h2⟩:=h;by_cases e:p.1=k
  .have e':q.1=k:=h1.symm.trans e;have b:atKey (q::qs) k=some q.2:=by simp[atKey,LR,e']
   rw[V1 e,b];exact h2
  .have e':¬q.1=k:=λz=>e (h1.trans z)
   have b:atKey (q::qs) k=atKey qs k:=by simp[atKey,LR,e']
   rw[B8 e,b];exact ih
def KT.repl {H:Hp}{kvs:List (List Key×V)}{xs:List (List Key×NP×NO)}(r:KT H kvs xs)(k:List Key){y:V}{u:NO}(ry:u6 y u) :
  KT H (kvs.map λkv=>if kv.1=k then(kv.1,y) else kv) (xs.map (putAt k u)):=by
 induction r with
 | nil=>exact .nil
 | @cons p q ps qs h t ih =>
  rw[Jy,Jy];refine .cons ?_ ih;obtain⟨h1,h2,h3⟩:=h;unfold putAt;by_cases e:p.1=k
  .rw[Jk e,Jk (h1.symm.trans e)];exact⟨h1,h2,ry⟩
  .rw[Jo e,Jo (λz=>e (h1.trans z))];exact⟨h1,h2,h3⟩
def KT.put {H:Hp}{kvs:List (List Key×V)}{xs:List (List Key×NP×NO)}(r:KT H kvs xs)(k:List Key){b:NP}{y:V}{u:NO}(hb:H b=some (.tup (k.map kV)))(ry:u6 y u) :
  KT H (O1 kvs k y) (storedH xs k b u):=by
 have e:(kvs.any λkv=>decide (kv.1=k))=(atKey xs k).isSome:=by
  rw[aG,(r.val k).isSome_eq,Option.isSome_map]
 unfold O1 storedH;rw[e];by_cases q:(atKey xs k).isSome=true
 .rw[Jk q,Jk q];exact r.repl k ry
 .rw[Jo q,Jo q];exact Paired.snoc r ⟨rfl,hb,ry⟩
def KT.keeps {H H':Hp}{kvs:List (List Key×V)}{xs:List (List Key×NP×NO)}(r:KT H kvs xs)(ht:∀b ys,H b=some (.tup ys)->H' b=some (.tup ys)):KT H' kvs xs :=
 Paired.mapP r λ_ _ z=>⟨z.1,ht _ _ z.2.1,z.2.2⟩
section
variable {P:NR}{w:NS}{H:Hp}{h:NY}{a:NP}
def zO {u:HO}(ok:HOk P w H h)(e:Rd H a u):L9 P w H h a u:=e.ok ok
def vU {kvs:List (Key×V)}(ok:HOk P w H h)(e:Rd H a (.dK kvs)):kvs.length<=NZ/\(a == sysModules)=false/\∃vs,KV kvs vs/\h.DictOf (D6 P w) a vs :=
 show L9 P w H h a (.dK kvs) from zO ok e
def zL {kvs:List (Key×V)}(ok:HOk P w H h)(e:H a=some (.dK kvs)):kvs.length<=NZ/\(a == sysModules)=false/\∃vs,KV kvs vs/\h.DictOf (D6 P w) a vs:=vU ok (.inl e)
def oR {ks:List Key}(ok:HOk P w H h)(e:H a=some (.tup (ks.map kV))):(tupleKind (D6 P w)).is h ks a:=by
 obtain⟨_,its,r,o,h1,h2,n,h3⟩:=(show L9 P w H h a (.tup (ks.map kV)) from ok a _ e);exact⟨o,its.toArray,n,h1,h2,h3,by simpa using jG r⟩
def uL {kvs:List (List Key×V)}(ok:HOk P w H h)(e:Rd H a (.dT kvs)):kvs.length<=NZ/\(a == sysModules)=false /\
  ∃xs,KT H kvs xs/\h.DictOfH (tupleKind (D6 P w)) a xs:=by
 obtain⟨z,y,xs,r,o,es,ep,h1,h2,h3,h4,h5⟩:=(show L9 P w H h a (.dT kvs) from zO ok e);refine⟨z,y,xs,r,o,es,ep,h1,h2,h3,h4,λx hx=>?_,h5⟩;have all:∀{l:List (List Key×V)} {m:List (List Key×NP×NO)},KT H l m->∀x∈m,(tupleKind (D6 P w)).is h x.1 x.2.1:=by
  intro l m q;induction q with
  | nil=>intro x hx;exact nomatch hx
  | @cons p q ps qs hq t ih =>
   intro x hx;rcases Jl.1 hx with e | hx
   .subst e;exact oR ok (by rw[<-hq.1];exact hq.2.1)
   .exact ih x hx
 exact all r x hx
def DW {kvs:List (List Key×V)}(ok:HOk P w H h)(e:H a=some (.dT kvs)):kvs.length<=NZ/\(a == sysModules)=false /\
  ∃xs,KT H kvs xs/\h.DictOfH (tupleKind (D6 P w)) a xs:=uL ok (.inl e)
end
def fc (H:Hp)(a:NP)(y:V)(r:Option V):Prop :=
 (∃kvs k,Rd H a (.dK kvs)/\y=kV k/\r=bQ kvs k)\/∃kvs k b,Rd H a (.dT kvs)/\y = .ref b/\H b=some (.tup (k.map kV))/\r=bQ kvs k
def oe (H:Hp)(a:NP)(y v:V)(H':Hp):Prop :=
 (∃kvs k,H a=some (.dK kvs)/\y=kV k/\kvs.length<NZ/\H'=upd H a (.dK (O1 kvs k v))) \/
 ∃kvs k b,H a=some (.dT kvs)/\y = .ref b/\H b=some (.tup (k.map kV))/\kvs.length<NZ/\H'=upd H a (.dT (O1 kvs k v))
def fc.k {H:Hp}{a:NP}{kvs:List (Key×V)}{k:Key}(e:H a=some (.dK kvs)):fc H a (kV k) (bQ kvs k):=.inl ⟨kvs,k,.inl e,rfl,rfl⟩
def oe.k {H:Hp}{a:NP}{kvs:List (Key×V)}{k:Key}{v:V}(e:H a=some (.dK kvs))(hl:kvs.length<NZ):oe H a (kV k) v (upd H a (.dK (O1 kvs k v))):=.inl ⟨kvs,k,e,rfl,hl,rfl⟩
section
variable {X:Cx}{pins:List (NP×Ob)}{σ:St}{H:Hp}{s:NQ}{a:NP}{y v:V}{u r:NO}{o:Option V}{A:NT}{E:NO->NQ->Prop}
def Inv.big (I:Inv X pins σ H s):sysModules<s.heap.objs.size:=by
 have h:Og<s.heap.objs.size:=(I.mod.glob.keeps I.bk).lt;exact Nat.lt_trans (by decide) h
def sM {Q:NO->NQ->Prop}(hu:A.units+1<On)(I:Inv X pins σ H s)(g:fc H a y (some v))(ry:u6 y u)(h:∀w' s',Inv X pins σ H s'->u6 v w'->Q w' s') :
  Of (model X.prog X.w) A (getItem (.ref a) u) Q E s:=by
 rcases g with ⟨kvs,k,e,ey,l⟩ | ⟨kvs,k,b,e,ey,eb,l⟩
 .subst ey;obtain⟨z,hd,vs,rel,dd⟩:=vU I.hok e;obtain⟨w',hw,rw'⟩:=jm.some_of (v:=v) (o:=valueAt vs k) (by rw[l];exact rel.val k);exact wpAny_getItem_of (rY ry) dd.mapOf hw (h w' _ (I.tok _) rw')
 .subst ey;cases(show u=NO.ref b from ry);obtain⟨z,hd,xs,rel,dd⟩:=uL I.hok e;obtain⟨w',hw,rw'⟩:=jm.some_of (v:=v) (o:=(atKey xs k).map (·.2)) (by rw[l];exact rel.val k);obtain⟨p,hp,hp2⟩:=JJ.1 hw;refine wpAny_getItem_heap (tupleKind_room_in1 hu) (oR I.hok eb) dd hp ?_;rw[hp2];exact h w' _ (I.tok _) rw'
def kq {h':NY}{t':Nat}{ob:HO}(I:Inv X pins σ H s)(mu:Mut (H a))(hs:NY.SameBut a s.heap h')(he:∃q,h'.get? a=some q)(new:L9 X.prog X.w (upd H a ob) h' a ob) :
  Inv X pins σ (upd H a ob) { s with heap:=h',toks:=t' } :=
 I.write (x:=a) (e:=a) mu (.inl rfl) (λb q hb z=>(hs.2 b hb).trans z) he new
def wz {P:NR}{w:NS}{H':Hp}{h':NY}{kvs:List (Key×V)}{vs:List (Key×NO)}(z:kvs.length<=NZ)(hd:(a == sysModules)=false)(rel:KV kvs vs)(dd:h'.DictOf (D6 P w) a vs) :
  L9 P w H' h' a (.dK kvs):=⟨z,hd,vs,rel,dd⟩
def um {H':Hp}{Q:Unit->NQ->Prop}(hu:A.units+1<On)(I:Inv X pins σ H s)(g:oe H a y v H')(ry:u6 y u)(rv:u6 v r)(h:∀s',Inv X pins σ H' s'->Q () s') :
  Of (model X.prog X.w) A (setItem (.ref a) u r) Q E s:=by
 rcases g with ⟨kvs,k,e,ey,l,eH⟩ | ⟨kvs,k,b,e,ey,eb,l,eH⟩
 .subst ey eH;obtain⟨z,hd,vs,rel,dd⟩:=zL I.hok e;have hz:vs.length<=NZ:=by rw[<-rel.length];exact z
  have hl:(O1 kvs k v).length<=NZ:=by have:=aO kvs k v;omega
  refine wpAny_setItem_pairs (hsz:=hz) (rY ry) dd λh' dd' hs=>h _ ?_
  have he:∃q,h'.get? a=some q:=let ⟨q,_,_,hq,_⟩:=dd';⟨q,hq⟩;exact kq I (by rw[e];exact True.intro) hs he (wz hl hd (rel.put k rv) dd')
 .subst ey eH;cases(show u=NO.ref b from ry);obtain⟨z,hd,xs,rel,dd⟩:=DW I.hok e;have hz:xs.length<=NZ:=by rw[<-Nt rel];exact z
  have hl:(O1 kvs k v).length<=NZ:=by have:=aO kvs k v;omega
  refine wpAny_setItem_heap (hsz:=hz) (tupleKind_room_in1 hu) (oR I.hok eb) dd λh' dd' hs=>h _ ?_
  obtain⟨q,es,ep,hq,h2,h3,h4,_,h5⟩:=dd';refine kq I (by rw[e];exact True.intro) hs ⟨q,hq⟩ ⟨hl,hd,_,(rel.put k eb rv).keeps λc ys ec=>?_,q,es,ep,hq,h2,h3,h4,h5⟩;rw[a8 (Dv ec e (λz=>nomatch z))];exact ec
end
section
variable {X:Cx}{pins:List (NP×Ob)}{σ:St}{H:Hp}{s:NQ}{a:NP}{kvs:List (Key×V)}{k:Key}{u:NO}{A:NT}{E:NO->NQ->Prop}
end
def Df (i:NX):Prop:=∀ov iv,subscripted i false ov iv=operate [ov,iv] (getItem ov iv)
def xX {prog:NR}{w:NS}{A:NT}{E:NO->NQ->Prop}{s:NQ}{env:Oc}{value slice:NX}{pos:Pos}{T id:String}{Q:NO->NQ->Prop}
  (hl:typeLookup (.type T) "__getitem__" = pure (some (.builtin id))) (hs:Df slice)
  (h:Of (model prog w) A (eval value env) (λo s₁=>Of (model prog w) A (eval slice env) (λi s₂=>s₂.TypeIs o T/\Of (model prog w) A (getItem o i) Q E s₂) E s₁) E s) :
  Of (model prog w) A (eval (.Subscript value slice pos) env) Q E s:=by
 refine Subscript_ (KM h (λo s₁ h₁=>KM h₁ (λi s₂ h₂=>?_) λ_ _ x=>x) λ_ _ x=>x);obtain⟨hT,h₂⟩:=h₂;unfold subscriptTail;refine Jg ?_;rw[getitemInPython_of_ne hT.not_modules];refine Jg (wpAny_specialOf hT hl ?_);have fin:Of (model prog w) A (subscripted slice false o i) (λr s₃=>Of (model prog w) A (letTemporaryGo value o r >>= λ_=>pure r) Q E s₃) E s₂:=by
  rw[hs o i];exact wpAny_operating (KM h₂ (λr s₃ h₃=>Jg (wpAny_letTemporaryGo (Jx h₃))) λ_ _ x=>x)
 first
  | exact Jx (Jg fin)
  | exact Jg (Jx (Jg fin))
  | exact Jg fin
def nr {X:Cx}{pins:List (NP×Ob)}{σ:St}{H:Hp}{s:NQ}{a:NP}{y:V}{o:Option V}(I:Inv X pins σ H s)(g:fc H a y o):s.TypeIs (.ref a) "dict":=by
 rcases g with ⟨kvs,k,e,_,_⟩ | ⟨kvs,k,b,e,_,_,_⟩
 .obtain⟨_,_,vs,_,dd⟩:=vU I.hok e;exact dd.typeIs
 .obtain⟨_,_,xs,_,dd⟩:=uL I.hok e;exact dd.typeIs
def M0 (td ty:TE):TE:=λσ H Q=>td σ H λx H1=>ty σ H1 λy H2=>∃a v,x = .ref a/\fc H2 a y (some v)/\Q v H2
def uO (td ty tv:TE):TS:=λD σ H=>tv σ H λv H1=>td σ H1 λx H2=>ty σ H2 λy H3=>∃a H4,x = .ref a/\oe H3 a y v H4/\D.nx σ H4
section
variable {X:Cx}{o i e value:NX}{pos pos' tpos:Pos}{td ty tv:TE}
def D5 (hu:X.A.units+1<On)(ho:PE X o td)(hi:PE X i ty)(hs:Df i):PE X (.Subscript o i pos) (M0 td ty):=by
 intro pins s σ H Q I h;refine xX PySem.F.slot_dict_getitem.lookup hs (thn (ho pins s σ H _ I h) λu s1 ⟨x,H1,I1,rx,q1⟩=>thn (hi pins s1 σ H1 _ I1 q1) λiv s2 ⟨y,H2,I2,ry,a,v,ex,g,q2⟩=>?_);subst ex;obtain rfl:u=NO.ref a:=rx;exact⟨nr I2 g,sM hu I2 g ry λw' s3 I3 rw'=>⟨v,H2,I3,rw',q2⟩⟩
def rE (hu:X.A.units+1<On)(ho:PE X o td)(hi:PE X i ty)(hv:PE X value tv)(hs:Oh value (some (.Subscript o i pos')) pos.line X.env=pure false) :
  PS X (.Assign [.Subscript o i pos'] value pos) (uO td ty tv):=by
 intro pins s σ H D I h;refine wpAny_Assign_Subscript (thn (hv pins s σ H _ I h) λr s1 ⟨v,H1,I1,rv,q1⟩=>thn (ho pins s1 σ H1 _ I1 q1) λu s2 ⟨x,H2,I2,rx,q2⟩=>thn (hi pins s2 σ H2 _ I2 q2) λiv s3 ⟨y,H3,I3,ry,a,H4,ex,g,q3⟩=>?_) hs;subst ex;obtain rfl:u=NO.ref a:=rx;exact um hu I3 g ry rv λs4 I4=>⟨σ,H4,I4,q3⟩
end
def wR {P:NR}{w:NS}{H:Hp}(h:NY)(hb:sysModules<h.objs.size):L9 P w H (h.push { cls:=.type "dict",data:=.dict #[] }) h.objs.size (.dK []) :=
 ⟨Ka _,Mj.2 (JV (JG hb)),[],.nil,NY.DictOf.new h⟩
section
variable {X:Cx}{pos:Pos}
end
def qh:List (TE×TE)->St->Hp->(List (V×V)->Hp->Prop)->Prop
 | [],_,H,Q=>Q [] H
 | (tk,tv)::r,σ,H,Q=>tk σ H λx H1=>tv σ H1 λy H2=>qh r σ H2 λps H3=>Q ((x,y)::ps) H3
abbrev VV:List (V×V)->List (NO×NO)->Prop:=Paired λp q=>u6 p.1 q.1/\u6 p.2 q.2
def PPs (X:Cx)(pos:Pos)(keys:List (Option NX))(values:List NX)(trs:List (TE×TE)):Prop :=
 ∀(pins:List (NP×Ob)) (s:NQ) (σ:St) (H:Hp) (Q:List (V×V)->Hp->Prop),Inv X pins σ H s->qh trs σ H Q ->
  Of (model X.prog X.w) X.A (evalPairs (pairTrees keys values X.env pos)) (λvs s'=>∃ps H',Inv X pins σ H' s'/\VV ps vs/\Q ps H') X.xe s
def zH {X:Cx}{pos:Pos}:PPs X pos [] [] []:=λpins s σ H Q I h=>pairTrees_nil_walk ⟨[],H,I,.nil,h⟩
def dh {X:Cx}{pos:Pos}{k v:NX}{ks:List (Option NX)}{vs:List NX}{tk tv:TE}{trs:List (TE×TE)}(hk:PE X k tk)(hv:PE X v tv)(hr:PPs X pos ks vs trs) :
  PPs X pos (some k::ks) (v::vs) ((tk,tv)::trs):=λpins s σ H Q I h =>
 pairTrees_cons_walk (thn (hk pins s σ H _ I h) λu s1 ⟨x,H1,I1,rx,q1⟩=>thn (hv pins s1 σ H1 _ I1 q1) λw2 s2 ⟨y,H2,I2,ry,q2⟩ =>
  thn (hr pins s2 σ H2 _ I2 q2) λws s3 ⟨ps,H3,I3,rel,q3⟩=>⟨(x,y)::ps,H3,I3,.cons ⟨rx,ry⟩ rel,q3⟩)
def fx (kvs more:List (Key×V)):List (Key×V):=more.foldl (λacc kv=>O1 acc kv.1 kv.2) kvs
def KV.merge:∀{more:List (Key×V)} {rs:List (Key×NO)} {kvs:List (Key×V)} {vs:List (Key×NO)},KV more rs->KV kvs vs->KV (fx kvs more) (merged vs rs):=by
 intro more rs kvs vs r;unfold KV at r;induction r generalizing kvs vs with
 | nil=>intro q;exact q
 | @cons p q ps qs h t ih =>
  intro r0;have e:KV (O1 kvs p.1 p.2) (stored vs q.1 q.2):=by
   have:=r0.put p.1 h.2;rw[<-h.1];exact this
  exact ih e
theorem bY:∀(more kvs:List (Key×V)),(fx kvs more).length<=kvs.length+more.length
 | [],kvs=>by show kvs.length<=kvs.length+0;omega
 | p::r,kvs=>by
  have h1:=bY r (O1 kvs p.1 p.2);have h2:=aO kvs p.1 p.2;show(fx (O1 kvs p.1 p.2) r).length<=_;rw[JB];omega
theorem ja {P:NR}{w:NS}:∀{kvs:List (Key×V)} {ws:List (NO×NO)},VV (kvs.map λkv=>(kV kv.1,kv.2)) ws->∃rs,Carries (D6 P w) ws rs/\KV kvs rs
 | [],_,r=>by rw[Kl]at r;cases r;exact⟨[],True.intro,.nil⟩
 | p::kvs,_,r=>by
  rw[Jy]at r;cases r with
  | @cons a b as bs h t =>
   obtain⟨rs,c,q⟩:=ja (P:=P) (w:=w) t;obtain⟨b1,b2⟩:=b;exact⟨(p.1,b2)::rs,⟨rY h.1,rfl,c⟩,.cons ⟨rfl,h.2⟩ q⟩
def Az (trs:List (TE×TE)):TE:=λσ H Q=>∀p,H p=none->qh trs σ (upd H p (.dK [])) λps H2=>H2 p=some (.dK [])/\∃kvs:List (Key×V),ps=kvs.map (λkv=>(kV kv.1,kv.2))/\kvs.length<=15/\Q (.ref p) (upd H2 p (.dK (fx [] kvs)))
def yh {X:Cx}{pos:Pos}{keys:List (Option NX)}{values:List NX}{trs:List (TE×TE)}(h:PPs X pos keys values trs)(hall:keys.all (·.isSome)=true)(hl:keys.length=values.length)(h0:keys≠[])
  (h15:keys.length<=15):PE X (.Dict keys values pos) (Az trs):=by
 intro pins s σ H Q I q;have hn:=I.hok.fresh (Jq s.heap.objs.size);have I1:=I.laid (a:=s.heap.objs.size) (o:=.dK []) (h':=s.heap.push { cls:=.type "dict",data:=.dict #[] }) (t':=s.toks) (λ_ _ q=>Jn _ q) (Jq _) (wR s.heap I.big);refine wpAny_Dict_walk (knd:=D6 X.prog X.w) hall hl h0 h15 (thn (h pins _ σ _ _ I1 (q _ hn)) λws s2 ⟨ps,H2,I2,rel,e,kvs,ep,lk,q2⟩=>?_);subst ep;obtain⟨rs,c,rk⟩:=ja (P:=X.prog) (w:=X.w) rel;obtain⟨z,hd,vs0,r0,dd⟩:=zL I2.hok e;cases r0;refine⟨rs,c,dd,λh' dd' hs=>⟨.ref s.heap.objs.size,_,?_,rfl,q2⟩⟩;have hz:(fx [] kvs).length<=NZ:=by
  have h1:=bY kvs [];rw[KE]at h1;rw[JQ];omega
 have he:∃q,h'.get? s.heap.objs.size=some q:=let ⟨q,_,_,hq,_⟩:=dd';⟨q,hq⟩;exact kq I2 (by rw[e];exact True.intro) hs he (wz hz hd (rk.merge .nil) dd')
section
variable {X:Cx}{pins:List (NP×Ob)}{σ:St}{H:Hp}{s:NQ}{a:NP}{y d:V}{u r:NO}{o:Option V}{A:NT}{E:NO->NQ->Prop}
end
section
variable {X:Cx}{o e f:NX}{apos cpos:Pos}{td ty tx:TE}
end
section
variable {X:Cx}{pins:List (NP×Ob)}{σ:St}{H:Hp}{s:NQ}{a:NP}{kvs:List (Key×V)}{A:NT}{E:NO->NQ->Prop}
end
section
variable {X:Cx}{pins:List (NP×Ob)}{σ:St}{H:Hp}{s:NQ}{a:NP}{y:V}{u:NO}{A:NT}{E:NO->NQ->Prop}
end
end
end L2
namespace Att
open PySem PySem.W PySem.Calls PyProof.Rows
def gh {P:Params}{h:NY}:∀(ns:List Int) (vs:List NO),WellAll P h vs (ns.map WData.int)->IntsAre vs ns:=by
 intro ns;induction ns with
 | nil =>
  intro vs w;rw[Kl]at w;cases w;exact .nil
 | cons n ns ih =>
  intro vs w;rw[Jy]at w;cases w with
  | cons a b =>
   cases a;exact .cons _ _ (ih _ b)
def tH {l:OpenLaw}{n:Nat}(hn:l.most=some n){P:Params}{h:NY}{args:List WData}{vals:List NO}
  (hpre:l.row.toRowW.claim.pre args=true) (hwl:WellAll P h vals args) :
  ∃a vs ns,vals=[NO.ref a]/\args=[WData.list (ns.map WData.int)]/\h.get? a=some { cls:=.type "list",data:=.seq vs.toArray }/\IntsAre vs ns/\ns.length<=n:=by
 have hsh:WShape.hasAll [] args [.list .int]=true:=(pre_splitW hpre).1;have hc:l.pre.holds [] { args:=args }=true:=(pre_splitW hpre).2;obtain⟨d,r,rfl,h1,h2⟩:=hasAllW_cons hsh;obtain rfl:=hasAllW_nil h2;obtain⟨xs,rfl,h3⟩:=hasW_list h1;obtain⟨ns,rfl⟩:=items_int h3;have hlen:ns.length<=n:=by
  unfold OpenLaw.pre at hc;have h4:(WTm.not (.lt (.lit (.int (n:Int))) (.len (.arg 0)))).holds [] { args:=[.list (ns.map .int)] }=true:=by
   have h4:=(holds_andW hc).1;rw[hn]at h4;exact h4
  have h5:=condW_of h4 (w_not (w_lt w_lit (w_len_list (w_arg rfl))));rw[Jf]at h5;refine Nat.le_of_not_lt λq=>?_
  have q':(n:Int)<((ns.length:Nat):Int):=by omega
  first
   | (rw[Kn q']at h5;exact absurd h5 (by decide))
   | (simp at h5;omega)
 cases hwl with
 | cons w1 w2 =>
  cases w2;cases w1 with
  | list ho hall=>exact⟨_,_,ns,rfl,rfl,ho,gh ns _ hall,hlen⟩
def ur (l:OpenLaw)(args:List WData):l.row.toRowW.claim.post args (.bool true) args=true :=
 postW_of (r:=l.row.toRowW) (X:=(true == true))
  (show WShape.has [] (.bool true) .bool=true by first | rfl | decide | simp[WShape.has,WShape.arms,WShape.armsAll])
  (show(WTm.eq .res (.lit (.bool true))).value [] { args:=args,res:=some (.bool true),after:=args }=some (.bool (true == true)) from w_eq_bool (w_res rfl) w_lit) rfl
def attach_call {l:OpenLaw}{n:Nat}{q:NR}{loose:List Str}{XP:(Str->Option NO)->NY->Prop}{YP:NS->NY->Prop}{d:DefRec}
  (hn:l.most=some n) (hdf:d.params.defaults=[])
  (call:∀(w:NS) (s₀ s₁:NQ) (mg mb:Str->Option NO) (fa:NP) (o:Ob) (pm cd doc:NO) (a:NP) (vs:List NO) (ns:List Int),
   Ground q loose [] XP w s₀ mg mb s₁.heap->YP w s₁.heap ->
   s₁.heap.get? fa=some o->o.data = .func (docDef d.name d.params d.body d.scope pm cd doc)->s₁.heap.CodeRec cd d.name->mg d.name=some (.ref fa) ->
   s₁.heap.get? a=some { cls:=.type "list",data:=.seq vs.toArray }->IntsAre vs ns->ns.length<=n->s₁.gens = #[] ->
   codeAny (model l.prog w) callerA (.call (.ref fa) ⟨[.ref a],[]⟩) (λr s'=>r = .ok (.ret (.bool true))/\OldK s₁.heap s'.heap/\s'.os=s₁.os/\AllBare s'.gens) s₁) :
  WalkO q loose XP YP l.row.toRowW d [] (λf vs=>PySem.call f vs):=by
 intro w s₀ s₁ mg mb G Y fa o pm cd doc dV kV ho hd hcd hD hmg hg args vals as hpre hlay hrd hwl hlo;obtain rfl:dV = .none:=Dflts.none hD hdf;obtain rfl:kV = .none:=Dflts.noKw hD;obtain⟨a,vs,ns,rfl,rfl,hobj,hints,hlen⟩:=tH hn hpre hwl;refine enter_call (codeAny_mono (call w s₀ s₁ mg mb fa o pm cd doc a vs ns G Y ho (fd_plain hd) hcd hmg hobj hints hlen hg) λr s' hq=>?_);obtain⟨rfl,h2,h3,h4⟩:=hq;exact⟨.inl ⟨.bool true,.bool true,[],rfl,λ_=>rfl,.bool true,ur l _,λ_=>⟨List.Pairwise.nil,λ_ hm=>(nomatch hm)⟩⟩,h2,h3,h4⟩
section
variable {prog:NR}{w:NS}{A:NT}{E:NO->NQ->Prop}{s:NQ}{K:Frag}
end
end Att
namespace L2
open PySem PySem.Spec PyProof.Rows
section
theorem fE:∀{vs:List NO} {ns:List Int},IntsAre vs ns->l0 (ns.map V.int) vs
 | _,_,.nil=>.nil
 | _,_,.cons n t h=>.cons ⟨t,rfl⟩ (fE h)
end
section
end
end L2
namespace L2
open PySem PySem.Spec PyProof.Rows
def defArgs (s:NW):Arguments:=match s with
 | .FunctionDef _ a _ _ _ _ _ _ _ _=>a
 | _=>{ posonlyargs:=[],args:=[],vararg:=none,kwonlyargs:=[],kw_defaults:=[],kwarg:=none,defaults:=[] }
def defBody (s:NW):List NW:=match s with
 | .FunctionDef _ _ b _ _ _ _ _ _ _=>b
 | _=>[]
def defScope (s:NW):NU:=match s with
 | .FunctionDef _ _ _ _ _ _ sc _ _ _=>sc
 | _=>{ kind:=.function,names:=[],isGenerator:=false,isCoroutine:=false }
abbrev CX0:CXT:=λ_ _ _ _ _ _=>False
abbrev E0:XK:=λ_ _ _=>False
def Du {X:Cx}:pQ CX0 X E0:=λ_ _ _ _ _ _ _ h=>h.elim
structure Fun (K:Fg) (x qual:Str) (st:NW) (f:NP) (fd:NV):Prop where
 ex:∃(oc:NO) (od:Option NP) (kV doc pm:NO) (an:Option NP) (cdv ct:NO) (osl:Array (Option NO)),
  fd=PySem.W.fnOf x qual (defArgs st) (defBody st) (defScope st) .none kV doc pm an cdv ct/\K.lookup f=some ⟨oc,od,.func fd,osl⟩/\PySem.W.codeIn K cdv qual=true
 kp:PySem.W.keepIn K (.ref f)=true
section
variable {P:NR}{w:NS}{K:Fg}{mg:Str->Option NO}{base:NY}
def Fun.ok {x qual:Str}{st:NW}{f:NP}{fd:NV}{N ps:List Str}{k:Nat}{sp:Sp}(F:Fun K x qual st f fd)(S:FnScope N ps (defScope st))(len:∀vs H Q E,sp vs H Q E->vs.length=ps.length)
  (hbody:∀(cdv:NO) (A:NT) (outer:List Oc) (s:NQ) (H:Hp) (vs:List V) (Q:VK) (E:XK),Room k (A.deeper (envOfC qual (defScope st) s.heap.objs.size f cdv))->sp vs H Q E ->
   ∃t,PSs (O6 CX0 P w K mg base N qual (defScope st) f cdv A outer s H E).nox (defBody st) t/\t { nx:=λ_ H'=>Q .non H',rt:=Q } (E8 N vs) H):FnOk P w K mg base CX0 (k+1) f fd ps sp:=by
 obtain⟨oc,od,kV,doc,pm,an,cdv,ct,osl,rfl,lk,hcd⟩:=F.ex;refine Ar lk hcd S len λA outer s H vs Q E hr hsp=>?_
 obtain⟨t,h,q⟩:=hbody cdv A outer s H vs Q E hr hsp;exact⟨t,h.nox,q⟩
def Fun.binds {x qual:Str}{st:NW}{f:NP}{fd:NV}{ps:List Str}(F:Fun K x qual st f fd)
  (h:∀(kV doc pm:NO) (an:Option NP) (cdv ct:NO) (us:List NO),us.length=ps.length->bindArgs (PySem.W.fnOf x qual (defArgs st) (defBody st) (defScope st) .none kV doc pm an cdv ct) ⟨us,[]⟩=pure (ps.zip us)):fG K fd ps []:=by
 obtain⟨oc,od,kV,doc,pm,an,cdv,ct,osl,rfl,lk,hcd⟩:=F.ex;exact .all (h kV doc pm an cdv ct)
def fun_mk {x qual:Str}{st:NW}{f:NP}{oc:NO}{od an:Option NP}{osl:Array (Option NO)}{kV doc pm cdv ct:NO}(l:K.lookup f=some ⟨oc,od,.func (PySem.W.fnOf x qual (defArgs st) (defBody st) (defScope st) .none kV doc pm an cdv ct),osl⟩)
  (c:PySem.W.codeIn K cdv qual=true) (k:PySem.W.keepIn K (.ref f)=true):Fun K x qual st f (PySem.W.fnOf x qual (defArgs st) (defBody st) (defScope st) .none kV doc pm an cdv ct):=⟨⟨oc,od,kV,doc,pm,an,cdv,ct,osl,rfl,l,c⟩,k⟩
end
def DO {A:NT}{k:Nat}(hr:Room k A):A.units+1<On:=LS (Nat.add_le_add_left (by decide:1<=64) _) hr.units
def Q8 {n:Nat}(h:n<=1000):n<NZ:=LS h (by decide)
section
variable {X:Cx}
def pv (i:Nat){x:Str}{pos:Pos}(hN:X.N[i]? = some x:=by rfl)(hv:Vis X.env.scope x:=by first | exact Or.inl rfl | exact Or.inr (Or.inl rfl) | exact Or.inr (Or.inr rfl))(hd:(x == ("__debug__":Str))=false:=by decide)
  (hcd:(x == ("__classdict__":Str))=false:=by decide):PE X (.Name x pos) (t9 i):=D4 hN hv hd hcd
end
def wY {A B:Prop}(h:B):if false=true then A else B:=by
 rw[Jo JI];exact h
def Er {A B:Prop}(h:A):if true=true then A else B:=by
 rw[Jk rfl];exact h
def nV {c A B:Prop}[Decidable c](h1:c->A)(h2:¬c->B):if c then A else B:=by
 by_cases h:c
 .rw[Jk h];exact h1 h
 .rw[Jo h];exact h2 h
def d8 (H H':Hp):Prop:=∀b o,H b=some o->H' b=some o
def d8.refl (H:Hp):d8 H H:=λ_ _ h=>h
def d8.trans {H H1 H2:Hp}(a:d8 H H1)(b:d8 H1 H2):d8 H H2:=λc o h=>b c o (a c o h)
section
variable {X:Cx}
end
section
variable {κ:Type}[DecidableEq κ]
end
end L2
set_option maxHeartbeats 4000000
namespace L2
open PySem PySem.Spec PyProof.Rows
section
def M6 (f:Str->NP):List (Str×Oq)->List (Str×NP)->List (Str×NP)
 | [],acc=>acc
 | (n,kd)::r,acc=>M6 f r (if (kd == Oq.free)=true then(n,f n)::acc else acc)
def Q3 {scope:NU}{env:Oc}{f:Str->NP}(h:∀y∈scope.names,y.2 = .free->cellOf env y.1=pure (f y.1)) :
  closureFor scope env=pure (M6 f scope.names []):=by
 have key:∀(l:List (Str×Oq)) (acc:List (Str×NP)),(∀y∈l,y.2 = .free->cellOf env y.1=pure (f y.1)) ->
   (forIn l acc (λ(x:Str×Oq) (cs:List (Str×NP))=>if (x.2 == Oq.free)=true then(do let c <-cellOf env x.1;pure (ForInStep.yield ((x.1,c)::cs))) else pure (ForInStep.yield cs)):Sem (List (Str×NP)))=pure (M6 f l acc):=by
  intro l;induction l with
  | nil=>intro acc _;rfl
  | cons y r ih =>
   intro acc hy;obtain⟨n,kd⟩:=y;rw[List.forIn_cons];by_cases hk:(kd == Oq.free)=true
   .have e:kd = .free:=by simpa using hk
    have hc:=hy (n,kd) Jv e;simp only[hk,KL];dsimp only at hc;rw[hc];show(forIn r ((n,f n)::acc) _:Sem _)=_;rw[ih _ λz hz=>hy z (Jh _ hz)];simp only[M6,hk,KL]
   .simp only[hk,KH];show(forIn r acc _:Sem _)=_;rw[ih _ λz hz=>hy z (Jh _ hz)];simp only[M6,hk,KH];rfl
 have:=key scope.names [] h;unfold closureFor;show(forIn scope.names [] _ >>= λr=>pure r)=_;rw[show(forIn scope.names ([]:List (Str×NP)) _:Sem _)=_ from this];rfl
theorem U0 {f:Str->NP}:∀(l:List (Str×Oq)) (acc:List (Str×NP)) {x:Str} {c:NP},(M6 f l acc).lookup x=some c->((x,Oq.free)∈l/\c=f x)\/acc.lookup x=some c
 | [],_,_,_,h=>.inr h
 | (n,kd)::r,acc,x,c,h=>by
  rw[M6]at h;rcases U0 r _ h with ⟨h1,h2⟩ | h1
  .exact .inl ⟨Jh _ h1,h2⟩
  .by_cases hk:(kd == Oq.free)=true
   .rw[Jk hk]at h1;have e:kd = .free:=by simpa using hk
    subst e;by_cases hx:x=n
    .subst hx;simp at h1;exact .inl ⟨Jv,h1.symm⟩
    .have hb:(x == n)=false:=Mj.2 hx;rw[Lj,hb]at h1;exact .inr h1
   .rw[Jo hk]at h1;exact .inr h1
theorem bx {f:Str->NP}:∀(l:List (Str×Oq)) (acc:List (Str×NP)) {x:Str},((x,Oq.free)∈l\/acc.lookup x=some (f x))->(M6 f l acc).lookup x=some (f x)
 | [],_,_,h=>by
  rcases h with h | h
  .exact absurd h (by simp)
  .exact h
 | (n,kd)::r,acc,x,h=>by
  rw[M6];refine bx r _ ?_;by_cases hk:(kd == Oq.free)=true
  .rw[Jk hk];have e:kd = .free:=by simpa using hk
   subst e;by_cases hx:x=n
   .subst hx;exact .inr (by simp)
   .have hb:(x == n)=false:=Mj.2 hx;rcases h with h | h
    .rcases Jl.1 h with z | z
     .cases z;exact absurd rfl hx
     .exact .inl z
    .exact .inr (by rw[Lj,hb];exact h)
  .rw[Jo hk];rcases h with h | h
   .rcases Jl.1 h with z | z
    .cases z;exact absurd rfl hk
    .exact .inl z
   .exact .inr h
def fS {scope:NU}{env:Oc}{x:Str}(hn:∀y∈scope.names,y.2 ≠ .cell)(h:(relabel scope env).names.lookup x=some .cell\/(relabel scope env).names.lookup x=some .free):(x,Oq.free)∈scope.names:=by
 have go:∀kd,(relabel scope env).names.lookup x=some kd->kd = .cell\/kd = .free->(x,Oq.free)∈scope.names:=by
  intro kd h hk;have hm:=Kz h;unfold relabel at hm;obtain⟨⟨n,k0⟩,hy,e⟩:=JS.1 hm;by_cases hc:(k0 == Oq.free&&env.scope.kind == .function&&env.kindOf n == some .cell)=true
  .simp only[hc,KL]at e;cases e;have:k0 = .free:=by
    simp only[LJ]at hc;simpa using hc.1.1
   subst this;exact hy
  .simp only[hc,KH]at e;cases e;rcases hk with r | r
   .subst r;exact absurd rfl (hn _ hy)
   .subst r;exact hy
 rcases h with h | h
 .exact go _ h (.inl rfl)
 .exact go _ h (.inr rfl)
theorem cg {φ:Str×Oq->Str×Oq}(hφ:∀n k,φ (n,k)=(n,k)\/(k = .free /\ φ (n,k)=(n,.cell))):∀{names:List (Str×Oq)} {x:Str},names.lookup x=some .free->(names.map φ).lookup x=some .cell\/(names.map φ).lookup x=some .free
 | [],_,h=>by simp at h
 | (n,k)::r,x,h=>by
  have ih:=@cg φ hφ r x;rw[Jy];cases hx:x == n with
  | true =>
   simp only[Lj,hx]at h;cases h;rcases hφ n .free with e | ⟨_,e⟩
   .rw[e,Lj,hx];exact .inr rfl
   .rw[e,Lj,hx];exact .inl rfl
  | false =>
   simp only[Lj,hx]at h;rcases hφ n k with e | ⟨_,e⟩
   .rw[e,Lj,hx];exact ih h
   .rw[e,Lj,hx];exact ih h
def dg {scope:NU}{env:Oc}{x:Str}(h:scope.names.lookup x=some .free):(relabel scope env).names.lookup x=some .cell\/(relabel scope env).names.lookup x=some .free:=by
 unfold relabel;refine cg (λn k=>?_) h;by_cases hc:(k == Oq.free&&env.scope.kind == .function&&env.kindOf n == some .cell)=true
 .refine .inr ⟨?_,Jk hc⟩;simp only[LJ]at hc;simpa using hc.1.1
 .exact .inl (Jo hc)
section
variable {prog:NR}{w:NS}{A:NT}{R:Result->NQ->Prop}{s:NQ}
def cZ {elt target iter:NX}{ifs:List NX}{scope:NU}{pos:Pos}{it acc:NO}{env:Oc}(I:Nat->NQ->Prop)
  (turn:∀n s,I n s->Of (model prog w) A (pyNext it) (λr s₁=>match r with
   | none=>R (.ok .next) s₁
   | some v=>Of (model prog w) A (letOwnedTupleGo target it v) (λ_ s₀=>Of (model prog w) A (assign target env v) (λ_ s₂ =>
     Of (model prog w) A (forIn ifs true λc r=>if r=true then do let ok <-isTrue c env (eval c env);pure (ForInStep.yield ok) else pure (ForInStep.yield r)) (λok s₃ =>
      if ok=true then Of (model prog w) A (eval elt env) (λx s₄ =>
       Of (model prog w) A (call (.builtin "list.append") [acc,x]) (λ_ s₅=>∃m,m<n/\I m s₅) (λ_ _=>False) s₄) (λ_ _=>False) s₃
      else ∃m,m<n/\I m s₃) (λ_ _=>False) s₂) (λ_ _=>False) s₀) (λ_ _=>False) s₁) (λ_ _=>False) s)
  (n:Nat) (h:I n s) :
  codeAny (model prog w) A (.compLoop (.ListComp elt [⟨target,iter,ifs,0⟩] scope pos) 0 it acc env) R s:=by
 refine codeAny_loop rfl I (λn s hI=>?_) n h;show Of _ A ((compTurn (.ListComp elt [⟨target,iter,ifs,0⟩] scope pos) 0 it acc env).onRaise (λx=>do noteFrame x env;theTreesLotGoes x)) _ _ s;refine wpAny_noted ?_;rw[compTurn_list];refine Jg (MT (Jg (KM (turn n s hI) (λr s₁ h₁=>?_) λ_ _ h'=>h'.elim)));cases r with
 | none=>exact Jx h₁
 | some v =>
  refine Jg (KM h₁ (λ_ s₀ h₀=>?_) λ_ _ h'=>h'.elim);refine Jg (KM h₀ (λ_ s₂ h₂=>Jg (KM h₂ (λok s₃ h₃=>?_) λ_ _ h'=>h'.elim)) λ_ _ h'=>h'.elim);cases ok with
  | false=>exact Jx ⟨rfl,h₃⟩
  | true =>
   exact Jg (Jg (KM h₃ (λx s₄ h₄=>Jg (KM h₄ (λ_ s₅ h₅=>Jx (Jx ⟨rfl,h₅⟩)) λ_ _ h'=>h'.elim)) λ_ _ h'=>h'.elim))
end
def bS (k:Nat)(cap:List Nat)(σ:St):St:=List.replicate k none++cap.map λj=>(σ[j]?).join
structure Caps (ON:List Str) (osc:NU) (N:List Str) (k:Nat) (cap:List Nat) (scope:NU):Prop where
 kind:scope.kind = .function
 nocell:∀y∈scope.names,y.2 ≠ .cell
 loc:∀y∈scope.names,y.2 = .local->scope.names.lookup y.1=some .local
 free:∀y∈scope.names,y.2 = .free->osc.names.lookup y.1=some .cell\/osc.names.lookup y.1=some .free
 len:N.length=k+cap.length
 capx:(cap.map λj=>ON[j]?)=(N.drop k).map some
 capf:∀x∈N.drop k,scope.names.lookup x=some .free
def cxC (X:Cx)(N:List Str)(scope:NU)(cl:List (Str×NP))(C:NP)(ex:List NP)(pins:List (NP×Ob))(s₀:NQ)(H₀:Hp):Cx where
 prog:=X.prog
 w:=X.w
 K:=X.K
 mg:=X.mg
 base:=X.base
 A:=X.A
 N:=N
 s₀:=s₀
 H₀:=H₀
 env:=compEnvC scope cl C X.env
 outer:=X.stack
 stack:=X.stack
 ex:=ex
 fn:=λ_=>false
 calm:=X.calm
 pn:=X.pn++pins
 xe:=λ_ _=>False
def PTs (X:Cx)(ifs:List NX)(t:TT):Prop :=
 ∀(pins:List (NP×Ob)) (s:NQ) (σ:St) (H:Hp) (Q:Bool->Hp->Prop),Inv X pins σ H s->t σ H Q ->
  Of (model X.prog X.w) X.A (forIn ifs true λc r=>if r=true then do let ok <-isTrue c X.env (eval c X.env);pure (ForInStep.yield ok) else pure (ForInStep.yield r)) (TP X pins σ Q) X.xe s
def En:TT:=λ_ H Q=>Q true H
def yW {X:Cx}:PTs X [] En:=λ_ _ _ H _ I h=>wpAny_tests_nil ⟨H,I,h⟩
def yj {X:Cx}{c:NX}{t:TT}(h:PT X c t):PTs X [c] t:=λpins s σ H Q I q=>wpAny_tests_one (h pins s σ H Q I q)
def tLC (wi:TI)(k:Nat)(cap:List Nat)(g:TG)(tt:TT)(te:TE):TE:=λσ H Q=>wi σ H λJ H1=>∀D,H1 D=none ->
 ∃W:Nat->Nat->St->List V->Hp->Prop,(∃m,W 0 m (bS k cap σ) [] (upd H1 D (.lst [])))/\∀i m σ' acc H',W i m σ' acc H' ->
  (J.stop i H'/\Q (.ref D) H') \/
  (J.go i H'/\∀x H2,J.yld i H' x H2->g x σ' H2 λσ2 H3=>tt σ2 H3 λok H4=>if ok=true then te σ2 H4 λy H5=>H5 D=some (.lst acc)/\acc.length<NZ/\∃m',m'<m/\W (i+1) m' σ2 (acc++[y]) (upd H5 D (.lst (acc++[y])))
   else H4 D=some (.lst acc)/\∃m',m'<m/\W (i+1) m' σ2 acc H4)
def uH {X:Cx}{elt tg iter:NX}{ifs:List NX}{scope osc:NU}{pos:Pos}{N:List Str}{k:Nat}{cap:List Nat}{g:TG}{tt:TT}{te:TE}{cl:List (Str×NP)}
  {pins:List (NP×Ob)} {σ:St} {H3:Hp} {s3:NQ} {D it:NP} {fp:List NP} {tn:Nat->NY->Prop} {J:It} {Q:VK} {W:Nat->Nat->St->List V->Hp->Prop} {m0:Nat}
  (hc:X.calm=true) (hosc:X.env.scope=osc) (hcap:Caps X.N osc N k cap scope)
  (hcl:∀{x:Str} {c:NP},cl.lookup x=some c->X.env.cells.lookup x=some c) (hhas:∀x,(x,Oq.free)∈scope.names->∃c,cl.lookup x=some c)
  (hg:∀cl C ex pins s H,PG (cxC X N scope cl C ex pins s H) tg g)
  (ht:∀cl C ex pins s H,PTs (cxC X N scope cl C ex pins s H) ifs tt)
  (he:∀cl C ex pins s H,PE (cxC X N scope cl C ex pins s H) elt te)
  (I3:Inv X pins σ H3 s3) (hD:H3 D=some (.lst [])) (T:Turn X.prog X.w X.K tg J fp it tn) (st:tn 0 s3.heap) (f3:∀b∈fp,gp X pins H3 b) (w0:W 0 m0 (bS k cap σ) [] H3)
  (turn:∀i m σ' acc H',W i m σ' acc H'->(J.stop i H'/\Q (.ref D) H') \/
   (J.go i H'/\∀x H2,J.yld i H' x H2->g x σ' H2 λσ2 H3=>tt σ2 H3 λok H4=>if ok=true then te σ2 H4 λy H5=>H5 D=some (.lst acc)/\acc.length<NZ/\∃m',m'<m/\W (i+1) m' σ2 (acc++[y]) (upd H5 D (.lst (acc++[y])))
    else H4 D=some (.lst acc)/\∃m',m'<m/\W (i+1) m' σ2 acc H4)) :
  Of (model X.prog X.w) X.A (newFunctionEnv scope X.env.globals cl [] X.env.qual none .none (some X.env)) (λcenv s₄ =>
   codeAny (model X.prog X.w) X.A (.compStart (.ListComp elt [⟨tg,iter,ifs,0⟩] scope pos) 0 (.ref it) (.ref D) { cenv with scope:=relabel scope X.env }) (compPost (model X.prog X.w) X.A X.xe none (EP X pins σ Q) (.ref D) cenv.locals) s₄) X.xe s3:=by
 refine Nb hcap.nocell (by intro y hy;simp at hy) (λh₁ hns₁ hsb₁=>?_) hcap.kind;have old:∀b o,s3.heap.get? b=some o->h₁.get? b=some o:=λb o e=>hsb₁.extBut b o (JG (Jz e)) (Jn _ e)
 have neC:∀b∈fp,b≠s3.heap.objs.size:=λb hb=>by
  obtain⟨o,e,_⟩:=T.obj _ _ st b hb;exact JG (Jz e)
 have nofs:∀{b:NP},b≠X.env.locals->b ∉ X.fs->b ∉ frs X.stack:=λ{b} h1 h2 z=>(Jl.1 (I3.stkSub b z)).elim h1 h2
 have IY:Inv (cxC X N scope cl s3.heap.objs.size fp pins s3 H3) [] (bS k cap σ) H3 { s3 with heap:=h₁,toks:=s3.toks+([]:List (Str×NO)).length }:=by
  refine⟨⟨I3.ok.mod,hcap.kind,I3.ok.glob,I3.ok.blt,Jq _,λx y c h1 h2=>I3.ok.inj x y c (hcl h1) (hcl h2),λx hx=>hhas x (fS hcap.nocell hx),λx c h=>absurd (show false=true from h) JI,I3.ok.hd,I3.ok.frames,.inl rfl,
   λb hb=>⟨neC b hb,λx c e=>(f3 b hb).2.2.2.2.1 x c (hcl e)⟩,I3.bs,JM I3.ok.bsz I3.sz,λb o e hb=>?_,λb hb=>nofs (f3 b hb).2.1 (f3 b hb).2.2.1,I3.stack,I3.stkFree⟩,
   rfl,I3.bare,Un.kept old,⟨_,hns₁,λi x v e1 e2 e3=>?_⟩,λx c e=>?_,I3.hok.fresh (Jq _),λx c e=>I3.freeC x c (hcl e),λp hp=>?_,I3.hok.kept old,?_⟩
  .rcases(f3 b hb).2.2.2.1 with z | z
   .exact I3.ok.noex b o e z
   .exact absurd (JH (Jz e) (JM I3.ok.bsz z)) (KD _)
  .by_cases hi:i<k
   .unfold bS at e2;rw[JL (by simpa using hi),Ki,Jk hi]at e2;cases e2
   .obtain⟨d,rfl⟩:∃d,i=k+d:=⟨i-k,by omega⟩;unfold bS at e2;rw[JR (by simp),KG,Nat.add_sub_cancel_left,Js]at e2;obtain⟨j,hj,hv⟩:=JJ.1 e2;have hσ:σ[j]? = some (some v):=by
     cases q:σ[j]? with
     | none=>rw[q]at hv;cases hv
     | some o=>rw[q]at hv;exact Kk some hv
    have e1':(N.drop k)[d]? = some x:=by rw[Mu];exact e1
    have hx:X.N[j]? = some x:=by
     have z:=Kk (λl=>l[d]?) hcap.capx;simp only[Js,hj,e1',LD]at z;exact Jt z
    have hfr:=hcap.capf x (JW e1');have hfm:=Kz hfr;have hok:=hcap.free _ hfm rfl;rw[<-hosc]at hok;obtain⟨m,hn,hl⟩:=I3.loc;obtain⟨u,r,l⟩:=hl j x v hx hσ (.inr hok);refine⟨u,r,?_⟩;rcases l with ⟨hk,_⟩ | ⟨hk,c,hc1,hc2⟩
    .have hk:X.env.scope.names.lookup x=some .local:=hk;rcases hok with z | z <;> (rw[hk]at z;cases z)
    .obtain⟨c',hc'⟩:=hhas x hfm;have:c'=c:=Jt ((hcl hc').symm.trans hc1);subst this;exact .inr ⟨dg hfr,c',hc',hc2.keeps old⟩
  .obtain⟨v,z⟩:=I3.cell x c (hcl e);exact⟨v,z.keeps old⟩
  .have hp:p∈(X.pn++pins)++[]:=hp;rw[Kg]at hp;obtain⟨a1,a2,a3,a4,a5⟩:=I3.pin p hp;exact⟨old _ _ a1,a2,JG (Jz a1),nofs a3 a4,a5⟩
  .show(bS k cap σ).length=N.length;unfold bS;rw[JX,KG,Jf,hcap.len]
 have stat:∀{H':Hp},(∀b∈fp,H' b=none)->∀b∈fp,gp (cxC X N scope cl s3.heap.objs.size fp pins s3 H3) [] H' b:=λ{H'} hn b hb=>by
  obtain⟨a0,a1,a2,a3,a4,a5⟩:=f3 b hb;refine⟨hn b hb,neC b hb,nofs a1 a2,.inl hb,λx c e=>a4 x c (hcl e),λp hp=>a5 p ?_⟩;have hp:p∈(X.pn++pins)++[]:=hp;rwa [Kg]at hp
 have loop:codeAny (model X.prog X.w) X.A (.compLoop (.ListComp elt [⟨tg,iter,ifs,0⟩] scope pos) 0 (.ref it) (.ref D) (compEnvC scope cl s3.heap.objs.size X.env))
   (compPost (model X.prog X.w) X.A X.xe none (EP X pins σ Q) (.ref D) s3.heap.objs.size) { s3 with heap:=h₁,toks:=s3.toks+([]:List (Str×NO)).length }:=by
  refine cZ (λn s'=>∃i σ' acc H',Inv (cxC X N scope cl s3.heap.objs.size fp pins s3 H3) [] σ' H' s'/\tn i s'.heap/\(∀b∈fp,H' b=none)/\H' D=some (.lst acc)/\W i n σ' acc H') ?_ m0
   ⟨0,_,[],H3,IY,T.keep _ _ _ st λb _ o e=>old b o e,λb hb=>(f3 b hb).1,hD,w0⟩
  rintro n s5 ⟨i,σ5,acc,H5,I5,st5,fr5,hD5,w5⟩;rcases turn i n σ5 acc H5 w5 with ⟨stop,q⟩ | ⟨go,step⟩
  .refine thn (T.done (cxC X N scope cl s3.heap.objs.size fp pins s3 H3) rfl rfl rfl hc i [] s5 σ5 H5 _ I5 (stat fr5) st5 stop) λr s6 ⟨hr,I6⟩=>?_
   subst hr;obtain⟨m,hn,_⟩:=id I6.loc;refine⟨m,hn,λh' hsb=>?_⟩;have I7:Inv X pins σ H5 s6:=I3.call' I6.os I6.base I6.hok I6.bare λb hb=>by
    obtain⟨a0,a1,a2,a3,a4,a5⟩:=f3 b hb;exact⟨a3,a1,a4,a5⟩
   obtain⟨g0,g1,g2,g3,g4,g5⟩:=I3.fpOk (H':=H5) (b:=s3.heap.objs.size) (Jq _) I6.free;exact⟨.ref D,H5,I7.turned (t':=s6.toks) (λb o hb e=>(hsb.2 b hb).trans e) g0 g1 g3 g4 g5,rfl,q⟩
  .refine thn (T.item (cxC X N scope cl s3.heap.objs.size fp pins s3 H3) rfl rfl rfl hc i [] s5 σ5 H5 _ I5 (stat fr5) st5 go) λr s6 ⟨u,hr,h6⟩=>?_
   subst hr;refine thn h6 λ_ s7 ⟨x,H7,I7,r7,y7,st7,fr7⟩=>?_
   have I7':=I7.pinned (stat fr7) (T.obj _ _ st7);have keepI:∀{s':NQ} {σ':St} {H':Hp},Inv (cxC X N scope cl s3.heap.objs.size fp pins s3 H3) ([]++eV fp s7.heap) σ' H' s'->tn (i+1) s'.heap/\∀b∈fp,H' b=none:=λ{s' σ' H'} I'=>by
    refine⟨T.keep _ _ _ st7 λb hb o e=>(I'.pin (b,o) (JA _ (JA _ (R4 hb e)))).1,λb hb=>?_⟩;obtain⟨o,e,d⟩:=T.obj _ _ st7 b hb;exact(I'.pin (b,o) (JA _ (JA _ (R4 hb e)))).2.1
   refine thn (hg _ _ _ _ _ _ _ s7 σ5 H7 x u _ I7' r7 (step x H7 y7)) λ_ s8 ⟨σ8,H8,I8,q8⟩=>?_
   refine thn (ht _ _ _ _ _ _ _ s8 σ8 H8 _ I8 q8) λok s9 ⟨H9,I9,q9⟩=>?_
   cases ok with
   | false =>
    have q9:H9 D=some (.lst acc)/\∃m',m'<n/\W (i+1) m' σ8 acc H9:=q9;obtain⟨hD9,m',hm,w9⟩:=q9;obtain⟨k1,k2⟩:=keepI I9;exact⟨m',hm,i+1,σ8,acc,H9,I9.unpinned,k1,k2,hD9,w9⟩
   | true =>
    refine thn (he _ _ _ _ _ _ _ s9 σ8 H9 _ I9 q9) λyv s10 ⟨y,H10,I10,r10,hD10,hz,m',hm,w10⟩=>?_
    refine thn (L7 (X:=cxC X N scope cl s3.heap.objs.size fp pins s3 H3) _ s10 σ8 H10 (.ref D) [y] (.ref D) [yv] (λ_ H'=>H'=upd H10 D (.lst (acc++[y]))) I10 rfl (.cons r10 .nil) ⟨D,acc,y,rfl,rfl,hD10,hz,rfl⟩)
     λ_ s11 ⟨_,H11,I11,_,e11⟩=>?_
    subst e11;obtain⟨k1,k2⟩:=keepI I11;exact⟨m',hm,i+1,σ8,acc++[y],_,I11.unpinned,k1,k2,c7,w10⟩
 exact codeAny_compStart_list loop (T.self X.A 0 _ _ _ (T.keep _ _ _ st λb _ o e=>old b o e) loop)
def Ab {X:Cx}{elt tg iter:NX}{ifs:List NX}{scope osc:NU}{pos:Pos}{N:List Str}{k:Nat}{cap:List Nat}{wi:TI}{g:TG}{tt:TT}{te:TE}
  (hc:X.calm=true) (hosc:X.env.scope=osc) (hcap:Caps X.N osc N k cap scope) (hi:PI X tg iter wi)
  (hg:∀cl C ex pins s H,PG (cxC X N scope cl C ex pins s H) tg g)
  (ht:∀cl C ex pins s H,PTs (cxC X N scope cl C ex pins s H) ifs tt)
  (he:∀cl C ex pins s H,PE (cxC X N scope cl C ex pins s H) elt te)
  (hs:∀x,Ol iter X.env x=pure x:=by intro _;rfl) :
  PE X (.ListComp elt [⟨tg,iter,ifs,0⟩] scope pos) (tLC wi k cap g tt te):=by
 intro pins s σ H Q I h;have hcell:∀y∈scope.names,y.2 = .free->∃c,X.env.cells.lookup y.1=some c:=λy hy hk=>I.ok.has y.1 (by
  show X.env.scope.names.lookup y.1=_\/X.env.scope.names.lookup y.1=_;rw[hosc];exact hcap.free y hy hk)
 let f:Str->NP:=λx=>(X.env.cells.lookup x).getD 0
 have hf:∀y∈scope.names,y.2 = .free->X.env.cells.lookup y.1=some (f y.1):=λy hy hk=>by
  obtain⟨c,e⟩:=hcell y hy hk;show _=some ((X.env.cells.lookup y.1).getD 0);rw[e];rfl
 have hclos:closureFor scope X.env=pure (M6 f scope.names []):=Q3 λy hy hk=>by
  unfold cellOf;rw[hf y hy hk]
 have hcl:∀{x:Str} {c:NP},(M6 f scope.names []).lookup x=some c->X.env.cells.lookup x=some c:=λ{x c} e=>by
  rcases U0 _ _ e with ⟨h1,h2⟩ | h1
  .rw[h2];exact hf (x,.free) h1 rfl
  .simp at h1
 have hhas:∀x,(x,Oq.free)∈scope.names->∃c,(M6 f scope.names []).lookup x=some c:=λx hx=>⟨_,bx _ _ (.inl hx)⟩
 generalize M6 f scope.names []=cl at hclos hcl hhas;rw[eval_ListComp];refine wpAny_comprehension_free (use:=none) (cl:=cl) rfl hs hclos hcap.kind hcap.loc ?_;refine thn (hi pins s σ H _ I h) λv s1 h1=>thn h1 λitv s2 h2=>?_
 obtain⟨it,fp,tn,J,H2,e,I2,T,st2,f2,q2⟩:=h2;subst e;obtain⟨W,⟨m0,w0⟩,turn⟩:=q2 s2.heap.objs.size (I2.hok.fresh (Jq _));refine Km ?_;have I3:Inv X pins σ (upd H2 s2.heap.objs.size (.lst [])) { s2 with heap:=s2.heap.push { cls:=.type "list",data:=.seq ([]:List NO).toArray } }:=I2.lnew (ys:=[]) (its:=[]) (t':=s2.toks) .nil (Ka _);have lt2:∀b∈fp,b≠s2.heap.objs.size:=λb hb=>by
  obtain⟨o,e,_⟩:=T.obj _ _ st2 b hb;exact JG (Jz e)
 exact uH hc hosc hcap hcl hhas hg ht he I3 c7 T (T.keep _ _ (s2.heap.push { cls:=.type "list",data:=.seq ([]:List NO).toArray }) st2 λb _ o e=>Jn _ e) (λb hb=>⟨by rw[a8 (lt2 b hb)];exact(f2 b hb).1,(f2 b hb).2⟩) w0 turn
end
section
mutual
def a7 (K:Fg)(H:Hp):My->V->Prop
 | .none,v=>v = .non
 | .bool b,v=>v = .bl b
 | .int i,v=>v = .int i
 | .str x,v=>v = .str x
 | .tuple ds,v=>∃a xs,v = .ref a/\SqT K H a xs/\a6 K H ds xs
 | .list ds,v=>∃a xs,v = .ref a/\H a=some (.lst xs)/\a6 K H ds xs
 | .dict _,_=>False
def a6 (K:Fg)(H:Hp):List My->List V->Prop
 | [],xs=>xs=[]
 | d::ds,xs=>∃x r,xs=x::r/\a7 K H d x/\a6 K H ds r
end
section
variable {X:Cx}{pins:List (NP×Ob)}{σ:St}{H:Hp}{s:NQ}
mutual
theorem M1 (I:Inv X pins σ H s):∀(d:My) (v:V) (u:NO),a7 X.K H d v->u6 v u->∃as,Reads s.heap u d as
 | .none,v,u,h,r=>by
  simp only[a7]at h;subst h;cases(show u=NO.none from r);exact⟨_,.none⟩
 | .bool b,v,u,h,r=>by
  simp only[a7]at h;subst h;cases(show u=NO.bool b from r);exact⟨_,.bool b⟩
 | .int i,v,u,h,r=>by
  simp only[a7]at h;subst h;obtain⟨t,rfl⟩:=(show ∃t,u=NO.int i t from r);exact⟨_,.int i t⟩
 | .str x,v,u,h,r=>by
  simp only[a7]at h;subst h;obtain⟨t,rfl⟩:=(show ∃t,u=NO.str x t from r);exact⟨_,.str x t⟩
 | .tuple ds,v,u,h,r=>by
  simp only[a7]at h;obtain⟨a,xs,rfl,hq,hd⟩:=h;cases(show u=NO.ref a from r);obtain⟨its,rv,ht,_⟩:=I.tuple hq;obtain⟨o,h1,h2,n,h3⟩:=ht;obtain⟨as,ra⟩:=aQ I ds xs its hd rv;exact⟨_,.tuple h1 h2 h3 ra⟩
 | .list ds,v,u,h,r=>by
  simp only[a7]at h;obtain⟨a,xs,rfl,hq,hd⟩:=h;cases(show u=NO.ref a from r);obtain⟨its,rv,ht,_⟩:=I.list (SqL.of hq);obtain⟨o,h1,h2,n,h3⟩:=ht.isList;obtain⟨as,ra⟩:=aQ I ds xs its hd rv;exact⟨_,.list h1 h2 h3 ra⟩
 | .dict kvs,v,u,h,r=>by
  simp only[a7]at h
theorem aQ (I:Inv X pins σ H s):∀(ds:List My) (xs:List V) (us:List NO),a6 X.K H ds xs->l0 xs us->∃as,ReadsAll s.heap us ds as
 | [],xs,us,h,r=>by
  simp only[a6]at h;subst h;cases r;exact⟨_,.nil⟩
 | d::ds,xs,us,h,r=>by
  simp only[a6]at h;obtain⟨x,rr,rfl,h1,h2⟩:=h;cases r with
  | cons r1 r2 =>
   obtain⟨as,ra⟩:=M1 I d x _ h1 r1;obtain⟨bs,rb⟩:=aQ I ds rr _ h2 r2;exact⟨_,.cons ra rb⟩
end
end
structure Shw (d:My) (dp n:Nat):Prop where
 sh:d.showable=true
 nd:d.hasDict=false
 de:d.depth<=dp
 ln:d.shown.length<=n
def Shw.int {i:Int}{k:Nat}(h:i.natAbs<2 ^ k)(hk:0<k)(hk2:k<=1900):Shw (.int i) 0 (k+20):=by
 have hlog:i.natAbs.log2<1920:=by
  by_cases h0:i.natAbs=0
  .rw[h0];decide
  .have:=(Nat.log2_lt h0).2 h;omega
 refine⟨by simp only[My.showable,hlog,MP],by simp only[My.hasDict],by simp only[My.depth];omega,?_⟩;have hl2:i.natAbs.log2<k:=by
  by_cases h0:i.natAbs=0
  .rw[h0];exact hk
  .exact(Nat.log2_lt h0).2 h
 have e:=int_text_length_le hk hl2;simp only[My.shown];rw[PySem.ofString_length];omega
section
variable {X:Cx}
def zZ (K:Fg):List V->Hp->VK->Prop:=λxs H Q=>∃a d,xs=[.ref a]/\a7 K H d (.ref a)/\Shw d 50 16000000/\Q (.str d.shown) H
def tM (hg:X.A.guards=some [])(hu:X.A.units+64<On):D1 X (.builtin "repr") (zZ X.K):=by
 intro pins s σ H xs us Q I r h;obtain⟨a,d,rfl,hd,hs,q⟩:=h;obtain⟨u,rfl,ru⟩:=P5 r;cases ru;obtain⟨as,rd⟩:=M1 I d (.ref a) (.ref a) hd rfl;refine repr_of_reads' rd hs.sh (My.noDict_hsm hs.nd) hg (by have:=hs.de;omega) (λ_ _ e=>e) (λh' u tk hk=>⟨.str d.shown,H,I.kept hk,⟨u,rfl⟩,q⟩) (JM hs.ln (by rw[JQ];decide))
end
end
end L2
namespace HT
open PySem PyProof.Rows
section
variable {prog:NR}{w:NS}{A:NT}{E:NO->NQ->Prop}{s:NQ}
def getItem_tuple_whole {t sl:NP}{items:Array NO}{vl vu:NO}{lo hi:Option Int}{Q:NO->NQ->Prop}(ht:IsTup s.heap t items)(hs:s.heap.IsSliceOf sl vl vu .none)(pl:IsPart vl lo)(pu:IsPart vu hi)
  (h0:sIx items.size 0 lo=0) (h1:sIx items.size items.size hi=items.size) (h:Q (.ref t) s):Of (model prog w) A (getItem (.ref t) (.ref sl)) Q E s:=by
 obtain⟨os,hos,hcs,hds⟩:=id hs;have hTs:s.TypeIs (.ref sl) "slice":=⟨os,hos,hcs⟩;unfold getItem;try with_reducible refine Ld ?_
 first | refine Jg (Jx ?_) | skip
 refine Jg (wpAny_sequenceKey ht.typeIs (by decide) ?_);refine Jg (Lq (name:=Str.ofString "__getitem__") ht.typeIs Kb
  (Ls Kb ht.typeIs entry_tuple_getitem ?_ (args_tuple_getitem _ _)))
 show Of _ _ (Builtin.Tuple.tupleItemsOf (.ref t) >>= _) _ _ s;refine Jg (tupleItemsOf_ ht ?_);refine Jg (MY hTs ?_);rw[Jk (by decide)];refine Jg (Y0 hs pl pu ?_);have hyes:(((sIx items.size 0 lo:Nat):Int) == 0&&(1:Int) == 1&&(sIx items.size items.size hi-sIx items.size 0 lo) == items.size)=true:=by
  rw[h0,h1];simp
 show Of _ _ (if (((sIx items.size 0 lo:Nat):Int) == 0&&(1:Int) == 1&&(sIx items.size items.size hi-sIx items.size 0 lo) == items.size)=true then _ else _) _ _ s;rw[Jk hyes];unfold Builtin.Tuple.tupleIsExact;refine Jg ?_;refine Jg (MY ht.typeIs (Jx ?_));rw[Jk (by decide)];exact Jg (Md (Jx ⟨_,rfl,Jx h⟩))
def pO (n:Nat):Builtin.Slice.sliceAdjust none none (-1) (n:Int)=((n:Int)-1,-1):=by
 unfold Builtin.Slice.sliceAdjust;simp
def pM (n:Nat):Builtin.Slice.slicePlaces ((n:Int)-1) (-1) (-1)=n:=by
 unfold Builtin.Slice.slicePlaces;rw[Jo (by decide)];split
 .rw[show(-(-1):Int)=1 by decide,Int.ediv_one];omega
 .omega
def eK {sl:NP}{vst:NO}{n:Nat}{Q:Int×Int×Nat->NQ->Prop}(hs:s.heap.IsSliceOf sl .none .none vst)(pst:IsPart vst (some (-1)))
  (h:Q ((n:Int)-1,-1,n) s):Of (model prog w) A (Builtin.Slice.sliceApplied (.ref sl) (pure (n:Int))) Q E s:=by
 obtain⟨os,hos,hcs,hds⟩:=id hs;unfold Builtin.Slice.sliceApplied Builtin.Slice.sliceFields;refine Jg (Jg (Lw hos hds (x:=.none) rfl (Jg (Lw hos hds (x:=.none) rfl (Jg (Lw hos hds (x:=vst) rfl (Jx ?_)))))));refine Jg (cw pst ?_);show Of _ _ (if ((-1:Int) == 0)=true then _ else _) _ _ s;rw[Jo (by decide)];refine Jg (slicePart_none (Jg (slicePart_none (Jg (Jx ?_)))));show Of _ _ (match Builtin.Slice.sliceAdjust none none (-1) (n:Int) with | (lo,hi)=>pure (lo,(-1:Int),Builtin.Slice.slicePlaces lo hi (-1))) _ _ s;rw[pO n];show Of _ _ (pure ((n:Int)-1,(-1:Int),Builtin.Slice.slicePlaces ((n:Int)-1) (-1) (-1))) _ _ s;rw[pM];exact Jx h
theorem Z3 {α β:Type}{f g:α->Option β}:∀{l:List α},(∀x∈l,f x=g x)->l.filterMap f=l.filterMap g
 | [],_=>rfl
 | x::r,h=>by
  rw[LL,LL,h x Jv,Z3 λy hy=>h y (Jh _ hy)]
def wq (xs:Array NO):((List.range xs.size).filterMap λ(m:Nat)=>xs[(((xs.size:Int)-1)+(m:Int)*(-1)).toNat]?).toArray=xs.toList.reverse.toArray:=by
 congr 1;have e:((List.range xs.size).filterMap λ(m:Nat)=>xs[(((xs.size:Int)-1)+(m:Int)*(-1)).toNat]?)=(List.range xs.size).filterMap λm=>xs.toList.reverse[m]?:=by
  refine Z3 λm hm=>?_
  have hm:=JN.1 hm;rw[List.getElem?_reverse (by simpa using hm)];have:(((xs.size:Int)-1)+(m:Int)*(-1)).toNat=xs.toList.length-1-m:=by
   rw[KY];omega
  rw[this];simp
 rw[e];have:=PySem.W.krv_all xs.toList.reverse.toArray;simpa using this
def getItem_tuple_rev {t sl:NP}{items:Array NO}{vst:NO}{Q:NO->NQ->Prop}(ht:IsTup s.heap t items)(hs:s.heap.IsSliceOf sl .none .none vst)(pst:IsPart vst (some (-1)))
  (h:Q (.ref s.heap.objs.size) { s with heap:=s.heap.push { cls:=.type "tuple",data:=.seq items.toList.reverse.toArray } })
  (hsz:items.size<=NZ):Of (model prog w) A (getItem (.ref t) (.ref sl)) Q E s:=by
 have htake:sizeOk (.seq items.toList.reverse.toArray):=by
  show items.toList.reverse.toArray.size<=NZ;rw[Jw,Ni,KY];exact hsz
 obtain⟨os,hos,hcs,hds⟩:=id hs;have hTs:s.TypeIs (.ref sl) "slice":=⟨os,hos,hcs⟩;unfold getItem;try with_reducible refine Ld ?_
 first | refine Jg (Jx ?_) | skip
 refine Jg (wpAny_sequenceKey ht.typeIs (by decide) ?_);refine Jg (Lq (name:=Str.ofString "__getitem__") ht.typeIs Kb
  (Ls Kb ht.typeIs entry_tuple_getitem ?_ (args_tuple_getitem _ _)))
 show Of _ _ (Builtin.Tuple.tupleItemsOf (.ref t) >>= _) _ _ s;refine Jg (tupleItemsOf_ ht ?_);refine Jg (MY hTs ?_);rw[Jk (by decide)];refine Jg (eK hs pst ?_);have hno:¬(((items.size:Int)-1 == 0&&(-1:Int) == 1&&items.size == items.size)=true):=by simp
 show Of _ _ (if ((items.size:Int)-1 == 0&&(-1:Int) == 1&&items.size == items.size)=true then _ else _) _ _ s;rw[Jo hno,wq];first
  | exact Jg (m:=Builtin.Tuple.tupleExact _) (Km (Jx ⟨_,rfl,Jx h⟩) htake)
  | exact Jg (m:=Builtin.Tuple.tupleExact _) (Km (Jg (Jx (Jx ⟨_,rfl,Jx h⟩))) htake)
  | exact Jg (Jg (m:=Builtin.Tuple.tupleExact _) (Km (Jx (Jx ⟨_,rfl,Jx h⟩)) htake))
  | exact Jg (Jg (m:=Builtin.Tuple.tupleExact _) (Km (Jx ⟨_,rfl,Jx h⟩) htake))
end
end HT
namespace L2
open PySem PySem.Spec PyProof.Rows
section
section
variable {X:Cx}
def An (K:Fg):V->Option Int->Option Int->Hp->VK->Prop:=λx lo hi H Q=>∃a xs,x = .ref a/\SqT K H a xs/\((eO xs lo hi=xs/\HT.sIx xs.length 0 lo=0/\HT.sIx xs.length xs.length hi=xs.length->Q (.ref a) H) /\
 (¬(HT.sIx xs.length 0 lo=0/\HT.sIx xs.length xs.length hi=xs.length)->∀p,H p=none->Q (.ref p) (upd H p (.tup (eO xs lo hi)))))
def yX:SlR X (An X.K):=by
 intro pins s σ H x v vl vu lo hi sl Q I rx hs pl pu h;obtain⟨a,xs,rfl,hx,hw,hn⟩:=h;by_cases hc:HT.sIx xs.length 0 lo=0/\HT.sIx xs.length xs.length hi=xs.length
 .cases rx;obtain⟨its,r,ht,hz⟩:=I.tuple hx;have hlen:its.toArray.size=xs.length:=by rw[Jw];exact r.length.symm
  have hq:=hw ⟨by unfold eO;rw[hc.1,hc.2];simp,hc.1,hc.2⟩;exact⟨"tuple",_,Kb.lookup,ht.typeIs,HT.getItem_tuple_whole ht hs pl pu (by rw[hlen];exact hc.1) (by rw[hlen];exact hc.2) ⟨.ref a,H,I,rfl,hq⟩⟩
 .exact BK pins s σ H (.ref a) v vl vu lo hi sl Q I rx hs pl pu ⟨a,xs,rfl,hx,hc,hn hc⟩
def uR (hc:X.calm=true):D1 X (.builtin "sum") (λxs H Q=>∃(a:NP) (ns:List Int),xs=[.ref a]/\SqL X.K H a (ns.map V.int)/\Q (.int ns.sum) H):=by
 intro pins s σ H xs us Q I r h;obtain⟨a,ns,rfl,hq,q⟩:=h;obtain⟨u,rfl,ru⟩:=P5 r;cases ru;obtain⟨its,rv,p,hz⟩:=I.list hq;have hi:=cm rv;obtain⟨zs,hzs⟩:=hi.allInts.items;have hl:s.heap.IsList a (intItems zs):=hzs▸p.isList;refine sum_intListG (I.ok.hd hc) hl λh' tk t' hk=>⟨.int ns.sum,H,I.kept hk,⟨t',?_⟩,q⟩
 have hn:=hi.numsOf;have e:numsOf (intItems zs).toList=ns:=by rw[<-hzs];exact hn
 rw[nums_intItems]at e;rw[preSum_eq,Kw (by simp),e]
def Ct (K:Fg):R2:=λx y H Q=>∃a b xs,x = .ref a/\y = .ref b/\SqL K H a xs/\SqL K H b []/\Q (.bl (!xs.isEmpty)) H
def vW (hu:X.A.units<On):OpR X (compareOp .NotEq) (Ct X.K):=by
 intro pins s σ H x y v u Q I rx ry h;obtain⟨a,b,xs,rfl,rfl,ha,hb,q⟩:=h;cases rx;cases ry;obtain⟨its,rv,p,hz⟩:=I.list ha;obtain⟨its2,rv2,p2,hz2⟩:=I.list hb;cases rv2;cases rv with
 | nil=>exact(SeqAt.RcNeAt.lists (e:=λ_=>true) p.isList p2.isList rfl hu λj h1 _=>absurd h1 (by simp)) _ _ _ _ ⟨.bl false,H,I,rfl,q⟩
 | cons r1 r2=>exact(SeqAt.RcNeAt.lists_lengths p.isList p2.isList (by simp) hu) _ _ _ _ ⟨.bl true,H,I,rfl,q⟩
def zX (i j k:Nat)(ta:TA):TS:=λD σ H=>ta σ H λvs H1=>∃u v w,vs=[u,v,w]/\D.nx (((σ.set i (some u)).set j (some v)).set k (some w)) H1
def yL {i j k:Nat}{x y z:Str}{a b c:NX}{ta:TA}{px py pz pt pos:Pos}{kt k2 pt2}(hc:X.calm=true)(hN:X.N.Nodup)(hi:X.N[i]? = some x)(hj:X.N[j]? = some y)(hk:X.N[k]? = some z)(hij:i≠j)(hik:i≠k)(hjk:j≠k)
  (hx:X.env.scope.names.lookup x=some .local) (hy:X.env.scope.names.lookup y=some .local) (hz:X.env.scope.names.lookup z=some .local) (ha:PA X [a,b,c] ta)
  (hw:swappedStores [.Tuple [.Name x px,.Name y py,.Name z pz] kt pt] (.Tuple [a,b,c] k2 pt2) X.env=pure (some [x,y,z]))
  (hs:swapsWithSole [.Tuple [.Name x px,.Name y py,.Name z pz] kt pt] (.Tuple [a,b,c] k2 pt2) pos.line X.env=pure false:=by rfl) :
  PS X (.Assign [.Tuple [.Name x px,.Name y py,.Name z pz] kt pt] (.Tuple [a,b,c] k2 pt2) pos) (zX i j k ta):=by
 intro pins s σ H D I h;rw[exec_Assign_arm];refine Jg (MT ?_);rw[hs];refine Jg (Jx ?_);rw[Jo (by decide)];refine Jg (Tuple_ (thn (ha _ pins s σ H _ I h) λus s1 ⟨vs,H1,I1,r1,q1⟩=>?_));obtain⟨v,w,t,e1,q1⟩:=q1;subst e1;obtain⟨u1,u2,u3,rfl,rv,rw',rt⟩:∃u1 u2 u3,us=[u1,u2,u3]/\u6 v u1/\u6 w u2/\u6 t u3:=by
  cases r1 with
  | cons p q =>
   cases q with
   | cons p' q' =>
    cases q' with
    | cons p'' q'' =>
     cases q'';exact⟨_,_,_,rfl,p,p',p''⟩
 refine Km ?_ (by show 3<=NZ;decide);have I2:Inv X pins σ H1 { s1 with heap:=s1.heap.push { cls:=.type "tuple",data:=.seq [u1,u2,u3].toArray } }:=I1.kept (t':=s1.toks) λb o e=>Jn _ e
 rw[hw];refine Jg (Jx ?_);show Of (model X.prog X.w) X.A (do rule "assign.swapped-stores";let items <-unpackItems (.ref s1.heap.objs.size) 3 none;assignInOrder [λv=>bindName X.env z v,λv=>bindName X.env y v,λv=>bindName X.env x v] items.reverse;pure Flow.next) _ _ _;refine Jg (Md (Jg (unpackItems_tuple (items:=#[u1,u2,u3]) (I.ok.hd hc) (Mp s1.heap _) λh' hx'=>?_)));have I3:=I2.kept (h':=h') (t':=s1.toks) λb o e=>hx' b o (JG (Jz e)) e
 show Of _ _ (assignInOrder [λv=>bindName X.env z v,λv=>bindName X.env y v,λv=>bindName X.env x v] [u3,u2,u1] >>= λ_=>pure Flow.next) _ _ _;refine Jg (Ly (MC (O0 I3 hN hk (.inl hz) rt (λs2 I4=>?_) (.inr hz))));refine Ly (MC (O0 I4 hN hj (.inl hy) rw' (λs3 I5=>?_) (.inr hy)));refine Ly (MC (O0 I5 hN hi (.inl hx) rv (λs4 I6=>assignInOrder_nil (Jx ?_)) (.inr hx)));rw[Nu _ _ (JV hjk),Nu _ _ (JV hik),Nu _ _ (JV hij)]at I6;exact⟨_,H1,I6,q1⟩
end
end
section
def k9 (P:NR)(w:NS)(K:Fg)(mg:Str->Option NO)(base:NY)(x:Str)(k:Nat)(ps:List Str)(sp:Sp):Prop :=
 ∃f fd,FnOk P w K mg base CX0 k f fd ps sp/\mg x=some (.ref f)/\PySem.W.keepIn K (.ref f)=true/\fG K fd ps []
def bF {X:Cx}{x:Str}{k:Nat}{ps:List Str}{sp:Sp}{p pos:Pos}{e:NX}{es:List NX}{t:TA}(C:k9 X.prog X.w X.K X.mg X.base x k ps sp)(hr:Room k X.A)(hg:Gl X x)(ha:PA X (e::es) t)
  (hdb:(x == ("__debug__":Str))=false:=by decide) (he:Oa (e::es) X.env=(false,eval e X.env)::Oa es X.env:=by rfl) (hpl:(Od pos (Oa es X.env)).any (·.1)=false:=by rfl) :
  PE X (.Call (.Name x p) (e::es) [] pos) (dA sp [] E0 t):=by
 obtain⟨f,fd,G,m,kp,b⟩:=C;exact xR G hr hg m kp b .nil Du ha hdb he hpl
def KpE (D:NP->Prop)(H H':Hp):Prop:=∀b o,H b=some o->¬D b->H' b=some o
def SqT.kp {K:Fg}{H H':Hp}{a:NP}{xs:List V}{D:NP->Prop}(h:SqT K H a xs)(k:KpE D H H')(hD:∀b,D b->∃kvs,H b=some (.dK kvs)):SqT K H' a xs:=by
 rcases h with (h | ⟨o,h⟩) | h
 .refine .inl (.inl (k _ _ h λz=>?_));obtain⟨kvs,e⟩:=hD _ z;rw[h]at e;cases e
 .refine .inl (.inr ⟨o,k _ _ h λz=>?_⟩);obtain⟨kvs,e⟩:=hD _ z;rw[h]at e;cases e
 .exact .inr h
section
variable {K:Fg}{H H':Hp}{D:NP->Prop}
mutual
theorem a7.kp (k:KpE D H H')(hD:∀b,D b->∃kvs,H b=some (.dK kvs)):∀(d:My) (v:V),a7 K H d v->a7 K H' d v
 | .none,v,h=>by simpa only[a7] using h
 | .bool b,v,h=>by simpa only[a7] using h
 | .int i,v,h=>by simpa only[a7] using h
 | .str x,v,h=>by simpa only[a7] using h
 | .tuple ds,v,h=>by
  simp only[a7]at h ⊢;obtain⟨a,xs,e,hq,hd⟩:=h;exact⟨a,xs,e,hq.kp k hD,a6.kp k hD ds xs hd⟩
 | .list ds,v,h=>by
  simp only[a7]at h ⊢;obtain⟨a,xs,e,hq,hd⟩:=h;refine⟨a,xs,e,k _ _ hq λz=>?_,a6.kp k hD ds xs hd⟩;obtain⟨kvs,e⟩:=hD _ z;rw[hq]at e;cases e
 | .dict kvs,v,h=>by simp only[a7]at h
theorem a6.kp (k:KpE D H H')(hD:∀b,D b->∃kvs,H b=some (.dK kvs)):∀(ds:List My) (xs:List V),a6 K H ds xs->a6 K H' ds xs
 | [],xs,h=>by simpa only[a6] using h
 | d::ds,xs,h=>by
  simp only[a6]at h ⊢;obtain⟨x,r,e,h1,h2⟩:=h;exact⟨x,r,e,a7.kp k hD d x h1,a6.kp k hD ds r h2⟩
end
end
def d8.kpE {H H':Hp}(s:d8 H H'):KpE (λ_=>False) H H':=λb o h _=>s b o h
def a7.same {K:Fg}{H H':Hp}{d:My}{v:V}(h:a7 K H d v)(s:d8 H H'):a7 K H' d v:=a7.kp s.kpE (λ_ z=>z.elim) d v h
def a6.same {K:Fg}{H H':Hp}{ds:List My}{xs:List V}(h:a6 K H ds xs)(s:d8 H H'):a6 K H' ds xs:=a6.kp s.kpE (λ_ z=>z.elim) ds xs h
def SqT.same {K:Fg}{H H':Hp}{a:NP}{xs:List V}(h:SqT K H a xs)(s:d8 H H'):SqT K H' a xs:=h.kp s.kpE (λ_ z=>z.elim)
def d8.upd {H:Hp}{p:NP}{o:HO}(hp:H p=none):d8 H (upd H p o):=λb u e=>by rw[a8 (e8 e hp)];exact e
section
variable {K:Fg}{H:Hp}
theorem a6.length:∀{ds:List My} {xs:List V},a6 K H ds xs->xs.length=ds.length
 | [],xs,h=>by simp only[a6]at h;subst h;rfl
 | d::ds,xs,h=>by
  simp only[a6]at h;obtain⟨x,r,rfl,h1,h2⟩:=h;rw[JB,JB,h2.length]
theorem a6.get:∀{ds:List My} {xs:List V} {i:Nat} {x:V},a6 K H ds xs->xs[i]? = some x->∃d,ds[i]? = some d/\a7 K H d x
 | [],xs,i,x,h,e=>by simp only[a6]at h;subst h;simp at e
 | d::ds,xs,i,x,h,e=>by
  simp only[a6]at h;obtain⟨y,r,rfl,h1,h2⟩:=h;cases i with
  | zero=>simp at e;subst e;exact⟨d,rfl,h1⟩
  | succ i=>simpa using h2.get (i:=i) (by simpa using e)
theorem a6.snoc:∀{ds:List My} {xs:List V} {d:My} {x:V},a6 K H ds xs->a7 K H d x->a6 K H (ds++[d]) (xs++[x])
 | [],xs,d,x,h,h'=>by simp only[a6]at h;subst h;simp only[Ku,a6];exact⟨x,[],rfl,h',rfl⟩
 | e::ds,xs,d,x,h,h'=>by
  simp only[a6]at h;obtain⟨y,r,rfl,h1,h2⟩:=h;simp only[KF,a6];exact⟨y,r++[x],rfl,h1,h2.snoc h'⟩
theorem a6.append {ds':List My}{xs':List V}(h':a6 K H ds' xs'):∀{ds:List My} {xs:List V},a6 K H ds xs->a6 K H (ds++ds') (xs++xs')
 | [],xs,h=>by simp only[a6]at h;subst h;simpa using h'
 | e::ds,xs,h=>by
  simp only[a6]at h;obtain⟨y,r,rfl,h1,h2⟩:=h;simp only[KF,a6];exact⟨y,r++xs',rfl,h1,a6.append h' h2⟩
theorem a6.reverse:∀{ds:List My} {xs:List V},a6 K H ds xs->a6 K H ds.reverse xs.reverse
 | [],xs,h=>by simp only[a6]at h;subst h;simp[a6]
 | d::ds,xs,h=>by
  simp only[a6]at h;obtain⟨y,r,rfl,h1,h2⟩:=h;rw[MJ,MJ];exact(a6.reverse h2).snoc h1
theorem a6.take:∀{ds:List My} {xs:List V} (n:Nat),a6 K H ds xs->a6 K H (ds.take n) (xs.take n)
 | [],xs,n,h=>by simp only[a6]at h;subst h;simp[a6]
 | d::ds,xs,0,h=>by simp[a6]
 | d::ds,xs,n+1,h=>by
  simp only[a6]at h;obtain⟨y,r,rfl,h1,h2⟩:=h;simp only[Ml,a6];exact⟨y,r.take n,rfl,h1,a6.take n h2⟩
def a7.tup {ds:List My}{xs:List V}{a:NP}(h:H a=some (.tup xs))(h2:a6 K H ds xs):a7 K H (.tuple ds) (.ref a):=by
 simp only[a7];exact⟨a,xs,rfl,SqT.of h,h2⟩
def a7.lst {ds:List My}{xs:List V}{a:NP}(h:H a=some (.lst xs))(h2:a6 K H ds xs):a7 K H (.list ds) (.ref a):=by
 simp only[a7];exact⟨a,xs,rfl,h,h2⟩
def a6.nil:a6 K H [] []:=by simp only[a6]
def a6.cons {d:My}{x:V}{ds:List My}{xs:List V}(h:a7 K H d x)(h2:a6 K H ds xs):a6 K H (d::ds) (x::xs):=by
 simp only[a6];exact⟨x,xs,rfl,h,h2⟩
def a7.int {i:Int}:a7 K H (.int i) (.int i):=by simp only[a7]
def a7.bl {b:Bool}:a7 K H (.bool b) (.bl b):=by simp only[a7]
def a7.st {x:Str}:a7 K H (.str x) (.str x):=by simp only[a7]
def a7.non:a7 K H .none .non:=by simp only[a7]
def a7.ofTup {ds:List My}{v:V}(h:a7 K H (.tuple ds) v):∃a xs,v = .ref a/\SqT K H a xs/\a6 K H ds xs:=by simpa only[a7] using h
end
def xG {J:It}{D:NP}(n:Nat){g:TG}{tt:TT}{te:TE}{Q:Hp->Prop}{σ0:St}{H0:Hp}(Pv:Nat->St->List V->Hp->Prop)(h0:Pv 0 σ0 [] H0)
  (hgo:∀i σ acc H,i<n->Pv i σ acc H->J.go i H) (hstop:∀σ acc H,Pv n σ acc H->J.stop n H)
  (hs:∀i σ acc H,i<n->Pv i σ acc H->∀x H2,J.yld i H x H2->∀R:St->List V->Hp->Prop,(∀σ acc H,Pv (i+1) σ acc H->R σ acc H) ->
   g x σ H2 λσ2 H3=>tt σ2 H3 λok H4=>if ok=true then te σ2 H4 λy H5=>H5 D=some (.lst acc)/\acc.length<NZ/\R σ2 (acc++[y]) (upd H5 D (.lst (acc++[y]))) else H4 D=some (.lst acc)/\R σ2 acc H4)
  (hd:∀σ acc H,Pv n σ acc H->Q H) :
  ∃W:Nat->Nat->St->List V->Hp->Prop,(∃m,W 0 m σ0 [] H0)/\∀i m σ' acc H',W i m σ' acc H' ->
  (J.stop i H'/\Q H') \/
  (J.go i H'/\∀x H2,J.yld i H' x H2->g x σ' H2 λσ2 H3=>tt σ2 H3 λok H4=>if ok=true then te σ2 H4 λy H5=>H5 D=some (.lst acc)/\acc.length<NZ/\∃m',m'<m/\W (i+1) m' σ2 (acc++[y]) (upd H5 D (.lst (acc++[y])))
   else H4 D=some (.lst acc)/\∃m',m'<m/\W (i+1) m' σ2 acc H4):=by
 refine⟨λi m σ acc H=>m=n-i/\i<=n/\Pv i σ acc H,⟨n,by simp,Ka _,h0⟩,?_⟩;rintro i m σ acc H ⟨rfl,hi,p⟩;by_cases hlt:i<n
 .exact .inr ⟨hgo i σ acc H hlt p,λx H2 y=>hs i σ acc H hlt p x H2 y (λσ acc H=>∃m',m'<n-i/\m'=n-(i+1)/\i+1<=n/\Pv (i+1) σ acc H) λσ acc H q=>⟨n-(i+1),by omega,rfl,hlt,q⟩⟩
 .have e:i=n:=by omega
  subst e;exact .inl ⟨hstop σ acc H p,hd σ acc H p⟩
end
section
section
variable {X:Cx}{K:Fg}
def rM {es:List NX}{k:Nat}{t:TGs}{n:Nat}{pos:Pos}(hK:X.K=K)(hc:X.calm=true)(h:PGs X es t)
  (hn:(Om es X.env).length=n:=by rfl) (hst:(Om es X.env).findIdx? (·.1)=none:=by rfl):PG X (.Tuple es k pos) (zD K n t):=by
 subst hK;exact AJ hc h hn hst
def zj (hK:X.K=K):IxR X (Bg K):=by subst hK;exact qo
def xx (hK:X.K=K):IxR X (uu K):=by subst hK;exact C8
def bX (hK:X.K=K):D1 X (.builtin "len") (λxs H Q=>∃p ys,xs=[.ref p]/\(SqL K H p ys\/SqT K H p ys)/\Q (.int ys.length) H):=by subst hK;exact L0
def aE (hK:X.K=K):D1 X (.type "tuple") (λxs H Q=>∃p ys,xs=[.ref p]/\((SqL K H p ys/\∀l,H l=none->Q (.ref l) (upd H l (.tup ys)))\/(SqT K H p ys/\Q (.ref p) H))):=by subst hK;exact jq
def jf (hK:X.K=K)(hg:X.A.guards=some [])(hu:X.A.units+64<On):D1 X (.builtin "repr") (zZ K):=by subst hK;exact tM hg hu
def xb (hK:X.K=K):SlR X (An K):=by subst hK;exact yX
def tj {a:NX}{ta:TE}(hK:X.K=K)(ha:PE X a ta)(he:∀whole,isTrue a X.env whole=(do let v <-whole;standAt a.pos;holding [v] (truthy v))) :
  PT X a (λσ H Q=>ta σ H λx H'=>∃k,uY K x H' k/\Q k H'):=by subst hK;exact vT ha he
end
end
section
section
variable {X:Cx}{K:Fg}
def De (K:Fg):R2:=λx y H Q=>∃a b xs ys,x = .ref a/\y = .ref b/\SqT K H a xs/\SqT K H b ys/\xs.length+ys.length<=NZ /\
 (xs=[]->Q (.ref b) H)/\(ys=[]->Q (.ref a) H)/\∀p,H p=none->Q (.ref p) (upd H p (.tup (xs++ys)))
def yt (hK:X.K=K):OpR X (binaryOp .Add) (De K):=by
 subst hK;intro pins s σ H x y v u Q I rx ry h;obtain⟨a,b,xs,ys,rfl,rfl,ha,hb,hz,q0,q1,q2⟩:=h;by_cases hx:xs=[]
 .cases rx;cases ry;obtain⟨its,r1,p1,_⟩:=I.tuple ha;obtain⟨its2,r2,p2,_⟩:=I.tuple hb;subst hx;cases r1;obtain⟨⟨cls,dd,data,sl⟩,ho,hc,n,hd⟩:=id p1;obtain⟨⟨cls2,dd2,data2,sl2⟩,ho2,hc2,n2,hd2⟩:=id p2;simp only at hc hd hc2 hd2;subst hc hd hc2 hd2;exact concat_meets ⟨_,ho,rfl⟩ ⟨_,ho2,rfl⟩ noFill_tuple_add seq_tuple_add MO MG (Ms _ _)
   (tuple_addW0 a b #[] its2.toArray n n2 dd dd2 sl sl2 rfl) ⟨ho,ho2,⟨.ref b,H,I,rfl,q0 rfl⟩⟩
 .exact yR pins s σ H (.ref a) (.ref b) v u Q I rx ry ⟨a,b,xs,ys,rfl,rfl,ha,hb,hx,hz,q1,λ_=>q2⟩
end
end
section
def tX {X:Cx}{y:Str}{py:Pos}{ix:Nat}{elt tg iter:NX}{ifs:List NX}{scope osc:NU}{pos:Pos}{N:List Str}{k:Nat}{cap:List Nat}{g:TG}{tt:TT}{te:TE}{cl:List (Str×NP)}
  {pins:List (NP×Ob)} {σ:St} {H3:Hp} {s3:NQ} {D it:NP} {fp:List NP} {tn:Nat->NY->Prop} {J:It} {Q:St->Hp->Prop} {W:Nat->Nat->St->List V->Hp->Prop} {m0:Nat}
  (hNd:X.N.Nodup) (hix:X.N[ix]? = some y) (hLy:Loc X.env.scope y) (hfy:X.fn y=true\/X.env.scope.names.lookup y=some .local)
  (hc:X.calm=true) (hosc:X.env.scope=osc) (hcap:Caps X.N osc N k cap scope)
  (hcl:∀{x:Str} {c:NP},cl.lookup x=some c->X.env.cells.lookup x=some c) (hhas:∀x,(x,Oq.free)∈scope.names->∃c,cl.lookup x=some c)
  (hg:∀cl C ex pins s H,PG (cxC X N scope cl C ex pins s H) tg g)
  (ht:∀cl C ex pins s H,PTs (cxC X N scope cl C ex pins s H) ifs tt)
  (he:∀cl C ex pins s H,PE (cxC X N scope cl C ex pins s H) elt te)
  (I3:Inv X pins σ H3 s3) (hD:H3 D=some (.lst [])) (T:Turn X.prog X.w X.K tg J fp it tn) (st:tn 0 s3.heap) (f3:∀b∈fp,gp X pins H3 b) (w0:W 0 m0 (bS k cap σ) [] H3)
  (turn:∀i m σ' acc H',W i m σ' acc H'->(J.stop i H'/\Q (σ.set ix (some (.ref D))) H') \/
   (J.go i H'/\∀x H2,J.yld i H' x H2->g x σ' H2 λσ2 H3=>tt σ2 H3 λok H4=>if ok=true then te σ2 H4 λy H5=>H5 D=some (.lst acc)/\acc.length<NZ/\∃m',m'<m/\W (i+1) m' σ2 (acc++[y]) (upd H5 D (.lst (acc++[y])))
    else H4 D=some (.lst acc)/\∃m',m'<m/\W (i+1) m' σ2 acc H4)) :
  Of (model X.prog X.w) X.A (newFunctionEnv scope X.env.globals cl [] X.env.qual none .none (some X.env)) (λcenv s₄ =>
   codeAny (model X.prog X.w) X.A (.compStart (.ListComp elt [⟨tg,iter,ifs,0⟩] scope pos) 0 (.ref it) (.ref D) { cenv with scope:=relabel scope X.env }) (compPost (model X.prog X.w) X.A X.xe (some (assign (.Name y py) X.env)) (λ_ s'=>∃σ' H',Inv X pins σ' H' s'/\Q σ' H') (.ref D) cenv.locals) s₄) X.xe s3:=by
 refine Nb hcap.nocell (by intro y hy;simp at hy) (λh₁ hns₁ hsb₁=>?_) hcap.kind;have old:∀b o,s3.heap.get? b=some o->h₁.get? b=some o:=λb o e=>hsb₁.extBut b o (JG (Jz e)) (Jn _ e)
 have neC:∀b∈fp,b≠s3.heap.objs.size:=λb hb=>by
  obtain⟨o,e,_⟩:=T.obj _ _ st b hb;exact JG (Jz e)
 have nofs:∀{b:NP},b≠X.env.locals->b ∉ X.fs->b ∉ frs X.stack:=λ{b} h1 h2 z=>(Jl.1 (I3.stkSub b z)).elim h1 h2
 have IY:Inv (cxC X N scope cl s3.heap.objs.size fp pins s3 H3) [] (bS k cap σ) H3 { s3 with heap:=h₁,toks:=s3.toks+([]:List (Str×NO)).length }:=by
  refine⟨⟨I3.ok.mod,hcap.kind,I3.ok.glob,I3.ok.blt,Jq _,λx y c h1 h2=>I3.ok.inj x y c (hcl h1) (hcl h2),λx hx=>hhas x (fS hcap.nocell hx),λx c h=>absurd (show false=true from h) JI,I3.ok.hd,I3.ok.frames,.inl rfl,
   λb hb=>⟨neC b hb,λx c e=>(f3 b hb).2.2.2.2.1 x c (hcl e)⟩,I3.bs,JM I3.ok.bsz I3.sz,λb o e hb=>?_,λb hb=>nofs (f3 b hb).2.1 (f3 b hb).2.2.1,I3.stack,I3.stkFree⟩,
   rfl,I3.bare,Un.kept old,⟨_,hns₁,λi x v e1 e2 e3=>?_⟩,λx c e=>?_,I3.hok.fresh (Jq _),λx c e=>I3.freeC x c (hcl e),λp hp=>?_,I3.hok.kept old,?_⟩
  .rcases(f3 b hb).2.2.2.1 with z | z
   .exact I3.ok.noex b o e z
   .exact absurd (JH (Jz e) (JM I3.ok.bsz z)) (KD _)
  .by_cases hi:i<k
   .unfold bS at e2;rw[JL (by simpa using hi),Ki,Jk hi]at e2;cases e2
   .obtain⟨d,rfl⟩:∃d,i=k+d:=⟨i-k,by omega⟩;unfold bS at e2;rw[JR (by simp),KG,Nat.add_sub_cancel_left,Js]at e2;obtain⟨j,hj,hv⟩:=JJ.1 e2;have hσ:σ[j]? = some (some v):=by
     cases q:σ[j]? with
     | none=>rw[q]at hv;cases hv
     | some o=>rw[q]at hv;exact Kk some hv
    have e1':(N.drop k)[d]? = some x:=by rw[Mu];exact e1
    have hx:X.N[j]? = some x:=by
     have z:=Kk (λl=>l[d]?) hcap.capx;simp only[Js,hj,e1',LD]at z;exact Jt z
    have hfr:=hcap.capf x (JW e1');have hfm:=Kz hfr;have hok:=hcap.free _ hfm rfl;rw[<-hosc]at hok;obtain⟨m,hn,hl⟩:=I3.loc;obtain⟨u,r,l⟩:=hl j x v hx hσ (.inr hok);refine⟨u,r,?_⟩;rcases l with ⟨hk,_⟩ | ⟨hk,c,hc1,hc2⟩
    .have hk:X.env.scope.names.lookup x=some .local:=hk;rcases hok with z | z <;> (rw[hk]at z;cases z)
    .obtain⟨c',hc'⟩:=hhas x hfm;have:c'=c:=Jt ((hcl hc').symm.trans hc1);subst this;exact .inr ⟨dg hfr,c',hc',hc2.keeps old⟩
  .obtain⟨v,z⟩:=I3.cell x c (hcl e);exact⟨v,z.keeps old⟩
  .have hp:p∈(X.pn++pins)++[]:=hp;rw[Kg]at hp;obtain⟨a1,a2,a3,a4,a5⟩:=I3.pin p hp;exact⟨old _ _ a1,a2,JG (Jz a1),nofs a3 a4,a5⟩
  .show(bS k cap σ).length=N.length;unfold bS;rw[JX,KG,Jf,hcap.len]
 have stat:∀{H':Hp},(∀b∈fp,H' b=none)->∀b∈fp,gp (cxC X N scope cl s3.heap.objs.size fp pins s3 H3) [] H' b:=λ{H'} hn b hb=>by
  obtain⟨a0,a1,a2,a3,a4,a5⟩:=f3 b hb;refine⟨hn b hb,neC b hb,nofs a1 a2,.inl hb,λx c e=>a4 x c (hcl e),λp hp=>a5 p ?_⟩;have hp:p∈(X.pn++pins)++[]:=hp;rwa [Kg]at hp
 have loop:codeAny (model X.prog X.w) X.A (.compLoop (.ListComp elt [⟨tg,iter,ifs,0⟩] scope pos) 0 (.ref it) (.ref D) (compEnvC scope cl s3.heap.objs.size X.env))
   (compPost (model X.prog X.w) X.A X.xe (some (assign (.Name y py) X.env)) (λ_ s'=>∃σ' H',Inv X pins σ' H' s'/\Q σ' H') (.ref D) s3.heap.objs.size) { s3 with heap:=h₁,toks:=s3.toks+([]:List (Str×NO)).length }:=by
  refine cZ (λn s'=>∃i σ' acc H',Inv (cxC X N scope cl s3.heap.objs.size fp pins s3 H3) [] σ' H' s'/\tn i s'.heap/\(∀b∈fp,H' b=none)/\H' D=some (.lst acc)/\W i n σ' acc H') ?_ m0
   ⟨0,_,[],H3,IY,T.keep _ _ _ st λb _ o e=>old b o e,λb hb=>(f3 b hb).1,hD,w0⟩
  rintro n s5 ⟨i,σ5,acc,H5,I5,st5,fr5,hD5,w5⟩;rcases turn i n σ5 acc H5 w5 with ⟨stop,q⟩ | ⟨go,step⟩
  .refine thn (T.done (cxC X N scope cl s3.heap.objs.size fp pins s3 H3) rfl rfl rfl hc i [] s5 σ5 H5 _ I5 (stat fr5) st5 stop) λr s6 ⟨hr,I6⟩=>?_
   subst hr;obtain⟨m,hn,_⟩:=id I6.loc;have I7:Inv X pins σ H5 s6:=I3.call' I6.os I6.base I6.hok I6.bare λb hb=>by
    obtain⟨a0,a1,a2,a3,a4,a5⟩:=f3 b hb;exact⟨a3,a1,a4,a5⟩
   obtain⟨g0,g1,g2,g3,g4,g5⟩:=I3.fpOk (H':=H5) (b:=s3.heap.objs.size) (Jq _) I6.free;obtain⟨o,es,ep,ho,hdat,rest⟩:=id hn;have I7p:Inv X (pins++[(s3.heap.objs.size,o)]) σ H5 s6:=I7.pins_of λp hp=>by
    rcases Jj.1 hp with z | z
    .exact I7.pin p (JA _ z)
    .rw[Ko.1 z];exact⟨ho,g0,g1,g2,λv z=>by have z':o.data = .cell v:=z;rw[hdat]at z';cases z'⟩
   show Of (model X.prog X.w) X.A (assign (.Name y py) X.env (.ref D)) _ _ s6;refine wpAny_assign_Name (O0 I7p hNd hix hLy (v:=.ref D) rfl (λs7 I8=>?_) hfy);have hC7:=(I8.pin (s3.heap.objs.size,o) (JA _ (JA _ (Ko.2 rfl)))).1;refine⟨m,⟨o,es,ep,hC7,hdat,rest⟩,λh' hsb=>?_⟩;exact⟨_,H5,I8.unpinned.turned (t':=s7.toks) (λb o hb e=>(hsb.2 b hb).trans e) g0 g1 g3 g4 g5,q⟩
  .refine thn (T.item (cxC X N scope cl s3.heap.objs.size fp pins s3 H3) rfl rfl rfl hc i [] s5 σ5 H5 _ I5 (stat fr5) st5 go) λr s6 ⟨u,hr,h6⟩=>?_
   subst hr;refine thn h6 λ_ s7 ⟨x,H7,I7,r7,y7,st7,fr7⟩=>?_
   have I7':=I7.pinned (stat fr7) (T.obj _ _ st7);have keepI:∀{s':NQ} {σ':St} {H':Hp},Inv (cxC X N scope cl s3.heap.objs.size fp pins s3 H3) ([]++eV fp s7.heap) σ' H' s'->tn (i+1) s'.heap/\∀b∈fp,H' b=none:=λ{s' σ' H'} I'=>by
    refine⟨T.keep _ _ _ st7 λb hb o e=>(I'.pin (b,o) (JA _ (JA _ (R4 hb e)))).1,λb hb=>?_⟩;obtain⟨o,e,d⟩:=T.obj _ _ st7 b hb;exact(I'.pin (b,o) (JA _ (JA _ (R4 hb e)))).2.1
   refine thn (hg _ _ _ _ _ _ _ s7 σ5 H7 x u _ I7' r7 (step x H7 y7)) λ_ s8 ⟨σ8,H8,I8,q8⟩=>?_
   refine thn (ht _ _ _ _ _ _ _ s8 σ8 H8 _ I8 q8) λok s9 ⟨H9,I9,q9⟩=>?_
   cases ok with
   | false =>
    have q9:H9 D=some (.lst acc)/\∃m',m'<n/\W (i+1) m' σ8 acc H9:=q9;obtain⟨hD9,m',hm,w9⟩:=q9;obtain⟨k1,k2⟩:=keepI I9;exact⟨m',hm,i+1,σ8,acc,H9,I9.unpinned,k1,k2,hD9,w9⟩
   | true =>
    refine thn (he _ _ _ _ _ _ _ s9 σ8 H9 _ I9 q9) λyv s10 ⟨y,H10,I10,r10,hD10,hz,m',hm,w10⟩=>?_
    refine thn (L7 (X:=cxC X N scope cl s3.heap.objs.size fp pins s3 H3) _ s10 σ8 H10 (.ref D) [y] (.ref D) [yv] (λ_ H'=>H'=upd H10 D (.lst (acc++[y]))) I10 rfl (.cons r10 .nil) ⟨D,acc,y,rfl,rfl,hD10,hz,rfl⟩)
     λ_ s11 ⟨_,H11,I11,_,e11⟩=>?_
    subst e11;obtain⟨k1,k2⟩:=keepI I11;exact⟨m',hm,i+1,σ8,acc++[y],_,I11.unpinned,k1,k2,c7,w10⟩
 exact codeAny_compStart_list loop (T.self X.A 0 _ _ _ (T.keep _ _ _ st λb _ o e=>old b o e) loop)
def vM {X:Cx}{y:Str}{py spos:Pos}{ix:Nat}{elt tg iter:NX}{ifs:List NX}{scope osc:NU}{pos:Pos}{N:List Str}{k:Nat}{cap:List Nat}{wi:TI}{g:TG}{tt:TT}{te:TE}
  (hNd:X.N.Nodup) (hix:X.N[ix]? = some y) (hLy:Loc X.env.scope y)
  (hc:X.calm=true) (hosc:X.env.scope=osc) (hcap:Caps X.N osc N k cap scope) (hi:PI X tg iter wi)
  (hg:∀cl C ex pins s H,PG (cxC X N scope cl C ex pins s H) tg g)
  (ht:∀cl C ex pins s H,PTs (cxC X N scope cl C ex pins s H) ifs tt)
  (he:∀cl C ex pins s H,PE (cxC X N scope cl C ex pins s H) elt te)
  (hs:∀x,Ol iter X.env x=pure x:=by intro _;rfl) (hfy:X.fn y=true\/X.env.scope.names.lookup y=some .local:=by first | exact .inl rfl | exact .inr rfl | assumption)
  (hsw:Oh (.ListComp elt [⟨tg,iter,ifs,0⟩] scope pos) (some (.Name y py)) spos.line X.env=pure true:=by rfl) :
  PS X (.Assign [.Name y py] (.ListComp elt [⟨tg,iter,ifs,0⟩] scope pos) spos) (N0 (tLC wi k cap g tt te) (K0 ix)):=by
 intro pins s σ H D0 I h;have hcell:∀y∈scope.names,y.2 = .free->∃c,X.env.cells.lookup y.1=some c:=λy hy hk=>I.ok.has y.1 (by
  show X.env.scope.names.lookup y.1=_\/X.env.scope.names.lookup y.1=_;rw[hosc];exact hcap.free y hy hk)
 let f:Str->NP:=λx=>(X.env.cells.lookup x).getD 0
 have hf:∀y∈scope.names,y.2 = .free->X.env.cells.lookup y.1=some (f y.1):=λy hy hk=>by
  obtain⟨c,e⟩:=hcell y hy hk;show _=some ((X.env.cells.lookup y.1).getD 0);rw[e];rfl
 have hclos:closureFor scope X.env=pure (M6 f scope.names []):=Q3 λy hy hk=>by
  unfold cellOf;rw[hf y hy hk]
 have hcl:∀{x:Str} {c:NP},(M6 f scope.names []).lookup x=some c->X.env.cells.lookup x=some c:=λ{x c} e=>by
  rcases U0 _ _ e with ⟨h1,h2⟩ | h1
  .rw[h2];exact hf (x,.free) h1 rfl
  .simp at h1
 have hhas:∀x,(x,Oq.free)∈scope.names->∃c,(M6 f scope.names []).lookup x=some c:=λx hx=>⟨_,bx _ _ (.inl hx)⟩
 generalize M6 f scope.names []=cl at hclos hcl hhas;rw[exec_Assign_Name_used _ _ _ _ hsw];refine Jg (MT (Jg ?_));show Of _ X.A (do let _ <-comprehension (.ListComp elt [⟨tg,iter,ifs,0⟩] scope pos) scope X.env _ (newList []) false (eval iter X.env) (some (assign (.Name y py) X.env))) _ _ s;refine Jg (KM (wpAny_comprehension_free (use:=some (assign (.Name y py) X.env)) (cl:=cl) (Q:=λ_ s'=>∃σ' H',Inv X pins σ' H' s'/\D0.nx σ' H') rfl hs hclos hcap.kind hcap.loc ?_) (λ_ s' hq=>Jx (Jx hq)) λ_ _ e=>e);refine thn (hi pins s σ H _ I h) λv s1 h1=>thn h1 λitv s2 h2=>?_
 obtain⟨it,fp,tn,J,H2,e,I2,T,st2,f2,q2⟩:=h2;subst e;obtain⟨W,⟨m0,w0⟩,turn⟩:=q2 s2.heap.objs.size (I2.hok.fresh (Jq _));refine Km ?_;have I3:Inv X pins σ (upd H2 s2.heap.objs.size (.lst [])) { s2 with heap:=s2.heap.push { cls:=.type "list",data:=.seq ([]:List NO).toArray } }:=I2.lnew (ys:=[]) (its:=[]) (t':=s2.toks) .nil (Ka _);have lt2:∀b∈fp,b≠s2.heap.objs.size:=λb hb=>by
  obtain⟨o,e,_⟩:=T.obj _ _ st2 b hb;exact JG (Jz e)
 exact tX hNd hix hLy hfy hc hosc hcap hcl hhas hg ht he I3 c7 T (T.keep _ _ (s2.heap.push { cls:=.type "list",data:=.seq ([]:List NO).toArray }) st2 λb _ o e=>Jn _ e) (λb hb=>⟨by rw[a8 (lt2 b hb)];exact(f2 b hb).1,(f2 b hb).2⟩) w0 turn
end
section
section
variable {X:Cx}{K:Fg}
def zE (K:Fg):List V->Hp->VK->Prop:=λxs H Q=>∃(a:NP) (ns:List Int),xs=[.ref a]/\SqL K H a (ns.map V.int)/\ns.length<64 /\
 ∀(p:NP) (ns':List Int),H p=none->ns'.Perm ns->ns'.Pairwise (· <= ·)->Q (.ref p) (upd H p (.lst (ns'.map V.int)))
def oC (hK:X.K=K):D1 X (.builtin "sorted") (zE K):=by
 subst hK;intro pins s σ H xs us Q I r h;obtain⟨a,ns,rfl,hq,h64,q⟩:=h;obtain⟨u,rfl,ru⟩:=P5 r;cases ru;obtain⟨its,rv,p,hz⟩:=I.list hq;have hi:=cm rv;have hlen:its.length=ns.length:=by rw[<-rv.length,Jf]
 refine PyProof.Rows.sorted_ints p.isList hi (by omega) λout ns' a1 a2 a3=>?_
 obtain⟨e,he⟩:=sortedAll_at s.heap its out;have I1:Inv X pins σ (upd H (s.heap.objs.size+1) (.lst (ns'.map V.int))) { s with heap:=sortedAll s.heap its out,toks:=s.toks } :=
  I.laid (a:=s.heap.objs.size+1) (λb o ho=>sortedAll_old ho) (LI _) ⟨by rw[Jf,a2.length_eq,<-Jf (f:=V.int)];exact hz,out.toList,e,fE a1,by rw[he]⟩
 exact⟨.ref (s.heap.objs.size+1),_,I1,rfl,q _ ns' (I.hok.fresh (LI _)) a2 a3⟩
def DK (ta:TA):TE:=λσ H Q=>ta σ H λvs H1=>∃j:Int,vs=[.int j]/\∀p,H1 p=none->Q (.ref p) (upd H1 p (.rng 0 j))
def vQ {a:NX}{ta:TA}{p pos:Pos}(hg:Gl X "range")(hm:X.mg "range" = none)(ha:PA X [a] ta)(hs:Oa [a] X.env=[(false,eval a X.env)]:=by rfl):PE X (.Call (.Name "range" p) [a] [] pos) (DK ta):=by
 intro pins s σ H Q I h;refine Call_ (aK I hg hm boot_range (KR (thn (ha pos pins s σ H _ I h) λus s1 ⟨vs,H1,I1,r1,q1⟩=>?_) hs rfl));obtain⟨j,e,q⟩:=q1;subst e;cases r1 with
 | cons r rr =>
  cases rr;obtain⟨t,rfl⟩:=r;refine call_range_1 ?_;exact⟨.ref s1.heap.objs.size,_,I1.laid (a:=s1.heap.objs.size) (o:=.rng 0 j) (λb o e=>Jn _ e) (Jq _) ⟨_,_,_,JK _ rfl⟩,rfl,q _ (I1.hok.fresh (Jq _))⟩
theorem W5:∀{xs:List V} {us:List NO},xs.length=us.length->(∀(i:Nat) x u,xs[i]? = some x->us[i]? = some u->u6 x u)->l0 xs us
 | [],[],_,_=>.nil
 | [],_::_,e,_=>by simp at e
 | _::_,[],e,_=>by simp at e
 | x::xs,u::us,e,h=>.cons (h 0 x u rfl rfl) (W5 (by simpa using e) λi y v h1 h2=>h (i+1) y v (by simpa using h1) (by simpa using h2))
end
end
section
def isT (a T:String):Bool:=a == T||(a == "bool" && T == "int")
section
variable {X:Cx}{K:Fg}
end
end
section
section
variable {X:Cx}{K:Fg}
end
end
section
section
variable {X:Cx}{K:Fg}
def DC (K:Fg):List V->Hp->VK->Prop:=λxs H Q=>∃(a:NP) (ns:List Int),xs=[.ref a]/\SqT K H a (ns.map V.int)/\ns≠[]/\∀m,m∈ns->(∀n∈ns,m<=n)->Q (.int m) H
def tY (hK:X.K=K)(hc:X.calm=true):D1 X (.builtin "min") (DC K):=by
 subst hK;intro pins s σ H xs us Q I r h;obtain⟨a,ns,rfl,hq,hne,q⟩:=h;obtain⟨u,rfl,ru⟩:=P5 r;cases ru;obtain⟨its,rv,p,hz⟩:=I.tuple hq;have hlen:its.length=ns.length:=by rw[<-rv.length,Jf]
 have hpos:0<ns.length:=Nj.2 hne;have p':s.heap.IsTuple a its.toArray:=p;have hlt:a<s.heap.objs.size:=by obtain⟨o,e,_⟩:=p;exact Jz e
 have hval:∀(i:Nat) (v:NO),its.toArray[i]? = some v->∃t,v = .int (ns.getD i 0) t:=λi v hv=>by
  have hv:its[i]? = some v:=by simpa using hv
  obtain⟨hi,_⟩:=Jm.1 hv;have hb:(ns.map V.int)[i]? = some (V.int (ns.getD i 0)):=by
   rw[Js,Ji (by omega)];simp[List.getD,Ji (show i<ns.length by omega)]
  obtain⟨u,hu,ru⟩:=rv.get hb;rw[hv]at hu;cases hu;exact ru
 refine call_min_walk (Lz p' ?_);have hne':a≠s.heap.objs.size:=JG hlt;refine⟨_,_,_,_,_,_,_,rfl,Walks.tuple (A:=X.A.in1) (I.ok.hd hc) _ a hne' its.toArray,⟨⟨_,JK _ rfl,rfl,rfl⟩,?_⟩,?_,?_,CmpOf.ints_lt (λi=>ns.getD i 0) hval,λv h' tk hP hk=>?_⟩
 .exact p'.at λo e=>Jn _ e
 .intro b hb;rw[MD];have:b=s.heap.objs.size\/b=a:=by simpa using hb
  rcases this with e | e
  .rw[e];exact Lu _
  .rw[e];exact Lf hlt
 .rw[Jw,hlen];exact hpos
 .obtain⟨h1,h2⟩:=argBest_lt (λi=>ns.getD i 0) (its.toArray.size-1);obtain⟨t,rfl⟩:=hval _ v hP;have hsz:its.toArray.size=ns.length:=by rw[Jw,hlen]
  refine⟨.int _,H,I.kept λb o e=>hk b o (by simp;exact JG (Jz e)) (Jn _ e),⟨t,rfl⟩,q _ ?_ λn hn=>?_⟩
  .exact getD_mem (by omega)
  .obtain⟨j,hj,rfl⟩:=mem_getD hn;exact h2 j (by omega)
end
end
end L2
namespace L2
open PySem PyProof.Rows
def lG {prog:NR}{w:NS}{A:NT}{E:NO->NQ->Prop}{s:NQ}{a b:Bool}{Q:NO->NQ->Prop}(h:Q (.bool (decide ((if a then(1:Int) else 0)<if b then 1 else 0))) s) :
  Of (model prog w) A (call (.builtin "int.__lt__") [.bool a,.bool b]) Q E s:=by
 refine Ls PySem.F.slot_bool_lt (T:="bool") rfl entry_int_lt ?_ (args_int_lt _ _);show Of _ _ (ret (.bool (decide ((if a then(1:Int) else 0)<if b then 1 else 0)))) _ _ s;exact Jx ⟨_,rfl,h⟩
def pU {prog:NR}{w:NS}{A:NT}{E:NO->NQ->Prop}{s:NQ}{a b:Bool}{Q:Bool->NQ->Prop}(h:Q (decide ((if a then(1:Int) else 0)<if b then 1 else 0)) s):Of (model prog w) A (oneLt' true (.bool a) (.bool b)) Q E s:=by
 rw[oneLt'_eq];simp only[KL];refine Jg (wpAny_cRoomFor_byValue rfl ?_);refine Jg (wpAny_callSpecialIfBound?_slot (T:="bool") rfl PySem.F.slot_bool_lt (lG ?_));exact Lp h
def Lx (κ:Nat->Int)(i j:Nat):Prop:=κ i < κ j\/(κ i = κ j/\i<j)
structure SB (kd:SortKind) (a0:Array Oo) (st:SortSt):Prop where
 size:(arrOf st).size=a0.size
 kind:kindOf st=kd
 failed:failedOf st=none
 pend:pendingOf st = #[]
def SB.setArr {kd:SortKind}{a0:Array Oo}{st:SortSt}(h:SB kd a0 st){xs:Array Oo}(hp:xs.size=(arrOf st).size):SB kd a0 (PyProof.Rows.setArr st xs):=⟨hp.trans h.size,h.kind,h.failed,h.pend⟩
structure SG (kd:SortKind) (a0:Array Oo) (st:SortSt) (p:Nat->Nat):Prop where
 base:SB kd a0 st
 inj:∀i j,i<a0.size->j<a0.size->p i=p j->i=j
 at_:∀i,i<a0.size->(arrOf st)[i]? = a0[p i]?
 lt:∀i,i<a0.size->p i<a0.size
def iF (prog:NR)(w:NS)(A:NT)(s:NQ)(kd:SortKind)(a0:Array Oo)(κ:Nat->Int):Prop :=
 ∀(i j:Nat) (x y:Oo),i≠j->a0[i]? = some x->a0[j]? = some y->∀(E:NO->NQ->Prop) (Q:Bool->NQ->Prop),Q (decide (κ i < κ j)) s->Of (model prog w) A (keyLt' kd x.1 y.1) Q E s
def SoK (κ:Nat->Int)(p:Nat->Nat)(n:Nat):Prop:=∀i j,i<=j->j<n->κ (p i) <= κ (p j)
def SoS (κ:Nat->Int)(p:Nat->Nat)(n:Nat):Prop:=(∀i j,i<j->j<n->Lx κ (p i) (p j))/\(∀i,n<=i->p i=i)/\∀i,i<n->p i<n
def SoS.sorted {κ:Nat->Int}{p:Nat->Nat}{n:Nat}(h:SoS κ p n):SoK κ p n:=by
 intro i j hij hj;by_cases e:i=j
 .subst e;exact NM _
 .rcases h.1 i j (by omega) hj with q | q
  .exact Int.le_of_lt q
  .exact Int.le_of_eq q.1
def SoS.more {κ:Nat->Int}{p:Nat->Nat}{n m:Nat}(h:SoS κ p n)(hnm:n<=m)(hs:SoK κ p m):SoS κ p m:=by
 refine⟨λi j hij hj=>?_,λi hi=>h.2.1 i (by omega),λi hi=>?_⟩
 .by_cases hjn:j<n
  .exact h.1 i j hij hjn
  .have q:=hs i j (by omega) hj;have ej:=h.2.1 j (by omega);rcases Mv q with q | q
   .exact .inl q
   .refine .inr ⟨q,?_⟩;rw[ej];by_cases hin:i<n
    .have:=h.2.2 i hin;omega
    .rw[h.2.1 i (by omega)];exact hij
 .by_cases hin:i<n
  .have:=h.2.2 i hin;omega
  .rw[h.2.1 i (by omega)];exact hi
section
variable {prog:NR}{w:NS}{A:NT}{E:NO->NQ->Prop}{s:NQ}{a0:Array Oo}{κ:Nat->Int}{kd:SortKind}
def oq {st:SortSt}{p:Nat->Nat}{i j:Nat}{Q:Option Bool->SortSt->Prop}(g:SG kd a0 st p)(hL:iF prog w A s kd a0 κ)(hi:i<a0.size)(hj:j<a0.size)(hij:i≠j)
  (h:Q (some (decide (κ (p i) < κ (p j)))) st):wpS (model prog w) A E s (ltAt' i j) Q st:=by
 have e1:=g.at_ i hi;have e2:=g.at_ j hj;have l1:=g.lt i hi;have l2:=g.lt j hj;have f1:a0[p i]? = some a0[p i]:=getElem?_pos a0 (p i) l1;have f2:a0[p j]? = some a0[p j]:=getElem?_pos a0 (p j) l2;rw[ltAt'_eq];refine Kf (wpS_get ?_);show wpS _ _ _ _ (do let x <-elem' (arrOf st) i;let y <-elem' (arrOf st) j;lt' x y) Q st;rw[elem'_eq,elem'_eq,e1,e2,f1,f2];refine Kf (KI (Kf (KI ?_)));rw[lt'_eq];refine Kf (wpS_get ?_);rw[g.base.kind];refine Kf (wpS_lift (wpAny_attempt (hL _ _ _ _ (λz=>hij (g.inj i j hi hj z)) f1 f2 _ _ ?_)));exact⟨rfl,KI h⟩
def SG.bub {st:SortSt}{p:Nat->Nat}(g:SG kd a0 st p){k l:Nat}(hk:k<a0.size)(hl:l<=k) :
  SG kd a0 (setArr st (bubble (arrOf st) k (k-l))) (λi=>if i=l then p k else if l<i/\i<=k then p (i-1) else p i):=by
 refine⟨g.base.setArr (bubble_size _ _ _),λi j hi hj e=>?_,λi hi=>?_,λi hi=>?_⟩
 .have q:=g.inj;try dsimp only at e
  repeat' split at e
  all_goals first
   | omega
   | (have:=q _ _ (by omega) (by omega) e;omega)
 .have e:=getElem?_bubble (xs:=arrOf st) (src:=k) (by rw[g.base.size];exact hk) (k-l) (by omega) i;rw[show k-(k-l)=l by omega]at e;show(bubble (arrOf st) k (k-l))[i]? = _;rw[e];repeat' split
  .exact g.at_ _ hk
  .exact g.at_ _ (by omega)
  .exact g.at_ _ hi
 .try dsimp only
  repeat' split
  .exact g.lt _ hk
  .exact g.lt _ (by omega)
  .exact g.lt _ hi
def SG.mir {st:SortSt}{p:Nat->Nat}(g:SG kd a0 st p){u v:Nat}(hv:v<=a0.size) :
  SG kd a0 (setArr st (mirror (arrOf st) u v ((v-u) / 2))) (λi=>if u<=i/\i<v then p (u+v-1-i) else p i):=by
 refine⟨g.base.setArr (mirror_size _ _ _ _),λi j hi hj e=>?_,λi hi=>?_,λi hi=>?_⟩
 .have q:=g.inj;try dsimp only at e
  repeat' split at e
  all_goals first
   | omega
   | (have:=q _ _ (by omega) (by omega) e;omega)
 .have e:=getElem?_mirror_all (xs:=arrOf st) (i:=u) (j:=v) (by rw[g.base.size];exact hv) i;show(mirror (arrOf st) u v ((v-u) / 2))[i]? = _;rw[e];repeat' split
  .exact g.at_ _ (by omega)
  .exact g.at_ _ hi
 .try dsimp only
  split
  .exact g.lt _ (by omega)
  .exact g.lt _ hi
def sX {st:SortSt}{p:Nat->Nat}{n ok:Nat}{Q:Bool->SortSt->Prop}(hL:iF prog w A s kd a0 κ)(hn:n<=a0.size)(hok:ok<=n)(hB:SG kd a0 st p)(hs:SoS κ p ok)
  (h:∀st' p',SG kd a0 st' p'->SoS κ p' n->Q true st'):wpS (model prog w) A E s (binarySort' 0 n ok) Q st:=by
 rw[binarySort'_eq];simp only[JZ];refine Kf (wpS_mono (Mw (I:=λk c st'=>c=(none,())/\∃p',SG kd a0 st' p'/\SoS κ p' (min k n))
  (Q:=λc st'=>c=(none,())/\∃p',SG kd a0 st' p'/\SoS κ p' n) ?step ?fin ?init) ?post)
 case post =>
  rintro c st' ⟨rfl,p',hB',hs'⟩
  exact KI (h st' p' hB' hs')
 case init =>
  refine⟨rfl,p,hB,?_⟩
  by_cases h1:ok=0
  .subst h1
   refine hs.more (by omega) λi j hij hj=>?_
   have:i=j:=by omega
   subst this;exact NM _
  .rw[show min (max ok 1) n=ok by omega];exact hs
 case fin =>
  rintro c st' ⟨hc,p',hB',hs'⟩
  refine⟨hc,p',hB',?_⟩
  rwa [show min (max (max ok 1) n) n=n by omega]at hs'
 case step =>
  rintro k c st' hak hkn ⟨rfl,p',hG',hS'⟩
  rw[show min k n=k by omega]at hS'
  have hk:k<a0.size:=by omega
  have hs':=hS'.sorted
  have hB':=hG'.base
  refine Kf (wpS_mono (Mw (I:=λx c st''=>st''=st'/\∃l r,c=(none,l,r)/\l<=r/\r<=k/\r-l<=k-x /\
    (∀i,i<l->κ (p' i) <= κ (p' k))/\(∀i,r<=i->i<k->κ (p' k) < κ (p' i)))
   (Q:=λc st''=>st''=st'/\∃l r,c=(none,l,r)/\l<=k /\
    (∀i,i<l->κ (p' i) <= κ (p' k))/\(∀i,l<=i->i<k->κ (p' k) < κ (p' i))) ?istep ?ifin ?iinit) ?ipost)
  case iinit=>exact⟨rfl,0,k,rfl,by omega,by omega,by omega,λi hi=>by omega,λi h1 h2=>by omega⟩
  case ifin =>
   rintro c st'' ⟨rfl,l,r,rfl,hlr,hrk,hm,hlo,hhi⟩
   have:l=r:=by omega
   subst this
   exact⟨rfl,l,l,rfl,hrk,hlo,hhi⟩
  case istep =>
   rintro x c st'' _ hxk ⟨rfl,l,r,rfl,hlr,hrk,hm,hlo,hhi⟩
   dsimp only
   by_cases hge:l >= r
   .rw[Jk hge]
    have:l=r:=by omega
    subst this
    exact KI ⟨rfl,l,l,rfl,hrk,hlo,hhi⟩
   .rw[Jo hge]
    refine Kf (oq hG' hL hk (by omega) (by omega) ?_)
    by_cases hless:κ (p' k) < κ (p' ((l+r) / 2))
    .simp only[hless,MP,KL]
     refine KI ⟨rfl,l,(l+r) / 2,rfl,by omega,by omega,by omega,hlo,λi h1 h2=>?_⟩
     exact Int.lt_of_lt_of_le hless (hs' _ _ h1 h2)
    .simp only[hless,Nc,Kc,KH]
     refine KI ⟨rfl,(l+r) / 2+1,r,rfl,by omega,by omega,by omega,λi h1=>?_,hhi⟩
     exact Int.le_trans (hs' i ((l+r) / 2) (by omega) (by omega)) (Int.not_lt.1 hless)
  case ipost =>
   rintro c st'' ⟨rfl,l,r,rfl,hlk,hlo,hhi⟩
   show wpS _ _ _ _ (do moveDown' k l;pure (ForInStep.yield (none,()))) _ _
   rw[moveDown'_eq]
   refine Kf (wpS_modify (KI ⟨rfl,_,hG'.bub hk hlk,?_⟩))
   rw[show min (k+1) n=k+1 by omega]
   have ek:=hS'.2.1 k (Jq _)
   have lo':∀i,i<l->Lx κ (p' i) (p' k):=λi hi=>by
    have q:=hlo i hi;rcases Mv q with q | q
    .exact .inl q
    .refine .inr ⟨q,?_⟩;rw[ek];exact hS'.2.2 i (by omega)
   have hi':∀i,l<=i->i<k->Lx κ (p' k) (p' i):=λi h1 h2=>by
    have q:=hhi i h1 h2;exact .inl q
   refine⟨λi j hij hj=>?_,λi hi=>?_,λi hi=>?_⟩
   .dsimp only
    repeat' split
    all_goals first
     | (exfalso;omega)
     | exact lo' _ (by omega)
     | exact hi' _ (by omega) (by omega)
     | exact hS'.1 _ _ (by omega) (by omega)
   .dsimp only
    rw[Jo (by omega),Jo (by omega)]
    exact hS'.2.1 i (by omega)
   .dsimp only
    repeat' split
    .rw[ek];omega
    .have:=hS'.2.2 (i-1) (by omega);omega
    .have:=hS'.2.2 i (by omega);omega
def vJ {st:SortSt}{p:Nat->Nat}{a nrem:Nat}{Q:AscSt->SortSt->Prop}(hL:iF prog w A s kd a0 κ)(hn:nrem<=a0.size)(ha:1<=a)(han:a<=nrem)(hG:SG kd a0 st p)
  (hs:SoK κ p a)
  (h:∀n,a<=n->n<=nrem->SoK κ p n->(n=nrem \/ κ (p n) < κ (p (n-1)))->Q (none,n) st) :
  wpS (model prog w) A E s (ascLoop a nrem) Q st:=by
 unfold ascLoop;refine Mw (I:=λx c st'=>st'=st/\c=(none,x)/\SoK κ p x) ?step ?fin ⟨rfl,rfl,hs⟩;case fin =>
  rintro c st' ⟨rfl,rfl,hs'⟩
  rw[show max a nrem=nrem by omega]at hs' ⊢
  exact h nrem han (Jq _) hs' (.inl rfl)
 case step =>
  rintro x c st' hax hxn ⟨rfl,rfl,hs'⟩
  dsimp only
  refine Kf (oq hG hL (by omega) (by omega) (by omega) ?_)
  by_cases hless:κ (p x) < κ (p (x-1))
  .simp only[hless,MP,KL]
   exact KI (h x hax (by omega) hs' (.inr hless))
  .simp only[hless,Nc,Kc,KH]
   refine KI ⟨rfl,rfl,λi j hij hj=>?_⟩
   by_cases hjx:j<x
   .exact hs' i j hij hjx
   .have hj':j=x:=by omega
    subst hj'
    by_cases hi':i=j
    .subst hi';exact NM _
    .exact Int.le_trans (hs' i (j-1) (by omega) (by omega)) (Int.not_lt.1 hless)
def DoS (κ:Nat->Int)(p:Nat->Nat)(n:Nat):Prop:=(∀i j,i<j->j<n->Lx κ (p j) (p i))/\(∀i,n<=i->p i=i)/\∀i,i<n->p i<n
def nI {st:SortSt}{p:Nat->Nat}{n nrem:Nat}{Q:Option Nat->SortSt->Prop}(hL:iF prog w A s kd a0 κ)(hn:nrem<=a0.size)(h1:1<=n)(hnn:n<=nrem)(hB:SG kd a0 st p)
  (hs:DoS κ p n) (h:∀m st' p',SG kd a0 st' p'->1<=m->m<=nrem->SoS κ p' m->Q (some m) st') :
  wpS (model prog w) A E s (tail3 n nrem) Q st:=by
 unfold tail3;refine Kf (wpS_reverse ?_);have hG:=hB.mir (u:=0) (v:=n) (by omega);have hS:SoS κ (λi=>if 0<=i/\i<n then p (0+n-1-i) else p i) n:=by
  refine⟨λi j hij hj=>?_,λi hi=>?_,λi hi=>?_⟩
  .dsimp only;rw[Jk (by omega),Jk (by omega)];exact hs.1 _ _ (by omega) (by omega)
  .dsimp only;rw[Jo (by omega)];exact hs.2.1 i hi
  .dsimp only;rw[Jk (by omega)];exact hs.2.2 _ (by omega)
 exact Kf (vJ hL hn h1 hnn hG hS.sorted λm hm1 hm2 hsm _=>KI (h m _ _ hG (by omega) hm2 (hS.more hm1 hsm)))
def GoS (κ:Nat->Int)(p:Nat->Nat)(g n:Nat):Prop :=
 DoS κ p g/\g<n/\(∀i,g<=i->i<n->κ i = κ (n-1))/\∀i,i<g->κ (n-1) < κ (p i)
def GoS.close {st:SortSt}{p:Nat->Nat}{g n:Nat}(hG:SG kd a0 st p)(h:GoS κ p g n)(hn:n<=a0.size):DoS κ (λi=>if g<=i/\i<n then p (g+n-1-i) else p i) n:=by
 obtain⟨hd,hg,he,hl⟩:=h;refine⟨λi j hij hj=>?_,λi hi=>?_,λi hi=>?_⟩
 .dsimp only;by_cases h1:g<=i
  .rw[Jk (by omega),Jk (by omega),hd.2.1 _ (by omega),hd.2.1 _ (by omega)];refine .inr ⟨?_,by omega⟩;rw[he _ (by omega) (by omega),he (g+n-1-i) (by omega) (by omega)]
  .by_cases h2:g<=j
   .rw[Jk (by omega),Jo (by omega),hd.2.1 _ (by omega)];refine .inl ?_;rw[he _ (by omega) (by omega)];exact hl i (by omega)
   .rw[Jo (by omega),Jo (by omega)];exact hd.1 i j hij (by omega)
 .dsimp only;rw[Jo (by omega)];exact hd.2.1 i (by omega)
 .dsimp only;split
  .rw[hd.2.1 _ (by omega)];omega
  .have:=hd.2.2 i (by omega);omega
def GoS.close1 {p:Nat->Nat}{g n:Nat}(h:GoS κ p g n)(e:n=g+1):DoS κ p n:=by
 obtain⟨hd,hg,he,hl⟩:=h;subst e;refine⟨λi j hij hj=>?_,λi hi=>hd.2.1 i (by omega),λi hi=>?_⟩
 .by_cases h2:j<g
  .exact hd.1 i j hij h2
  .have:j=g:=by omega
   subst this;rw[hd.2.1 j (Jq _)];exact .inl (hl i hij)
 .by_cases h2:i<g
  .have:=hd.2.2 i h2;omega
  .rw[hd.2.1 i (by omega)];exact hi
def yE {st:SortSt}{p:Nat->Nat}{n nrem:Nat}{Q:DescSt->SortSt->Prop}(hL:iF prog w A s kd a0 κ)(hn:nrem<=a0.size)(h1:1<=n)(hnn:n<=nrem)(hB:SG kd a0 st p)
  (hs:GoS κ p (n-1) n)
  (h:∀m neq st' p',SG kd a0 st' p'->n<=m->m<=nrem->neq+1<=m->GoS κ p' (m-(neq+1)) m->Q (none,m,neq) st') :
  wpS (model prog w) A E s (descLoop n nrem) Q st:=by
 unfold descLoop;refine Mw (I:=λx c st'=>∃neq p',c=(none,x,neq)/\SG kd a0 st' p'/\neq+1<=x/\GoS κ p' (x-(neq+1)) x) ?step ?fin ⟨0,p,rfl,hB,by omega,hs⟩;case fin =>
  rintro c st' ⟨neq,p',rfl,hG',hq,hS'⟩
  rw[show max n nrem=nrem by omega]at hq hS' ⊢
  exact h nrem neq st' p' hG' hnn (Jq _) hq hS'
 case step =>
  rintro x c st' hax hxn ⟨neq,p',rfl,hG',hq,hS'⟩
  dsimp only
  refine Kf (oq hG' hL (by omega) (by omega) (by omega) ?_)
  have k1:p' x=x:=hS'.1.2.1 x (by omega)
  have k2:p' (x-1)=x-1:=hS'.1.2.1 (x-1) (by omega)
  rw[k1,k2]
  have put:∀{p2:Nat->Nat},κ x < κ (x-1)->DoS κ p2 x->(∀i,i<x->κ (x-1) <= κ (p2 i))->GoS κ p2 (x+1-(0+1)) (x+1):=by
   intro p2 hless d ge;rw[show x+1-(0+1)=x by omega];refine⟨d,by omega,λi h1 h2=>?_,λi hi=>?_⟩
   .rw[show i=x by omega];rfl
   .exact Int.lt_of_lt_of_le hless (ge i hi)
  have ge0:∀i,i<x->κ (x-1) <= κ (p' i):=λi hi=>by
   by_cases hg:i<x-(neq+1)
   .exact Int.le_of_lt (hS'.2.2.2 i hg)
   .rw[hS'.1.2.1 i (by omega)];exact Int.le_of_eq (hS'.2.2.1 i (by omega) hi).symm
  by_cases hless:κ x < κ (x-1)
  .simp only[hless,MP,KL]
   by_cases hneq:neq > 0
   .rw[Jk hneq]
    have hG2:=hG'.mir (u:=x-(neq+1)) (v:=x) (by omega)
    refine Kf (wpS_reverse (KI ⟨0,_,rfl,hG2,by omega,put hless (hS'.close hG' (by omega)) λi hi=>?_⟩))
    try dsimp only
    split
    .exact ge0 _ (by omega)
    .exact ge0 _ hi
   .rw[Jo hneq]
    exact KI ⟨0,p',rfl,hG',by omega,put hless (hS'.close1 (by omega)) ge0⟩
  .simp only[hless,Nc,Kc,KH]
   refine Kf (oq hG' hL (by omega) (by omega) (by omega) ?_)
   rw[k1,k2]
   by_cases hlarger:κ (x-1) < κ x
   .simp only[hlarger,MP,KL]
    exact KI (h x neq st' p' hG' hax (by omega) hq hS')
   .simp only[hlarger,Nc,Kc,KH]
    have heqx:κ x = κ (x-1):=by omega
    refine KI ⟨neq+1,p',rfl,hG',by omega,?_⟩
    rw[show x+1-(neq+1+1)=x-(neq+1) by omega]
    refine⟨hS'.1,by omega,λi h1 h2=>?_,λi hi=>?_⟩
    .rw[show x+1-1=x by omega]
     by_cases hix:i=x
     .subst hix;rfl
     .rw[heqx];exact hS'.2.2.1 i h1 (by omega)
    .rw[show x+1-1=x by omega,heqx];exact hS'.2.2.2 i hi
def fV {st:SortSt}{p:Nat->Nat}{n nrem:Nat}{Q:Option Nat->SortSt->Prop}(hL:iF prog w A s kd a0 κ)(hn:nrem<=a0.size)(hnn:n+1<=nrem)(hB:SG kd a0 st p)
  (hs:GoS κ p n (n+1)) (h:∀m st' p',SG kd a0 st' p'->1<=m->m<=nrem->SoS κ p' m->Q (some m) st') :
  wpS (model prog w) A E s (descPart n nrem) Q st:=by
 unfold descPart;refine Kf (wpS_lift (Md ⟨rfl,?_⟩));refine Kf (yE hL hn (by omega) hnn hB hs λm neq st' p' hG' hm1 hm2 hq hS'=>?_);dsimp only;by_cases hneq:neq > 0
 .rw[Jk hneq];exact Kf (wpS_reverse (nI hL hn (by omega) hm2 (hG'.mir (by omega)) (hS'.close hG' (by omega)) h))
 .rw[Jo hneq];exact nI hL hn (by omega) hm2 hG' (hS'.close1 (by omega)) h
def vq {st:SortSt}{nrem:Nat}{Q:Option Nat->SortSt->Prop}(hL:iF prog w A s kd a0 κ)(hn:nrem<=a0.size)(h1:1<=nrem)(hB:SG kd a0 st id)
  (h:∀m st' p',SG kd a0 st' p'->1<=m->m<=nrem->SoS κ p' m->Q (some m) st') :
  wpS (model prog w) A E s (countRun' 0 nrem) Q st:=by
 rw[countRun0_eq];have S0:SoS κ id 0:=⟨λi j _ hj=>by omega,λi _=>rfl,λi hi=>by omega⟩;have one:SoK κ id 1:=λi j hij hj=>by
  have:i=j:=by omega
  subst this;exact NM _
 refine Kf (vJ hL hn (Jq 1) h1 hB one λn hn1 hn2 hsn hor=>?_);dsimp only;by_cases hnn:n=nrem
 .rw[Jk (by simpa using hnn)];exact KI (h n st id hB hn1 hn2 (S0.more (by omega) hsn))
 .rw[Jo (by simpa using hnn)];have hlt:κ n < κ (n-1):=hor.resolve_left hnn;by_cases hgt:n > 1
  .rw[Jk hgt];refine Kf (oq hB hL (by omega) (by omega) (by omega) ?_);simp only[id];by_cases hrose:κ 0 < κ (n-1)
   .simp only[hrose,MP,KL];exact KI (h n st id hB hn1 hn2 (S0.more (by omega) hsn))
   .simp only[hrose,Nc,Kc,KH];have hall:∀j,j<n->κ j = κ (n-1):=by
     intro j hk;have a1:κ 0 <= κ j:=hsn 0 j (by omega) hk;have a2:κ j <= κ (n-1):=hsn j (n-1) (by omega) (by omega);omega
    refine Kf (wpS_reverse (fV hL hn (by omega) (hB.mir (by omega)) ?_ h));refine⟨⟨λi j hij hj=>?_,λi hi=>?_,λi hi=>?_⟩,by omega,λi h1 h2=>?_,λi hi=>?_⟩
    .dsimp only;rw[Jk (by omega),Jk (by omega)];refine .inr ⟨?_,by simp only[id];omega⟩;simp only[id];rw[hall _ (by omega),hall (0+n-1-i) (by omega)]
    .dsimp only;rw[Jo (by omega)];rfl
    .dsimp only;rw[Jk (by omega)];simp only[id];omega
    .rw[show i=n by omega];rfl
    .dsimp only;rw[Jk (by omega)];simp only[id]at hlt ⊢;rw[hall (0+n-1-i) (by omega),show n+1-1=n by omega];exact hlt
  .rw[Jo hgt];have hn1':n=1:=by omega
   subst hn1';refine fV hL hn (by omega) hB ⟨⟨λi j hij hj=>by omega,λi hi=>rfl,λi hi=>hi⟩,by omega,λi h1 h2=>?_,λi hi=>?_⟩ h
   .rw[show i=1 by omega]
   .rw[show i=0 by omega];exact hlt
def qC (κ:Nat->Int)(a0:Array Oo)(st:SortSt):Prop :=
 failedOf st=none/\pendingOf st = #[(0,a0.size,0)]/\(arrOf st).size=a0.size/\∃p,(∀i,i<a0.size->(arrOf st)[i]? = a0[p i]?)/\SoS κ p a0.size
def SG.done {st:SortSt}{p:Nat->Nat}(g:SG kd a0 st p)(h:SoS κ p a0.size):qC κ a0 (setPending st ((pendingOf st).push (0,a0.size,0))) :=
 ⟨g.base.failed,by show(pendingOf st).push _=_;rw[g.base.pend];rfl,g.base.size,p,g.at_,h⟩
def qE {st:SortSt}{Q:Unit->SortSt->Prop}(hL:iF prog w A s kd a0 κ)(hB:SG kd a0 st id)(h2:2<=a0.size)(h64:a0.size<64)
  (h:∀st',failedOf st'=none->(arrOf st').size=a0.size->(∃p,(∀i,i<a0.size->(arrOf st')[i]? = a0[p i]?)/\SoS κ p a0.size)->Q () st'):wpS (model prog w) A E s sortRuns' Q st:=by
 rw[sortRuns'_eq];refine Kf (wpS_get ?_);dsimp only;have hmr:minRun' a0.size a0.size 0=a0.size:=by
  obtain⟨f,hf⟩:∃f,a0.size=f+1:=⟨a0.size-1,by omega⟩;have:minRun' (f+1) a0.size 0=a0.size:=by rw[minRun'_succ,Jk h64];rfl
  rwa [<-hf]at this
 simp only[hB.base.size,hmr];refine Kf (wpS_mono (Mw
  (I:=λx c st'=>(x=0/\c=(none,0)/\SG kd a0 st' id)\/(1<=x/\c=(none,a0.size)/\qC κ a0 st'))
  (Q:=λc st'=>c=(none,a0.size)/\qC κ a0 st') ?step ?fin (.inl ⟨rfl,rfl,hB⟩)) ?post)
 case fin =>
  rintro c st' (⟨hx,_,_⟩ | ⟨_,hc,hD⟩)
  .omega
  .exact⟨hc,hD⟩
 case step =>
  rintro x c st' _ hx (⟨rfl,rfl,hB'⟩ | ⟨hx1,rfl,hD⟩)
  .dsimp only
   rw[Jo (by omega)]
   simp only[NF,Nat.min_self,JZ]
   refine Kf (vq hL (Jq _) (by omega) hB' λm st2 p2 hB2 hm1 hm2 hs2=>?_)
   dsimp only
   by_cases hlt:m<a0.size
   .rw[Jk hlt]
    refine Kf (wpS_lift (Md ⟨rfl,?_⟩))
    refine Kf (sX hL (Jq _) hm2 hB2 hs2 λst3 p3 hB3 hs3=>?_)
    simp only[Nw,Kc,KH]
    refine Kf (wpS_get ?_)
    have hb:(pendingOf st3).back? = none:=by rw[hB3.base.pend];rfl
    rw[hb]
    dsimp only
    exact Kf (wpS_modify (KI (.inr ⟨by omega,rfl,hB3.done hs3⟩)))
   .rw[Jo hlt]
    have hm:m=a0.size:=by omega
    subst hm
    refine Kf (wpS_get ?_)
    have hb:(pendingOf st2).back? = none:=by rw[hB2.base.pend];rfl
    rw[hb]
    dsimp only
    exact Kf (wpS_modify (KI (.inr ⟨by omega,rfl,hB2.done hs2⟩)))
  .dsimp only
   rw[Jk (Jq _)]
   exact KI ⟨rfl,hD⟩
 case post =>
  rintro c st' ⟨rfl,hD⟩
  dsimp only
  refine Kf (wpS_mono (Mw (I:=λ_ c st''=>st''=st'/\c=(none,())) (Q:=λc st''=>st''=st'/\c=(none,())) ?_ (λ_ _ hh=>hh) ⟨rfl,rfl⟩) ?_)
  .rintro x c st'' _ _ ⟨rfl,rfl⟩
   refine Kf (wpS_get ?_)
   rw[Jk (by rw[hD.2.1];exact Jq 1)]
   exact KI ⟨rfl,rfl⟩
  .rintro c st'' ⟨rfl,rfl⟩
   exact KI (h _ hD.1 hD.2.2.1 hD.2.2.2)
end
end L2
namespace L2
open PySem PySem.Spec PyProof.Rows PySem.W
section
def cdO (c:NP)(q:Str):HO:=.ext λh=>h.CodeRec (.ref c) q
def jy (H:Hp)(P:NP)(q:Str):Prop:=∃ps,H P=some (.tbl ps)/\TriplesOk ps.toList/\∀pos cv,codeAmong pos ps.toList=some cv->∃c,cv = .ref c/\H c=some (cdO c q)
def pS {q p:Pos}{c cv:NO}:∀(l:List NO),TriplesOk l->codeAmong q (l++[rawInt p.line,rawInt p.col,c])=some cv->codeAmong q l=some cv\/cv=c:=by
 intro l h e;fun_induction TriplesOk l with
 | case1 =>
  simp only[Ku,codeAmong,rawInt]at e
  split at e
  .exact .inr (Jt e).symm
  .cases e
 | case2 a b c' d e' rest ih =>
  simp only[KF,codeAmong]at e ⊢
  split
  .rename_i h1
   rw[Jk h1]at e
   exact .inl e
  .rename_i h1
   rw[Jo h1]at e
   exact ih h e
 | case3=>exact h.elim
def BMd (base:NY)(mg:Str->Option NO):Prop:=∃bm ob,mg "__builtins__" = some (.ref bm)/\bm≠builtinsNs/\base.get? bm=some ob/\ob.cls = .type "module" /\ ob.dict=some builtinsNs/\ob.data = .plain
def CI (P:NP)(q:Str)(H H':Hp):Prop:=H'=H\/∃ps more c,H P=some (.tbl ps)/\H c=none/\c≠P/\H'=upd (upd H P (.tbl (ps++more))) c (cdO c q)
def xo {c:NP}{q:Str}:∀h1 h2:NY,h1.CodeRec (.ref c) q->(∀o,h1.get? c=some o->h2.get? c=some o)->h2.CodeRec (.ref c) q:=λh1 h2 ⟨c',o,vs,t,e,g,r⟩ k=>by
 cases e;exact⟨c,o,vs,t,rfl,k o g,r⟩
section
variable {X:Cx}{pins:List (NP×Ob)}{σ:St}{H:Hp}{s:NQ}
def Inv.pin1 {a:NP}{o:Ob}(I:Inv X pins σ H s)(ho:s.heap.get? a=some o)(hH:H a=none)(hL:a≠X.env.locals)(hf:a ∉ X.fs)(hd:∀v,o.data ≠ .cell v):Inv X ((a,o)::pins) σ H s :=
 I.pins_of λp hp=>by
  rcases Jl.1 hp with rfl | hp
  .exact⟨ho,hH,hL,hf,hd⟩
  .exact I.pin p (JA _ hp)
def Inv.pinFresh {a:NP}{o:Ob}{s0:NQ}{pins0:List (NP×Ob)}{σ0:St}{H0:Hp}(I:Inv X pins σ H s)(I0:Inv X pins0 σ0 H0 s0)(ho:s.heap.get? a=some o)(h:s0.heap.objs.size<=a)(hH:H a=none)(hd:∀v,o.data ≠ .cell v):Inv X ((a,o)::pins) σ H s :=
 I.pin1 ho hH (λe=>absurd (JH I0.lt h) (by rw[e];exact KD _)) (I0.nofs h) hd
def vw {params:Arguments}{body:NX}{scope:NU}{lpos:Pos}{c P:NP}{q:Str}{cl:List (Str×NP)}{Q:NO->NQ->Prop}(I:Inv X pins σ H s)(hdef:defaultsOf params X.env=([],[]))(hcl:closureFor scope X.env=pure cl)
  (hcode:X.env.code = .ref c) (C:CodeHd X.base c P) (BM:BMd X.base X.mg) (T:jy H P q) (hq:X.env.qual ++ "<lambda>" = q)
  (h:∀f c' ctv H' s',CI P q H H'->jy H' P q->H' c'=some (cdO c' q)->Inv X ((f,kla_obj "<lambda>" q params body scope cl ((X.mg "__name__").getD .none) c' ctv)::pins) σ H' s'->Q (.ref f) s') :
  Of (model X.prog X.w) X.A (eval (.Lambda params body scope lpos) X.env) Q X.xe s:=by
 subst hq;obtain⟨ps,hP,ht,hall⟩:=T;have hP':s.heap.get? P=some (tabObj ps):=I.hok P _ hP;have hg:s.heap.Ns Og X.mg:=I.mod.glob.keeps I.bk;obtain⟨bm,ob,b1,b2,b3,b4,b5,b6⟩:=BM;have hgP:Og≠P:=λq=>by
  obtain⟨o,es,ep,e,hd,_⟩:=hg;rw[q,hP']at e;cases e;cases hd
 have hbP:bm≠P:=λq=>by
  have e:=I.bk _ _ b3;rw[q,hP']at e;cases e;cases b4
 have hbG:bm≠Og:=λq=>by
  obtain⟨o,es,ep,e,hd,_⟩:=I.mod.glob;rw[q,e]at b3;cases b3;rw[hd]at b6;cases b6
 have hB:s.heap.BuiltinsAt X.mg P:=⟨bm,ob,b1,b2,hbG,hbP,I.bk _ _ b3,b4,b5,b6⟩;refine kla_eval hdef ?_;cases hf:codeAmong lpos ps.toList with
 | some cv =>
  obtain⟨c',rfl,hc'⟩:=hall _ _ hf;refine kla_makeFunctionHit hcl I.ok.glob hg hcode (C.keeps I.bk) hP' ht hf hB λctv h' tk hk hsz=>?_
  have I1:Inv X pins σ H { s with heap:=h'.push (kla_obj "<lambda>" (X.env.qual ++ "<lambda>") params body scope cl ((X.mg "__name__").getD .none) c' ctv),toks:=tk }:=I.kept λb o e=>Jn _ (hk b o e)
  exact h _ c' ctv H _ (.inl rfl) ⟨ps,hP,ht,hall⟩ hc' (I1.pinFresh I (JK _ rfl) hsz (I.hok.fresh hsz) (λv e=>nomatch e))
 | none =>
  refine kla_makeFunction hcl I.ok.glob hg hcode (C.keeps I.bk) hP' ht hf hgP hB λc' ctv h' tk hx hge hlt hrec htb=>?_
  have hcP:c'≠P:=λe=>absurd (JH (Jz hP') hge) (by rw[e];exact KD _)
  have hcn:H c'=none:=I.hok.fresh hge;have hk:∀b o,b≠P->s.heap.get? b=some o->(h'.push (kla_obj "<lambda>" (X.env.qual ++ "<lambda>") params body scope cl ((X.mg "__name__").getD .none) c' ctv)).get? b=some o:=λb o hb e=>Jn _ (hx b o hb e)
  have hrec':=hrec.push (kla_obj "<lambda>" (X.env.qual ++ "<lambda>") params body scope cl ((X.mg "__name__").getD .none) c' ctv);have htb':=Jn (kla_obj "<lambda>" (X.env.qual ++ "<lambda>") params body scope cl ((X.mg "__name__").getD .none) c' ctv) htb;have hsz:s.heap.objs.size<=h'.objs.size:=JM hge (KA hlt);generalize hH':upd (upd H P (.tbl (ps ++ #[rawInt lpos.line,rawInt lpos.col,.ref c']))) c' (cdO c' (X.env.qual ++ "<lambda>"))=H';have a1:H' c'=some (cdO c' (X.env.qual ++ "<lambda>")):=by rw[<-hH'];exact c7
  have a2:H' P=some (.tbl (ps ++ #[rawInt lpos.line,rawInt lpos.col,.ref c'])):=by rw[<-hH',a8 hcP.symm];exact c7
  have a3:∀b,b≠c'->b≠P->H' b=H b:=λb h1 h2=>by rw[<-hH',a8 h1,a8 h2]
  have ne:∀b o,H b=some o->b≠c':=λb o e z=>by rw[z,hcn]at e;cases e
  generalize hh2:h'.push (kla_obj "<lambda>" (X.env.qual ++ "<lambda>") params body scope cl ((X.mg "__name__").getD .none) c' ctv)=h2 at hk hrec' htb';have un:Un X.fs [] H H' s.heap h2:=by
   refine⟨λb o e n _ _=>hk b o (λz=>by rw[z,hP]at n;cases n) e,λb o e n _ _=>⟨o.slots,hk b o (λz=>by rw[z,hP]at n;cases n) e⟩,λb o e n _=>?_,λb o e _=>?_,λb xs e=>?_,λb o u e=>?_,λb qs e=>?_⟩
   .rw[a3 b (λz=>absurd (JH (Jz e) hge) (by rw[z];exact KD _)) λz=>by rw[z,hP]at n;cases n];exact n
   .by_cases hb:b=P
    .exact⟨_,by rw[hb];exact htb'⟩
    .exact⟨o,hk b o hb e⟩
   .rw[a3 b (ne b _ e) λz=>by rw[z,hP]at e;cases e];exact e
   .rw[a3 b (ne b _ e) λz=>by rw[z,hP]at e;cases e];exact e
   .by_cases hb:b=P
    .subst hb;rw[hP]at e;cases e;exact⟨_,a2⟩
    .exact⟨#[],by rw[a3 b (ne b _ e) hb,e];simp⟩
  have ok:HOk X.prog X.w H' h2:=by
   intro b u e;by_cases hb:b=c'
   .subst hb;rw[a1]at e;cases e;obtain⟨c2,o,vs,t,e2,g,r⟩:=id hrec';cases e2;exact⟨hrec',⟨o,g⟩,xo⟩
   .by_cases hbP':b=P
    .subst hbP';rw[a2]at e;cases e;exact htb'
    .rw[a3 b hb hbP']at e;refine(I.hok b u e).stay (λb2 u2 hc q=>hk b2 u2 ?_ q) (λb2 q=>?_) λb2 xs q=>?_
     .rcases hc with z | z
      .rw[z];exact hbP'
      .intro z2;rw[z2,hP]at z;cases z
     .rw[a3 b2 (ne b2 _ q) λz=>by rw[z,hP]at q;cases q];exact q
     .rw[a3 b2 (ne b2 _ q) λz=>by rw[z,hP]at q;cases q];exact q
  have I1:Inv X pins σ H' { s with heap:=h2,toks:=tk }:=I.un un ok;have hfn:H' h'.objs.size=none:=by
   rw[a3 _ (NC hlt) λz=>absurd (JH (Jz hP') hsz) (by rw[z];exact KD _)];exact I.hok.fresh hsz
  refine h _ c' ctv H' _ (.inr ⟨ps,_,c',hP,hcn,hcP,hH'.symm⟩) ⟨_,a2,?_,λpos cv e=>?_⟩ a1 (I1.pinFresh I (by rw[<-hh2];exact JK _ rfl) hsz hfn (λv e=>nomatch e))
  .rw[Array.toList_append];exact TriplesOk_snoc _ _ _ _ ht
  .rw[Array.toList_append]at e;rcases pS _ ht e with e | e
   .obtain⟨c2,r1,r2⟩:=hall _ _ e;refine⟨c2,r1,?_⟩;by_cases hb:c2=c'
    .subst hb;exact a1
    .rw[a3 c2 hb λz=>by rw[z,hP]at r2;cases r2];exact r2
   .exact⟨c',e,a1⟩
end
end
section
def cxL (X:Cx)(N:List Str)(q:Str)(scope:NU)(cl:List (Str×NP))(f c:NP)(Y:NT)(s₀:NQ)(H₀:Hp):Cx where
 prog:=X.prog
 w:=X.w
 K:=X.K
 mg:=X.mg
 base:=X.base
 A:=Y.deeper (envX q scope s₀.heap.objs.size f (.ref c) cl)
 N:=N
 s₀:=s₀
 H₀:=H₀
 env:=envX q scope s₀.heap.objs.size f (.ref c) cl
 outer:=X.stack
 stack:=envX q scope s₀.heap.objs.size f (.ref c) cl::X.stack
 ex:=[]
 fn:=λ_=>false
 calm:=true
 pn:=[]
 xe:=λ_ _=>False
structure LamOk (ON:List Str) (osc:NU) (x:Str) (N:List Str) (cap:List Nat) (scope:NU):Prop where
 kind:scope.kind = .function
 co:scope.isCoroutine=false
 gen:scope.isGenerator=false
 nocell:∀y∈scope.names,y.2 ≠ .cell
 par:scope.names.lookup x=some .local
 first:N.head? = some x
 free:∀y∈scope.names,y.2 = .free->osc.names.lookup y.1=some .cell\/osc.names.lookup y.1=some .free
 len:N.length=1+cap.length
 capx:(cap.map λj=>ON[j]?)=(N.drop 1).map some
 capf:∀y∈N.drop 1,scope.names.lookup y=some .free
def cL (v:V)(cap:List Nat)(σ:St):St:=some v::cap.map λj=>(σ[j]?).join
section
variable {X:Cx}{pins:List (NP×Ob)}{σ:St}{H:Hp}{s:NQ}
def xD {Y:NT}{E:NO->NQ->Prop}{params:Arguments}{body:NX}{scope osc:NU}{f c:NP}{q x:Str}{cl:List (Str×NP)}{pm ctv:NO}{N:List Str}{cap:List Nat}{te:TE}{v:V}{u:NO}{R:VK}
  (I:Inv X pins σ H s) (hY:Y.frames=some X.stack) (hd:Y.handled=none) (hdp:Y.depth<recursionLimit)
  (hf:(f,kla_obj "<lambda>" q params body scope cl pm c ctv)∈X.pn++pins) (hc:H c=some (cdO c q)) (hosc:X.env.scope=osc) (L:LamOk X.N osc x N cap scope)
  (hcl:∀{x:Str} {c:NP},cl.lookup x=some c->X.env.cells.lookup x=some c) (hhas:∀x,(x,Oq.free)∈scope.names->∃c,cl.lookup x=some c)
  (hbind:bindArgs (kla_fn "<lambda>" q params body scope cl pm (.ref c) ctv) ⟨[u],[]⟩=pure [(x,u)])
  (he:∀s H,PE (cxL X N q scope cl f c Y s H) body te) (ru:u6 v u) (h:te (cL v cap σ) H R) :
  Of (model X.prog X.w) Y (call (.ref f) [u]) (EP X pins σ R) E s:=by
 obtain⟨p1,p2,p3,p4,p5⟩:=I.pin _ hf;obtain⟨hrec,_,_⟩:=I.hok c _ hc;refine wpAny_call (kla_callFunE hdp p1 rfl L.co L.gen rfl hrec ?_);rw[hbind];refine Jx (Nb L.nocell (λy hy=>?_) (λh₁ hns hsb=>⟨I.nolimit.fresh _ hsb,?_⟩) L.kind)
 .have e:y=(x,u):=by simpa using hy
  rw[e];exact L.par
 show codeAny _ _ (.expr body (envX q scope s.heap.objs.size f (.ref c) cl)) _ _;have old:∀b o,s.heap.get? b=some o->h₁.get? b=some o:=λb o e=>hsb.extBut b o (JG (Jz e)) (Jn _ e)
 have noA:∀b:NP,b ∉ (cxL X N q scope cl f c Y s H).ex:=λb z=>absurd (show b∈([]:List NP) from z) (by simp)
 have IY:Inv (cxL X N q scope cl f c Y s H) [] (cL v cap σ) H { s with heap:=h₁,toks:=s.toks+[(x,u)].length }:=by
  refine⟨⟨I.ok.mod,L.kind,rfl,rfl,Jq _,λx y c h1 h2=>I.ok.inj x y c (hcl h1) (hcl h2),λy hy=>?_,λx c h=>absurd (show false=true from h) JI,λ_=>hd,NT.frames_deeper hY,.inr ⟨rfl,rfl⟩,
   λb z=>absurd z (noA b),I.bs,JM I.ok.bsz I.sz,λb _ _=>noA b,λb z=>absurd z (noA b),I.stack,I.stkFree⟩,
   rfl,I.bare,Un.kept old,⟨_,hns,λi y w e1 e2 e3=>?_⟩,λy c' e=>?_,I.hok.fresh (Jq _),λy c' e=>I.freeC y c' (hcl e),λp hp=>absurd (show p∈([]:List (NP×Ob)) from hp) (by simp),I.hok.kept old,?_⟩
  .have hy:scope.names.lookup y=some .cell\/scope.names.lookup y=some .free:=hy;rcases hy with hy | hy
   .exact absurd rfl (L.nocell _ (Kz hy))
   .exact hhas y (Kz hy)
  .cases i with
   | zero =>
    have e2':some (some v)=some (some w):=e2
    cases e2'
    have ex:y=x:=by
     have z:=L.first;have e1':N[0]? = some y:=e1;rw[List.head?_eq_getElem?,e1']at z;exact Jt z
    subst ex
    exact⟨u,ru,.inl ⟨L.par,by simp⟩⟩
   | succ d =>
    have e2':(cap.map λj=>(σ[j]?).join)[d]? = some (some w):=e2
    rw[Js]at e2'
    obtain⟨j,hj,hv⟩:=JJ.1 e2'
    have hσ:σ[j]? = some (some w):=by
     cases r:σ[j]? with
     | none=>rw[r]at hv;cases hv
     | some o=>rw[r]at hv;exact Kk some hv
    have e1':(N.drop 1)[d]? = some y:=by rw[Mu,Nat.add_comm];exact e1
    have hx:X.N[j]? = some y:=by
     have z:=Kk (λl=>l[d]?) L.capx;simp only[Js,hj,e1',LD]at z;exact Jt z
    have hfr:=L.capf y (JW e1')
    have hfm:=Kz hfr
    have hok:=L.free _ hfm rfl
    rw[<-hosc]at hok
    obtain⟨m,hn,hl⟩:=I.loc
    obtain⟨u',r,l⟩:=hl j y w hx hσ (.inr hok)
    refine⟨u',r,?_⟩
    rcases l with ⟨hk,_⟩ | ⟨hk,c1,hc1,hc2⟩
    .have hk:X.env.scope.names.lookup y=some .local:=hk
     rcases hok with z | z <;> (rw[hk]at z;cases z)
    .obtain⟨c',hc'⟩:=hhas y hfm
     have:c'=c1:=Jt ((hcl hc').symm.trans hc1)
     subst this
     exact .inr ⟨.inr hfr,c',hc',hc2.keeps old⟩
  .obtain⟨w,z⟩:=I.cell y c' (hcl e);exact⟨w,z.keeps old⟩
  .show(cL v cap σ).length=N.length;unfold cL;rw[JB,Jf,L.len,Nat.add_comm]
 refine kla_codeExpr (KM (he s H [] _ _ _ _ IY h) (λuv s' hs=>?_) λe s' hs=>hs.elim);obtain⟨w,H',J,rw',qw⟩:=hs;exact⟨w,H',I.call' (ch:=[]) J.os J.base J.hok J.bare (λb hb=>nomatch hb),rw',qw⟩
end
end
section
def jr:V->Int
 | .int i=>i
 | .bl b=>if b then 1 else 0
 | _=>0
def fY (ks:List V):Prop:=(∀k∈ks,∃i,k=V.int i)\/∀k∈ks,∃b,k=V.bl b
def X6 (ks:List V)(i:Nat):Int:=jr (ks.getD i .non)
def fU (ks xs ys:List V):Prop:=ys.length=xs.length/\∃p,SoS (X6 ks) p xs.length/\∀i,i<xs.length->ys[i]? = xs[p i]?
theorem Y5:∀{vs:List NO},(∀v∈vs,∃b,v = .bool b)->vs.mapM firstOfTuple'=pure (vs.map λ_=>none)
 | [],_=>by simp
 | v::vs,h=>by
  obtain⟨b,rfl⟩:=h v Jv;rw[Ll,show firstOfTuple' (.bool b)=pure none from rfl,Y5 λw hw=>h w (Jh _ hw)];simp
theorem W7:∀{vs:List NO},(∀v∈vs,∃b,v = .bool b)->vs.mapM typeOf=pure (vs.map λ_=>NO.type "bool")
 | [],_=>by simp
 | v::vs,h=>by
  obtain⟨b,rfl⟩:=h v Jv;rw[Ll,W7 λw hw=>h w (Jh _ hw)];show(pure (NO.type "bool") >>= λb=>pure _ >>= λbs=>pure (b::bs))=_;simp
def ji {v₁ v₂:NO}{vs:List NO}(hI:∀v∈(v₁::v₂::vs),∃b,v = .bool b):keyKind' (v₁::v₂::vs).toArray=pure oneType':=by
 rw[keyKind'_eq,List.mapM_toArray,Y5 hI];simp only[map_pure,pure_bind];rw[Jo (by simp),Jo (by simp)];rw[oneTypeOnly'_eq,List.mapM_toArray,W7 hI];simp only[map_pure,pure_bind];have hall:((List.map (λ_=>NO.type "bool") (v₁::v₂::vs)).toArray.all λx=>x == NO.type "bool")=true:=by
  simp only[List.all_toArray,List.all_map,MW];intro _ _;rfl
 have h0:(List.map (λ_=>NO.type "bool") (v₁::v₂::vs)).toArray[0]? = some (NO.type "bool"):=by simp
 rw[h0];simp only[hall,KL,pure_bind,Mt]
theorem dB:∀{ks:List V} {us:List NO},l0 ks us->(∀k∈ks,∃i,k=V.int i)->IntsAre us (ks.map jr)
 | _,_,.nil,_=>.nil
 | k::ks,u::us,.cons r t,h=>by
  obtain⟨i,rfl⟩:=h k Jv;obtain⟨t',rfl⟩:=r;exact .cons i t' (dB t λk hk=>h k (Jh _ hk))
theorem iZ:∀{ks:List V} {us:List NO},l0 ks us->(∀k∈ks,∃b,k=V.bl b)->∀u∈us,∃b,u = .bool b
 | _,_,.nil,_,u,hu=>by simp at hu
 | k::ks,u::us,.cons r t,h,w,hw=>by
  rcases Jl.1 hw with rfl | hw
  .obtain⟨b,rfl⟩:=h k Jv;exact⟨b,r⟩
  .exact iZ t (λk hk=>h k (Jh _ hk)) w hw
def xS {ks:List V}{keys:Array NO}(r:l0 ks keys.toList)(h:fY ks)(h2:2<=keys.size):keyKind' keys=pure oneType':=by
 obtain⟨v₁,v₂,rest,e⟩:∃v₁ v₂ rest,keys.toList=v₁::v₂::rest:=by
  have hl:2<=keys.toList.length:=by rw[KY];exact h2
  cases q:keys.toList with
  | nil=>rw[q]at hl;simp at hl
  | cons v₁ r =>
   cases r with
   | nil=>rw[q]at hl;simp at hl
   | cons v₂ rest=>exact⟨v₁,v₂,rest,rfl⟩
 have ek:keys=(v₁::v₂::rest).toArray:=by rw[<-e,Array.toArray_toList]
 rw[e]at r;rw[ek];rcases h with h | h
 .exact keyKind_ints (dB r h)
 .exact ji (iZ r h)
def CP {prog:NR}{w:NS}{A:NT}{s:NQ}{ks:List V}{keys:Array NO}{its:List NO}(r:l0 ks keys.toList)(h:fY ks):iF prog w A s oneType' (keys.zip its.toArray) (X6 ks):=by
 have one:∀(i:Nat) (x:Oo),(keys.zip its.toArray)[i]? = some x->∃k,ks[i]? = some k/\u6 k x.1:=λi x e=>by
  rw[<-Ks,ksk_zip,Lm]at e;cases q:ks[i]? with
  | none =>
   rw[r.none_of q]at e;exact absurd e.1 (by simp)
  | some k =>
   obtain⟨u,h1,h2⟩:=r.get q;rw[h1]at e;exact⟨k,rfl,by rw[<-Jt e.1];exact h2⟩
 intro i j x y _ ex ey E Q hq;rw[keyLt'_oneType];obtain⟨k1,a1,r1⟩:=one i x ex;obtain⟨k2,a2,r2⟩:=one j y ey;have n1:X6 ks i=jr k1:=by unfold X6;rw[Jr,a1];rfl
 have n2:X6 ks j=jr k2:=by unfold X6;rw[Jr,a2];rfl
 rw[n1,n2]at hq;obtain⟨x1,x2⟩:=x;obtain⟨y1,y2⟩:=y;rcases h with h | h
 .obtain⟨m,rfl⟩:=h k1 (JW a1);obtain⟨n,rfl⟩:=h k2 (JW a2);obtain⟨t,e⟩:=r1;obtain⟨t',e'⟩:=r2;dsimp only at e e';subst e;subst e';exact oneLt_int hq
 .obtain⟨m,rfl⟩:=h k1 (JW a1);obtain⟨n,rfl⟩:=h k2 (JW a2);have e:x1 = .bool m:=r1;have e':y1 = .bool n:=r2;subst e;subst e';exact pU hq
section
variable {X:Cx}{pins:List (NP×Ob)}{σ:St}{H:Hp}{s:NQ}
def New (X:Cx)(pins:List (NP×Ob))(b:NP):Prop:=X.s₀.heap.objs.size<=b/\b≠X.env.locals/\(∀x c,X.env.cells.lookup x=some c->c≠b)/\(∀p∈X.pn++pins,p.1≠b)/\b ∉ X.fs
def Inv.new {b:NP}(I:Inv X pins σ H s)(h:s.heap.objs.size<=b):New X pins b:=by
 have ne:∀{c:NP} {o:Ob},s.heap.get? c=some o->c≠b:=λe z=>absurd (JH (Jz e) h) (by rw[z];exact KD _)
 refine⟨JM I.sz h,λz=>absurd (JH I.lt h) (by rw[z];exact KD _),λx c e=>?_,λp hp=>ne (I.pin p hp).1,I.nofs h⟩;obtain⟨v,o,ho,_⟩:=I.cell x c e;exact ne ho
def Inv.turn1 {b:NP}{h':NY}{t':Nat}(I:Inv X pins σ H s)(hb:New X pins b)(hn:H b=none)(k:∀c o,c≠b->s.heap.get? c=some o->h'.get? c=some o):Inv X pins σ H { s with heap:=h',toks:=t' } :=
 I.turned k hn hb.2.1 (.inr hb.1) hb.2.2.1 hb.2.2.2.1
def Inv.relay {a k:NP}{ys:List V}{us:List NO}{n:Nat}{h':NY}{t':Nat}(I:Inv X pins σ H s)(ha:New X pins a)(hk:New X pins k)(Ha:H a=none)(Hk:H k=none)
  (hs:∀c o,c≠a->c≠k->s.heap.get? c=some o->h'.get? c=some o) (hth:∃o,h'.get? k=some o) (hz:ys.length<=NZ) (r:l0 ys us) (ho:h'.get? a=some { cls:=.type "list",data:=.seq us.toArray n }) :
  Inv X pins σ (upd H a (.lst ys)) { s with heap:=h',toks:=t' }:=by
 have nin:∀{b:NP},b ∉ [a,k]->b≠a/\b≠k:=λhb=>⟨λz=>hb (by simp[z]),λz=>hb (by simp[z])⟩
 have nu:∀{b:NP} {u:HO},H b=some u->b≠a/\b≠k:=λe=>⟨λz=>(by rw[z,Ha]at e;cases e),λz=>(by rw[z,Hk]at e;cases e)⟩
 refine I.step (g':=s.gens) (d':=s.drawn) (ch:=[a,k]) (λb hb=>?_) (λb o _ _ hc e _=>hs b o (nin hc).1 (nin hc).2 e) (λb o _ _ hc e _=>⟨o.slots,hs b o (nin hc).1 (nin hc).2 e⟩) (λb o hc _ n=>by rw[a8 (nin hc).1];exact n)
  (λb o hc e=>⟨o,hs b o (nin hc).1 (nin hc).2 e⟩) (λb xs e=>by rw[a8 (nu e).1];exact e) (λb o u e=>by rw[a8 (nu e).1];exact e) (λb ps e=>⟨#[],by rw[a8 (nu e).1,e];simp⟩) (λm hm=>?_) (λb u e=>?_) I.bare
 .have hb':b=a\/b=k:=by simpa using hb
  rcases hb' with rfl | rfl
  .exact⟨.inr ha.1,ha.2.1,ha.2.2.1,ha.2.2.2.1⟩
  .exact⟨.inr hk.1,hk.2.1,hk.2.2.1,hk.2.2.2.1⟩
 .obtain⟨o,es,ep,ho',r'⟩:=hm;exact⟨o,es,ep,hs _ o ha.2.1.symm hk.2.1.symm ho',r'⟩
 .by_cases hb:b=a
  .subst hb;rw[c7]at e;cases e;exact⟨hz,us,n,r,ho⟩
  .rw[a8 hb]at e;refine(I.hok b u e).stay (λc v hc q=>?_) (λc q=>by rw[a8 (nu q).1];exact q) λc xs q=>by rw[a8 (nu q).1];exact q
   rcases hc with rfl | z
   .exact hs c v (nu e).1 (nu e).2 q
   .exact hs c v (nu z).1 (nu z).2 q
end
end
section
def atl {α:Type}(a:Array α):a.toList.length=a.size:=KY
section
variable {X:Cx}{pins:List (NP×Ob)}{σ:St}{H:Hp}{s:NQ}{Y:NT}{E:NO->NQ->Prop}{P:PySem.Fin->NQ->Prop}{a kS:NP}{xs ks:List V}{its:List NO}{e1:Nat}
def rq {keys:Array NO}{e:Nat}{st:SortSt}{p:Nat->Nat}(I:Inv X ((kS,seqObj "list" keys e)::(a,seqObj "list" #[] e1)::pins) σ H s)(ha:New X pins a)(hk:New X pins kS)(hka:kS≠a)
  (rx:l0 xs its) (hkl:keys.size<=64) (h64:its.length<64) (hfl:failedOf st=none) (hsz:(arrOf st).size=its.length) (hp:∀i,i<its.length->(arrOf st)[i]? = (keys.zip its.toArray)[p i]?) (hS:SoS (X6 ks) p its.length) (hke:keys.size=its.length)
  (h:∀s' ys,fU ks xs ys->Inv X pins σ (upd H a (.lst ys)) s'->P (.done (.ret .none)) s') :
  Of (model X.prog X.w) Y (ksk_tail a false e1 (.ref kS) st) P E s:=by
 obtain⟨nk,Hk,_⟩:=I.pin (kS,seqObj "list" keys e) (JA _ (.head _));obtain⟨na,Ha,_⟩:=I.pin (a,seqObj "list" #[] e1) (JA _ (.tail _ (.head _)));have I0:Inv X pins σ H s:=I.pins_of λp hp=>I.pin p (JA _ (.tail _ (.tail _ hp)))
 have s1:=Lh s.heap kS (Ob.mapSeq λ_=>(#[]:Array NO));have na1:(s.heap.update kS (Ob.mapSeq λ_=>(#[]:Array NO))).get? a=some (seqObj "list" #[] e1):=(s1.2 a hka.symm).trans na;have s2:=Lh (s.heap.update kS (Ob.mapSeq λ_=>(#[]:Array NO))) a (Ob.mapSeq λ_=>(arrOf st).map (·.2));obtain⟨c2,hc2⟩:∃c2,((s.heap.update kS (Ob.mapSeq λ_=>(#[]:Array NO))).update a (Ob.mapSeq λ_=>(arrOf st).map (·.2))).get? a=some (seqObj "list" ((arrOf st).map (·.2)) c2) :=
  ⟨_,Mo na1 λ_=>(arrOf st).map (·.2)⟩
 have hout:((arrOf st).map (·.2)).size=its.length:=by rw[Nl];exact hsz
 unfold ksk_tail;try dsimp only
 refine Jg (LQ nk rfl ?_ (by rw[JQ];omega) (Ka _));refine Jg (wpAny_letGo ?_);refine Jg (seqEpoch_at na1 rfl ?_);refine Jg (LQ na1 rfl ?_ (Ka _) (by rw[Jo JI,hout,JQ];omega));rw[hfl];simp only[NA,Kc,KH];have xl:xs.length=its.length:=rx.length;have outv:∀i,i<its.length->((arrOf st).map (·.2)).toList[i]? = its[p i]?:=λi hi=>by
  rw[Ks,Array.getElem?_map,hp i hi,<-Ks,ksk_zip];have hpi:=hS.2.2 i hi;have e1:its[p i]? = some (its[p i]):=Ji hpi;have e2:keys.toList[p i]? = some (keys.toList[p i]'(by rw[atl keys,hke];exact hpi)):=Ji _;rw[show(keys.toList.zip its)[p i]? = some (keys.toList[p i]'(by rw[atl keys,hke];exact hpi),its[p i]) from Lm.2 ⟨e2,e1⟩,e1];rfl
 have ysl:((List.range its.length).map λi=>xs.getD (p i) .non).length=its.length:=by rw[Jf,JD]
 have ysg:∀i,i<its.length->((List.range its.length).map λi=>xs.getD (p i) .non)[i]? = xs[p i]?:=λi hi=>by
  rw[Js,Li hi];have hpi:=hS.2.2 i hi;show some (xs.getD (p i) .non)=_;rw[Jr,Ji (by omega)];rfl
 refine Jx (h _ ((List.range its.length).map λi=>xs.getD (p i) .non) ⟨by rw[ysl,xl],p,by rw[xl];exact hS,λi hi=>ysg i (by omega)⟩ (I0.relay (k:=kS) (n:=c2) ha hk Ha Hk (λc o h1 h2 e=>(s2.2 c h1).trans ((s1.2 c h2).trans e)) ?_ (by rw[ysl,JQ];omega)
  (us:=((arrOf st).map (·.2)).toList) ?_ (by rw[hc2])))
 .obtain⟨c3,hc3⟩:∃c3,(s.heap.update kS (Ob.mapSeq λ_=>(#[]:Array NO))).get? kS=some (seqObj "list" #[] c3):=⟨_,Mo nk λ_=>(#[]:Array NO)⟩;exact⟨_,(s2.2 kS hka).trans hc3⟩
 .refine W5 (by rw[ysl,atl ((arrOf st).map (·.2)),hout]) λi x u hx hu=>?_
  have hi:i<its.length:=by
   have:=(Jm.1 hx).1;rwa [ysl]at this
  rw[ysg i hi]at hx;rw[outv i hi]at hu;obtain⟨u',h1,h2⟩:=rx.get hx;rw[h1]at hu;rw[<-Jt hu];exact h2
def Bd {keys:Array NO}{e:Nat}(I:Inv X ((kS,seqObj "list" keys e)::(a,seqObj "list" #[] e1)::pins) σ H s)(ha:New X pins a)(hk:New X pins kS)(hka:kS≠a)
  (rx:l0 xs its) (rk:l0 ks keys.toList) (hl:ks.length=xs.length) (hko:fY ks) (h64:its.length<64)
  (h:∀s' ys,fU ks xs ys->Inv X pins σ (upd H a (.lst ys)) s'->P (.done (.ret .none)) s') :
  Of (model X.prog X.w) Y (ksk_end a false its.toArray e1 (.ref kS) keys) P E s:=by
 have xl:xs.length=its.length:=rx.length;have hke:keys.size=its.length:=by
  have:=rk.length;rw[atl keys]at this;omega
 have hzs:(keys.zip its.toArray).size=its.length:=by rw[Array.size_zip,hke,Jw,Nat.min_self]
 unfold ksk_end;simp only[Kc,KH];by_cases h2:its.toArray.size<2
 .rw[Jk h2,Jk h2];refine Jg (Jx ?_);rw[StateT.run_pure];refine Jg (Jx ?_);try dsimp only
  rw[Jw]at h2;refine rq (st:=SortSt.mk' general' (keys.zip its.toArray) #[] 7 none) (p:=id) I ha hk hka rx (by omega) h64 rfl hzs (λi _=>rfl) ⟨λi j h1 h3=>by omega,λi _=>rfl,λi hi=>hi⟩ hke h
 .rw[Jo h2,Jo h2];rw[Jw]at h2;rw[xS rk hko (by omega)];refine Jg (Jx ?_);refine Jg (KM (qE (a0:=keys.zip its.toArray) (κ:=X6 ks) (st:=SortSt.mk' oneType' (keys.zip its.toArray) #[] 7 none)
   (Q:=λ_ st'=>failedOf st'=none/\(arrOf st').size=(keys.zip its.toArray).size/\∃p,(∀i,i<(keys.zip its.toArray).size->(arrOf st')[i]? = (keys.zip its.toArray)[p i]?)/\SoS (X6 ks) p (keys.zip its.toArray).size)
   (CP rk hko) ⟨⟨rfl,rfl,rfl,rfl⟩,λi j _ _ e=>e,λi _=>rfl,λi hi=>hi⟩ (by rw[hzs];omega) (by rw[hzs];exact h64) λst' a1 a2 a3=>⟨a1,a2,a3⟩) ?_ λ_ _ e=>e)
  rintro ⟨⟨⟩,st'⟩ s' ⟨rfl,hf,hsz,p,hp,hS⟩;try dsimp only
  rw[hzs]at hsz hp hS;exact rq I ha hk hka rx (by omega) h64 hf hsz hp hS hke h
def zc {f:NP}{J:Nat->Hp->Prop}(I:Inv X ((kS,seqObj "list" #[] 0)::(a,seqObj "list" #[] e1)::pins) σ H s)(ha:New X pins a)(hk:New X pins kS)(hka:kS≠a)
  (rx:l0 xs its) (hl:ks.length=xs.length) (hko:fY ks) (h64:its.length<64) (j0:J 0 H)
  (turn:∀(i:Nat) (v:V) (u:NO) (pn:List (NP×Ob)) (H':Hp) (s':NQ),xs[i]? = some v->u6 v u->J i H'->Inv X (pn++pins) σ H' s' ->
   Of (model X.prog X.w) Y (call (.ref f) [u]) (EP X (pn++pins) σ λk H2=>ks[i]? = some k/\J (i+1) H2) (λ_ _=>False) s')
  (h:∀s' H' ys,J xs.length H'->H' a=none->fU ks xs ys->Inv X pins σ (upd H' a (.lst ys)) s'->P (.done (.ret .none)) s') :
  Of (model X.prog X.w) Y (ksk_rest a (.ref f) false its.toArray e1 (.ref kS)) P E s:=by
 have xl:xs.length=its.length:=rx.length;have hk2:New X ((a,seqObj "list" #[] e1)::pins) kS:=⟨hk.1,hk.2.1,hk.2.2.1,λp hp=>by
  rcases Jj.1 hp with z | z
  .exact hk.2.2.2.1 p (MX _ z)
  .rcases Jl.1 z with rfl | z
   .exact hka.symm
   .exact hk.2.2.2.1 p (JA _ z),hk.2.2.2.2⟩
 unfold ksk_rest;refine Jg (Md ?_);first
  | rw[List.forIn_toArray]
  | (rw[<-Array.forIn_toList];simp only[List.toList_toArray])
  | rw[<-Array.forIn_toList]
 refine Jg (ksk_fold (λi s'=>∃H' kA e,Inv X ((kS,seqObj "list" kA e)::(a,seqObj "list" #[] e1)::pins) σ H' s'/\J i H'/\l0 (ks.take i) kA.toList) its 0 s ⟨H,#[],0,I,j0,by simpa using Paired.nil⟩ ?step ?done);case step =>
  rintro j x s' hx ⟨H',kA,e,I',hJ,hv⟩
  simp only[JZ]at hJ hv ⊢
  have hj:j<its.length:=(Jm.1 hx).1
  obtain⟨v,hxv⟩:∃v,xs[j]? = some v:=⟨_,Ji (by omega)⟩
  obtain⟨u,hu,ru⟩:=rx.get hxv
  rw[hx]at hu
  cases hu
  have hz:kA.size<=its.length:=by
   have h1:=hv.length;rw[atl kA,Ke]at h1;omega
  refine Jg (wpAny_attempt (KM (turn j v x [(kS,seqObj "list" kA e),(a,seqObj "list" #[] e1)] H' s' hxv ru hJ I') (λkv s'' he=>?_) λ_ _ hF=>hF.elim))
  obtain⟨kk,H2,I2,rk,hkk,hJ2⟩:=he
  try dsimp only
  obtain⟨nk,Hk,_⟩:=I2.pin (kS,seqObj "list" kA e) (JA _ (.head _))
  have I3:Inv X ((a,seqObj "list" #[] e1)::pins) σ H2 s'':=I2.pins_of λp hp=>I2.pin p (JA _ (.tail _ hp))
  have s1:=Lh s''.heap kS (Ob.mapSeq (·.push kv))
  obtain⟨c2,hc2⟩:∃c2,(s''.heap.update kS (Ob.mapSeq (·.push kv))).get? kS=some (seqObj "list" (kA.push kv) c2):=⟨_,Mo nk (·.push kv)⟩
  refine Jg (LQ nk rfl ?_ (by rw[JQ];omega) (JM (Nat.le_of_eq (Array.size_push ..)) (by rw[JQ];omega)))
  have I4:=I3.turn1 (h':=s''.heap.update kS (Ob.mapSeq (·.push kv))) (t':=s''.toks) hk2 Hk λc o hc e=>(s1.2 c hc).trans e
  have ek:ks.take (j+1)=ks.take j++[kk]:=by rw[LY,hkk];simp
  have ea:(kA.push kv).toList=kA.toList++[kv]:=by simp
  exact Jx ⟨rfl,H2,kA.push kv,c2,I4.pin1 hc2 Hk hk.2.1 hk.2.2.2.2 (λv e=>nomatch e),hJ2,by rw[ea,ek];exact hv.append (.cons rk .nil)⟩
 case done =>
  rintro s' ⟨H',kA,e,I',hJ,hv⟩
  have e3:ks.take (0+its.length)=ks:=Kw (by omega)
  rw[e3]at hv
  rw[JZ,<-xl]at hJ
  obtain⟨nk,Hk,_⟩:=I'.pin (kS,seqObj "list" kA e) (JA _ (.head _))
  obtain⟨_,Ha,_⟩:=I'.pin (a,seqObj "list" #[] e1) (JA _ (.tail _ (.head _)))
  try dsimp only
  refine Jg (listItems_at nk rfl ?_)
  exact Bd I' ha hk hka rx hv hl hko h64 λs2 ys o J2=>h s2 H' ys hJ Ha o J2
end
end
section
section
variable {X:Cx}{pins:List (NP×Ob)}{σ:St}{H:Hp}{s:NQ}{Y:NT}{E:NO->NQ->Prop}{P:PySem.Fin->NQ->Prop}{a:NP}{xs ks:List V}{its:List NO}
def yr {f:NP}{n:Nat}{J:Nat->Hp->Prop}(I:Inv X pins σ H s)(ho:s.heap.get? a=some (seqObj "list" its.toArray n))(ha:New X pins a)(Ha:H a=none)
  (rx:l0 xs its) (hl:ks.length=xs.length) (hko:fY ks) (h64:its.length<64) (j0:J 0 H)
  (turn:∀(i:Nat) (v:V) (u:NO) (pn:List (NP×Ob)) (H':Hp) (s':NQ),xs[i]? = some v->u6 v u->J i H'->Inv X (pn++pins) σ H' s' ->
   Of (model X.prog X.w) Y (call (.ref f) [u]) (EP X (pn++pins) σ λk H2=>ks[i]? = some k/\J (i+1) H2) (λ_ _=>False) s')
  (h:∀s' H' ys,J xs.length H'->H' a=none->fU ks xs ys->Inv X pins σ (upd H' a (.lst ys)) s'->P (.done (.ret .none)) s') :
  Of (model X.prog X.w) Y (ksk_tree a (.ref f) false) P E s:=by
 have hlt:a<s.heap.objs.size:=Jz ho;have s1:=Lh s.heap a (Ob.mapSeq λ_=>(#[]:Array NO));obtain⟨e1,ho1⟩:∃e1,(s.heap.update a (Ob.mapSeq λ_=>(#[]:Array NO))).get? a=some (seqObj "list" #[] e1):=⟨_,Mo ho λ_=>#[]⟩;have hkS:((s.heap.update a (Ob.mapSeq λ_=>(#[]:Array NO))).push (seqObj "tuple" its.toArray 0)).objs.size=s.heap.objs.size+1:=by rw[size_push',Mf]
 have hz:s.heap.objs.size<=((s.heap.update a (Ob.mapSeq λ_=>(#[]:Array NO))).push (seqObj "tuple" its.toArray 0)).objs.size:=by rw[hkS];exact LI _
 unfold ksk_tree;refine Jg (listItems_at ho rfl ?_);refine Jg (LQ ho rfl ?_ (by rw[Jw,JQ];omega) (Ka _));refine Jg (seqEpoch_at ho1 rfl ?_);refine Jg (wpAny_newTuple ?_ (by show its.length<=_;rw[JQ];omega));refine Jg (Nx ?_ (Ka _));refine Ld ?_;have I1:Inv X pins σ H { s with heap:=((s.heap.update a (Ob.mapSeq λ_=>(#[]:Array NO))).push (seqObj "tuple" its.toArray 0)).push (seqObj "list" #[] 0),toks:=s.toks } :=
  I.turn1 ha Ha λc o hc e=>Jn _ (Jn _ ((s1.2 c hc).trans e))
 have hk:=I.new hz;have Hk:=I.hok.fresh hz;have hka:((s.heap.update a (Ob.mapSeq λ_=>(#[]:Array NO))).push (seqObj "tuple" its.toArray 0)).objs.size≠a:=by rw[hkS];exact NC (Lf hlt)
 have I2:=I1.pin1 (a:=a) (o:=seqObj "list" #[] e1) (Jn _ (Jn _ ho1)) Ha ha.2.1 ha.2.2.2.2 (λv e=>nomatch e);have I3:=I2.pin1 (a:=((s.heap.update a (Ob.mapSeq λ_=>(#[]:Array NO))).push (seqObj "tuple" its.toArray 0)).objs.size) (o:=seqObj "list" #[] 0) (JK _ rfl) Hk hk.2.1 hk.2.2.2.2 (λv e=>nomatch e);exact zc I3 ha hk hka rx hl hko h64 j0 turn h
def tS {l f:NP}{J:Nat->Hp->Prop}{Q:NO->NQ->Prop}(I:Inv X pins σ H s)(hl':s.heap.IsList l its.toArray)
  (rx:l0 xs its) (hl:ks.length=xs.length) (hko:fY ks) (h64:its.length<64) (j0:J 0 H)
  (turn:∀(i:Nat) (v:V) (u:NO) (pn:List (NP×Ob)) (H':Hp) (s':NQ),xs[i]? = some v->u6 v u->J i H'->Inv X (pn++pins) σ H' s' ->
   Of (model X.prog X.w) X.A.in1.in1 (call (.ref f) [u]) (EP X (pn++pins) σ λk H2=>ks[i]? = some k/\J (i+1) H2) (λ_ _=>False) s')
  (h:∀a s' H' ys,J xs.length H'->H' a=none->fU ks xs ys->Inv X pins σ (upd H' a (.lst ys)) s'->Q (.ref a) s') :
  Of (model X.prog X.w) X.A (call (.builtin "sorted") [.ref l] [(Str.ofString "key",.ref f)]) Q E s:=by
 refine call_function_entry_kw kind_sorted plain_sorted entry_sorted (ksk_s1 _ _) ?_;unfold Builtin.«sorted»;refine Jg (m:=checkCount "sorted" 1 1 _) (Jx ?_);refine Jg (collect_list hl' ?_ (by rw[JQ];omega));refine Jg (Nx ?_ (by rw[JQ];omega));have hsz:((s.heap.push (seqObj "list" #[] 0)).update s.heap.objs.size (Ob.mapSeq (· ++ its.toArray))).objs.size=s.heap.objs.size+1:=by
  rw[Mf,size_push']
 have hoL:(((s.heap.push (seqObj "list" #[] 0)).update s.heap.objs.size (Ob.mapSeq (· ++ its.toArray))).push (seqObj "list" its.toArray 0)).get? (s.heap.objs.size+1)=some (seqObj "list" its.toArray 0):=by
  rw[<-hsz];exact JK _ rfl
 have keep:∀b o,s.heap.get? b=some o->(((s.heap.push (seqObj "list" #[] 0)).update s.heap.objs.size (Ob.mapSeq (· ++ its.toArray))).push (seqObj "list" its.toArray 0)).get? b=some o:=λb o q=>by
  have hlt:b<s.heap.objs.size:=Jz q;rw[LH _ _ _ (by rw[hsz];exact JG (Lf hlt)),NY.get?_update_ne _ _ _ _ (JG hlt),LH _ _ _ (JG hlt)];exact q
 show Of _ _ _ _ _ { s with heap:=((s.heap.push (seqObj "list" #[] 0)).update s.heap.objs.size (Ob.mapSeq (· ++ its.toArray))).push (seqObj "list" its.toArray 0) };rw[hsz];refine Jg (Ld (wpAny_call_entry_kw slot_list_sort ⟨_,hoL,rfl⟩ entry_list_sort ?body (ksk_l1 _ _)));case body =>
  have ht':=ksk_t1 f (s.heap.objs.size+1)
  show Of (model X.prog X.w) X.A.in1.in1 (Builtin.«list.sort» ⟨[.ref (s.heap.objs.size+1)],[(Str.ofString "key",.ref f)]⟩) _ _ _
  rw[ht']
  have I1:Inv X pins σ H { s with heap:=((s.heap.push (seqObj "list" #[] 0)).update s.heap.objs.size (Ob.mapSeq (· ++ its.toArray))).push (seqObj "list" its.toArray 0),toks:=s.toks }:=I.kept keep
  refine yr I1 hoL (I.new (LI _)) (I.hok.fresh (LI _)) rx hl hko h64 j0 turn λs' H' ys hJ Ha o I'=>⟨_,rfl,?_⟩
  exact Jx ⟨_,rfl,h _ s' H' ys hJ Ha o I'⟩
end
end
section
def tSK (K:Frag)(P:NP)(q:Str)(cap:List Nat)(ta:TA)(te:TE):TE:=λσ H Q=>ta σ H λvs H1=>∃l xs,vs=[.ref l]/\SqL K H1 l xs/\xs.length<64/\jy H1 P q /\
 ∀H2,CI P q H1 H2->jy H2 P q->∀c,H2 c=some (cdO c q)->∃(J:Nat->Hp->Prop) (ks:List V),ks.length=xs.length/\fY ks/\SqL K H2 l xs/\J 0 H2/\(∀i H',J i H'->H' c=some (cdO c q)) /\
  (∀i v H',xs[i]? = some v->J i H'->te (cL v cap σ) H' λk H3=>ks[i]? = some k/\J (i+1) H3) /\
  ∀a H' ys,J xs.length H'->H' a=none->fU ks xs ys->Q (.ref a) (upd H' a (.lst ys))
def yk {M:Model}{A:NT}{E:NO->NQ->Prop}{s:NQ}{env:Oc}{x:Str}{p pos:Pos}{args:List NX}{kws:List Oe}{Q:NO->NQ->Prop}
  (h:Of M A (eval (.Name x p) env) (λf s₁=>Of M A (callWith pos f [] (Od pos (Oa args env)) (Os pos (Ot kws env))) Q E s₁) E s):Of M A (eval (.Call (.Name x p) args kws pos) env) Q E s:=by
 rw[show eval (.Call (.Name x p) args kws pos) env=(do callWith pos (<-eval (.Name x p) env) [] (Od pos (Oa args env)) (Os pos (Ot kws env))) from rfl];exact Jg h
def Ee {X:Cx}{e:NX}{params:Arguments}{body:NX}{scope osc:NU}{p pos lpos kp:Pos}{c P:NP}{q x:Str}{N:List Str}{cap:List Nat}{ta:TA}{te:TE}{k:Nat}
  (hg:Gl X "sorted") (hm:X.mg "sorted" = none) (hr:Room k X.A) (hc:X.calm=true) (ha:PA X [e] ta) (hdef:defaultsOf params X.env=([],[])) (hosc:X.env.scope=osc) (L:LamOk X.N osc x N cap scope)
  (hcode:X.env.code = .ref c) (C:CodeHd X.base c P) (BM:BMd X.base X.mg) (hq:X.env.qual ++ "<lambda>" = q)
  (hbind:∀(cl:List (Str×NP)) (pm:NO) (c':NP) (ctv u:NO),bindArgs (kla_fn "<lambda>" q params body scope cl pm (.ref c') ctv) ⟨[u],[]⟩=pure [(x,u)])
  (he:∀cl f c' Y s H,PE (cxL X N q scope cl f c' Y s H) body te) (hs:Oa [e] X.env=[(false,eval e X.env)]:=by rfl) :
  PE X (.Call (.Name "sorted" p) [e] [⟨some "key",.Lambda params body scope lpos,kp⟩] pos) (tSK X.K P q cap ta te):=by
 intro pins s σ H Q I h;have hcell:∀y∈scope.names,y.2 = .free->∃c,X.env.cells.lookup y.1=some c:=λy hy hk=>I.ok.has y.1 (by
  show X.env.scope.names.lookup y.1=_\/X.env.scope.names.lookup y.1=_;rw[hosc];exact L.free y hy hk)
 let f:Str->NP:=λx=>(X.env.cells.lookup x).getD 0
 have hf:∀y∈scope.names,y.2 = .free->X.env.cells.lookup y.1=some (f y.1):=λy hy hk=>by
  obtain⟨c,e⟩:=hcell y hy hk;show _=some ((X.env.cells.lookup y.1).getD 0);rw[e];rfl
 have hclos:closureFor scope X.env=pure (M6 f scope.names []):=Q3 λy hy hk=>by
  unfold cellOf;rw[hf y hy hk]
 have hcl:∀{x:Str} {c:NP},(M6 f scope.names []).lookup x=some c->X.env.cells.lookup x=some c:=λ{x c} e=>by
  rcases U0 _ _ e with ⟨h1,h2⟩ | h1
  .rw[h2];exact hf (x,.free) h1 rfl
  .simp at h1
 have hhas:∀x,(x,Oq.free)∈scope.names->∃c,(M6 f scope.names []).lookup x=some c:=λx hx=>⟨_,bx _ _ (.inl hx)⟩
 generalize M6 f scope.names []=cl at hclos hcl hhas;refine yk (aK I hg hm (by decide +kernel:Oj "sorted" = some (.builtin "sorted")) (callWith_kw (kws:=[⟨some "key",.Lambda params body scope lpos,kp⟩]) (thn (ha pos pins s σ H _ I h) λus s1 ⟨vs,H1,I1,r1,q1⟩=>?_) (by rw[hs];rfl) (by rw[hs];rfl)));obtain⟨l,xs,e0,hq0,h64,hT,q2⟩:=q1;subst e0;obtain⟨u,rfl,ru⟩:=P5 r1;cases ru;refine kws_cons (vw I1 hdef hclos hcode C BM hT hq λf c' ctv H2 s2 gr hT2 hc2 I2=>kws_nil ?_);obtain⟨J,ks,hlk,hko,hq2,j0,jc,turn,fin⟩:=q2 H2 gr hT2 c' hc2;obtain⟨its,rv,pl,hz⟩:=I2.list hq2;have xl:xs.length=its.length:=rv.length;show Of (model X.prog X.w) X.A (call (.builtin "sorted") [.ref l] [(Str.ofString "key",.ref f)]) _ X.xe s2;refine tS I2 pl.isList rv hlk hko (by omega) j0 (λi v u pn H' s' hx r hJ I'=>?_) λa s' H' ys hJ Ha o I'=>?_
 .exact xD I' I.ok.frames (I.ok.hd hc) (by have:=hr.dp;show X.A.depth<_;omega) (JA _ (JA _ (.head _))) (jc i H' hJ) hosc L hcl hhas (hbind _ _ _ _ _) (λs H=>he _ _ _ _ s H) r (turn i v H' hx hJ)
 .exact⟨.ref a,_,I'.pins_of (λp hp=>I'.pin p (JA _ (.tail _ hp))),rfl,fin a H' ys hJ Ha o⟩
end
section
section
variable {prog:NR}{w:NS}{A:NT}{E:NO->NQ->Prop}{s:NQ}
def ly {a:NP}{vs:List NO}{n:Nat}{kd:SortKind}{κ:Nat->Int}{P:PySem.Fin->NQ->Prop}(ho:s.heap.get? a=some (seqObj "list" vs.toArray n))(h64:vs.length<64)
  (hkind:2<=vs.length->∀(h':NY) (Q:SortKind->NQ->Prop),(∀b o,b≠a->s.heap.get? b=some o->h'.get? b=some o)->Q kd { s with heap:=h' }->Of (model prog w) A (keyKind' vs.toArray) Q E { s with heap:=h' })
  (hlt:∀h':NY,(∀b o,b≠a->s.heap.get? b=some o->h'.get? b=some o)->iF prog w A { s with heap:=h' } kd (pairsOf vs) κ)
  (h:∀(out:Array NO) (p:Nat->Nat),out.size=vs.length->(∀i,i<vs.length->out.toList[i]? = vs[p i]?)->SoS κ p vs.length->P (.done (.ret .none)) { s with heap:=sortedHeap s.heap a vs out }) :
  Of (model prog w) A (Builtin.«list.sort» ⟨[.ref a],[]⟩) P E s:=by
 rw[list_sort_plain];have ha:a<s.heap.objs.size:=Jz ho;refine Jg (listItems_at ho rfl ?_);refine Jg (LQ ho rfl ?_ (by rw[Jw,JQ];omega) (Ka _));obtain⟨e1,ho1⟩:∃e1,(s.heap.update a (Ob.mapSeq λ_=>#[])).get? a=some (seqObj "list" #[] e1):=⟨_,Mo ho (λ_=>#[])⟩;refine Jg (seqEpoch_at ho1 rfl ?_);refine Jg (wpAny_newTuple ?_ (by show vs.length<=_;rw[JQ];omega));refine Jg (Nx ?_ (Ka _));refine Ld ?_;have ho6:(((s.heap.update a (Ob.mapSeq λ_=>#[])).push (seqObj "tuple" vs.toArray 0)).push (seqObj "list" #[] 0)).get? a=some (seqObj "list" #[] e1):=by
  rw[LH _ _ _ (by rw[size_push',Mf];exact JG (Lf ha)),LH _ _ _ (by rw[Mf];exact JG ha)];exact ho1
 have s1:=Lh s.heap a (Ob.mapSeq λ_=>(#[]:Array NO));have kept:∀b o,b≠a->s.heap.get? b=some o->(((s.heap.update a (Ob.mapSeq λ_=>#[])).push (seqObj "tuple" vs.toArray 0)).push (seqObj "list" #[] 0)).get? b=some o:=λb o hb e=>Jn _ (Jn _ ((s1.2 b hb).trans e))
 show Of (model prog w) A _ P E { s with heap:=((s.heap.update a (Ob.mapSeq λ_=>#[])).push (seqObj "tuple" vs.toArray 0)).push (seqObj "list" #[] 0) };dsimp only;have hsz:vs.toArray.size=vs.length:=by simp
 have fin:∀(st':SortSt) (p:Nat->Nat),(arrOf st').size=vs.length->(∀i,i<vs.length->(arrOf st')[i]? = (pairsOf vs)[p i]?)->SoS κ p vs.length->P (.done (.ret .none)) { s with heap:=sortedHeap s.heap a vs ((arrOf st').map (·.2)) }:=by
  intro st' p hz hp hS;refine h _ p (by rw[Nl];exact hz) (λi hi=>?_) hS;rw[Ks,Array.getElem?_map,hp i hi,<-Ks,pairsOf_toList];have hpi:=hS.2.2 i hi;have e1:vs[p i]? = some vs[p i]:=Ji hpi;rw[show(vs.zip vs)[p i]? = some (vs[p i],vs[p i]) from Lm.2 ⟨e1,e1⟩,e1];rfl
 by_cases h2:vs.toArray.size<2
 .rw[Jk h2,Jk h2];refine Jg (Jx ?_);rw[StateT.run_pure];refine Jg (Jx ?_);dsimp only;refine Jg (seqEpoch_at ho6 rfl ?_);refine Jg (LQ ho6 rfl ?_ (hsz2:=by rw[Nl];show(pairsOf vs).size<=_;rw[Nd,JQ];omega));simp only[NA,Kc,KH];rw[hsz]at h2;exact Jx (fin (SortSt.mk' general' (vs.toArray.zip vs.toArray) #[] 7 none) id (Nd vs) (λi _=>rfl) ⟨λi j h1 h3=>by omega,λi _=>rfl,λi hi=>hi⟩)
 .rw[Jo h2,Jo h2];rw[hsz]at h2;refine Jg (hkind (by omega) _ _ kept ?_);refine Jg (KM (qE (a0:=pairsOf vs) (κ:=κ) (kd:=kd) (st:=SortSt.mk' kd (vs.toArray.zip vs.toArray) #[] 7 none)
   (Q:=λ_ st'=>failedOf st'=none/\(arrOf st').size=(pairsOf vs).size/\∃p,(∀i,i<(pairsOf vs).size->(arrOf st')[i]? = (pairsOf vs)[p i]?)/\SoS κ p (pairsOf vs).size)
   (hlt _ kept) ⟨⟨rfl,rfl,rfl,rfl⟩,λi j _ _ e=>e,λi _=>rfl,λi hi=>hi⟩ (by rw[Nd];omega) (by rw[Nd];exact h64) λst' a1 a2 a3=>⟨a1,a2,a3⟩) ?_ λ_ _ e=>e)
  rintro ⟨⟨⟩,st'⟩ s' ⟨rfl,hf,hz,p,hp,hS⟩;rw[Nd]at hz hp hS;dsimp only;refine Jg (seqEpoch_at ho6 rfl ?_);refine Jg (LQ ho6 rfl ?_ (hsz2:=by rw[Nl,hz,JQ];omega));rw[hf];simp only[NA,Kc,KH];exact Jx (fin st' p hz hp hS)
def tZ {l:NP}{vs:List NO}{kd:SortKind}{κ:Nat->Int}{Q:NO->NQ->Prop}(hl:s.heap.IsList l vs.toArray)(h64:vs.length<64)
  (hkind:2<=vs.length->∀(h':NY) (Q:SortKind->NQ->Prop),(∀b o,s.heap.get? b=some o->h'.get? b=some o)->Q kd { s with heap:=h' }->Of (model prog w) A.in1.in1 (keyKind' vs.toArray) Q E { s with heap:=h' })
  (hlt:∀h':NY,(∀b o,s.heap.get? b=some o->h'.get? b=some o)->iF prog w A.in1.in1 { s with heap:=h' } kd (pairsOf vs) κ)
  (h:∀(out:Array NO) (p:Nat->Nat),out.size=vs.length->(∀i,i<vs.length->out.toList[i]? = vs[p i]?)->SoS κ p vs.length->Q (.ref (s.heap.objs.size+1)) { s with heap:=sortedAll s.heap vs out }) :
  Of (model prog w) A (call (.builtin "sorted") [.ref l]) Q E s:=by
 refine Calls.call_function_entry kind_sorted plain_sorted entry_sorted (args_sorted1 _) ?_;unfold Builtin.«sorted»;refine Jg (m:=checkCount "sorted" 1 1 _) (Jx ?_);refine Jg (collect_list hl ?_ (by rw[JQ];omega));refine Jg (Nx ?_ (by rw[JQ];omega));have hsz:((s.heap.push (seqObj "list" #[] 0)).update s.heap.objs.size (Ob.mapSeq (· ++ vs.toArray))).objs.size=s.heap.objs.size+1:=by
  rw[Mf,size_push']
 have hoL:(((s.heap.push (seqObj "list" #[] 0)).update s.heap.objs.size (Ob.mapSeq (· ++ vs.toArray))).push (seqObj "list" vs.toArray 0)).get? (s.heap.objs.size+1)=some (seqObj "list" vs.toArray 0):=by
  rw[<-hsz];exact JK _ rfl
 have keep:∀b o,s.heap.get? b=some o->(((s.heap.push (seqObj "list" #[] 0)).update s.heap.objs.size (Ob.mapSeq (· ++ vs.toArray))).push (seqObj "list" vs.toArray 0)).get? b=some o/\b≠s.heap.objs.size+1:=λb o q=>by
  have hlt:b<s.heap.objs.size:=Jz q;refine⟨?_,JG (Lf hlt)⟩;rw[LH _ _ _ (by rw[hsz];exact JG (Lf hlt)),NY.get?_update_ne _ _ _ _ (JG hlt),LH _ _ _ (JG hlt)];exact q
 show Of _ _ _ _ _ { s with heap:=((s.heap.push (seqObj "list" #[] 0)).update s.heap.objs.size (Ob.mapSeq (· ++ vs.toArray))).push (seqObj "list" vs.toArray 0) };rw[hsz];refine Jg (Ld (Ls slot_list_sort ⟨_,hoL,rfl⟩ entry_list_sort (ly (s:={ s with heap:=((s.heap.push (seqObj "list" #[] 0)).update s.heap.objs.size (Ob.mapSeq (· ++ vs.toArray))).push (seqObj "list" vs.toArray 0) }) hoL h64
  (λh2 h' Q hk hq=>hkind h2 h' Q (λb o e=>hk b o (keep b o e).2 (keep b o e).1) hq) (λh' hk=>hlt h' λb o e=>hk b o (keep b o e).2 (keep b o e).1) λout p a1 a2 a3=>⟨_,rfl,?_⟩) (args_list_sort _)))
 exact Jx ⟨_,rfl,h out p a1 a2 a3⟩
end
def mG (K:Frag)(H:Hp):List Int->List V->Prop
 | [],xs=>xs=[]
 | n::ns,xs=>∃t r ys,xs = .ref t::ys/\SqT K H t (.int n::r)/\mG K H ns ys
theorem mG.len {K:Frag}{H:Hp}:∀{ns:List Int} {xs:List V},mG K H ns xs->xs.length=ns.length
 | [],_,h=>by cases h;rfl
 | n::ns,_,⟨t,r,ys,rfl,_,h⟩=>by simp[mG.len h]
theorem mG.get {K:Frag}{H:Hp}:∀{ns:List Int} {xs:List V} {i:Nat} {n:Int},mG K H ns xs->ns[i]? = some n->∃t r,xs[i]? = some (.ref t)/\SqT K H t (.int n::r)
 | [],_,_,_,_,e=>by simp at e
 | m::ns,_,0,n,⟨t,r,ys,rfl,h1,h⟩,e=>by
  simp at e;subst e;exact⟨t,r,rfl,h1⟩
 | m::ns,_,i+1,n,⟨t,r,ys,rfl,h1,h⟩,e=>by
  obtain⟨t',r',a,b⟩:=h.get (i:=i) (by simpa using e);exact⟨t',r',by simpa using a,b⟩
section
variable {X:Cx}{K:Fg}
def BX (K:Frag):List V->Hp->VK->Prop:=λxs H Q=>∃(a:NP) (zs:List V) (ns:List Int),xs=[.ref a]/\SqL K H a zs/\mG K H ns zs/\ns.Nodup/\ns.length<64 /\
 ∀(p:NP) (ys:List V),H p=none->fU (ns.map V.int) zs ys->Q (.ref p) (upd H p (.lst ys))
def pJ (hK:X.K=K):D1 X (.builtin "sorted") (BX K):=by
 subst hK;intro pins s σ H xs us Q I r h;obtain⟨a,zs,ns,rfl,hq,hT,hnd,h64,q⟩:=h;obtain⟨u,rfl,ru⟩:=P5 r;cases ru;obtain⟨its,rv,p,hz⟩:=I.list hq;have hl1:=hT.len;have hl2:its.length=zs.length:=rv.length.symm;have item:∀(i:Nat) (n:Int),ns[i]? = some n->∃(t:NP) (o:Ob) (ys:Array NO) (k:Nat) (tk:Tok),its[i]? = some (.ref t)/\s.heap.get? t=some o/\o.cls = .type "tuple" /\ o.data = .seq ys k/\ys[0]? = some (.int n tk):=λi n e=>by
  obtain⟨t,r,e1,e2⟩:=hT.get e;obtain⟨u,e3,e4⟩:=rv.get e1;cases e4;obtain⟨ys,ry,⟨o,ho,hc,k,hd⟩,_⟩:=I.tuple e2;cases ry with
  | cons r1 r2 =>
   obtain⟨tk,rfl⟩:=r1;exact⟨t,o,_,k,tk,e3,ho,hc,hd,by simp⟩
 have tups:∀(h':NY),(∀b o,s.heap.get? b=some o->h'.get? b=some o)->∀(ms:List Int) (vs:List NO),ms.length=vs.length->(∀(i:Nat) (n:Int),ms[i]? = some n->∃(t:NP) (o:Ob) (ys:Array NO) (k:Nat) (tk:Tok),vs[i]? = some (.ref t)/\s.heap.get? t=some o/\o.cls = .type "tuple" /\ o.data = .seq ys k/\ys[0]? = some (.int n tk)) ->
   ∃fs:List NO,KatTups h' vs fs/\fs.length=vs.length/\∀v∈fs,∃n t,v=NO.int n t:=by
  intro h' hk ms;induction ms with
  | nil =>
   intro vs hl _;rw[KS.1 hl.symm];exact⟨[],KatTups.nil,rfl,λv hv=>by simp at hv⟩
  | cons m ms ih =>
   intro vs hl hi;cases vs with
   | nil=>simp at hl
   | cons v vs =>
    obtain⟨t,o,ys,k,tk,e1,e2,e3,e4,e5⟩:=hi 0 m rfl;have e1:some v=some (NO.ref t):=e1;cases e1;obtain⟨fs,f1,f2,f3⟩:=ih vs (by simpa using hl) λi n e=>by
     obtain⟨t,o,ys,k,tk,g1,g⟩:=hi (i+1) n (by simpa using e);exact⟨t,o,ys,k,tk,by simpa using g1,g⟩
    refine⟨.int m tk::fs,KatTups.cons (hk _ _ e2) e3 e4 e5 f1,by simp[f2],λv hv=>?_⟩;rcases Jl.1 hv with rfl | hv
    .exact⟨m,tk,rfl⟩
    .exact f3 v hv
 refine tZ (kd:=tuples' true) (κ:=X6 (ns.map V.int)) p.isList (by omega) (λh2 h' Q' hk hQ=>?_) (λh' hk=>?_) λout p' a1 a2 a3=>?_
 .obtain⟨fs,f1,f2,f3⟩:=tups h' hk ns its (by omega) item;refine kat_kind (T:=.type "int") (s:={ s with heap:=h' }) f1 (by omega) (λv hv=>?_) rfl hQ;obtain⟨n,t,rfl⟩:=f3 v hv;exact .now
 .intro i j x y hij ex ey E Q' hQ;rw[<-Ks,pairsOf_toList,Lm]at ex ey;have hi:i<ns.length:=by have:=(Jm.1 ex.1).1;omega
  have hj:j<ns.length:=by have:=(Jm.1 ey.1).1;omega
  obtain⟨t1,o1,ys1,k1,tk1,b1,b2,b3,b4,b5⟩:=item i ns[i] (Ji hi);obtain⟨t2,o2,ys2,k2,tk2,c1,c2,c3,c4,c5⟩:=item j ns[j] (Ji hj);rw[b1]at ex;rw[c1]at ey;rw[<-Jt ex.1,<-Jt ey.1];have n1:X6 (ns.map V.int) i=ns[i]:=by
   unfold X6;rw[Jr,Js,Ji hi];rfl
  have n2:X6 (ns.map V.int) j=ns[j]:=by
   unfold X6;rw[Jr,Js,Ji hj];rfl
  rw[n1,n2]at hQ;have hne:ns[i]≠ns[j]:=λe=>hij ((List.getElem_inj hnd).1 e)
  refine kat_lt (s:={ s with heap:=h' }) (hk _ _ b2) b4 (hk _ _ c2) c4 ?_;obtain⟨r1,er1⟩:∃r1,ys1.toList = .int ns[i] tk1::r1:=by
   cases e:ys1.toList with
   | nil=>rw[<-Ks,e]at b5;simp at b5
   | cons z r=>rw[<-Ks,e]at b5;simp at b5;exact⟨r,by rw[b5]⟩
  obtain⟨r2,er2⟩:∃r2,ys2.toList = .int ns[j] tk2::r2:=by
   cases e:ys2.toList with
   | nil=>rw[<-Ks,e]at c5;simp at c5
   | cons z r=>rw[<-Ks,e]at c5;simp at c5;exact⟨r,by rw[c5]⟩
  rw[er1,er2,List.zip_cons_cons];refine kat_cons (wpAny_eqBool_int ?_);have hb:(ns[i] == ns[j])=false:=by simpa using hne
  rw[hb];refine kat_no ?_;exact oneLt_int hQ
 .have hlen:zs.length=its.length:=hl2.symm;obtain⟨e,he⟩:=sortedAll_at s.heap its out;have ysl:((List.range its.length).map λi=>zs.getD (p' i) .non).length=its.length:=by rw[Jf,JD]
  have ysg:∀i,i<its.length->((List.range its.length).map λi=>zs.getD (p' i) .non)[i]? = zs[p' i]?:=λi hi=>by
   rw[Js,Li hi];have hpi:=a3.2.2 i hi;show some (zs.getD (p' i) .non)=_;rw[Jr,Ji (by omega)];rfl
  have I1:Inv X pins σ (upd H (s.heap.objs.size+1) (.lst ((List.range its.length).map λi=>zs.getD (p' i) .non))) { s with heap:=sortedAll s.heap its out,toks:=s.toks } :=
   I.laid (a:=s.heap.objs.size+1) (λb o ho=>sortedAll_old ho) (LI _) ⟨by rw[ysl,JQ];omega,out.toList,e,W5 (by rw[ysl,atl out,a1]) (λi x u hx hu=>by
    have hi:i<its.length:=by
     have:=(Jm.1 hx).1;rwa [ysl]at this
    rw[ysg i hi]at hx;rw[a2 i hi]at hu;obtain⟨u',g1,g2⟩:=rv.get hx;rw[g1]at hu;rw[<-Jt hu];exact g2),by rw[he]⟩
  exact⟨.ref (s.heap.objs.size+1),_,I1,rfl,q _ _ (I.hok.fresh (LI _)) ⟨by rw[ysl,hlen],p',by rw[hlen];exact a3,λi hi=>ysg i (by omega)⟩⟩
end
end
end L2
namespace L2
def ao {α:Type}(p:Int × α):List (Int × α)->List (Int × α)
 | []=>[p]
 | q::r=>if p.1<=q.1 then p::q::r else q::ao p r
def x8 {α:Type}:List (Int × α)->List (Int × α)
 | []=>[]
 | p::r=>ao p (x8 r)
theorem oi {α β:Type}(f:α->β)(p:Int × α):∀l:List (Int × α),ao (p.1,f p.2) (l.map λq=>(q.1,f q.2))=(ao p l).map λq=>(q.1,f q.2)
 | []=>rfl
 | q::r=>by
  simp only[Jy,ao];split
  .rfl
  .rw[Jy,oi f p r]
theorem cQ {α β:Type}(f:α->β):∀l:List (Int × α),x8 (l.map λq=>(q.1,f q.2))=(x8 l).map λq=>(q.1,f q.2)
 | []=>rfl
 | p::r=>by
  rw[Jy,x8,x8,cQ f r];exact oi f p _
theorem Z0 {α:Type}(p:Int × α):∀l:List (Int × α),(ao p l).Perm (p::l)
 | []=>.refl _
 | q::r=>by
  rw[ao];split
  .exact .refl _
  .exact((Z0 p r).cons q).trans (.swap p q r)
theorem C5 {α:Type}:∀l:List (Int × α),(x8 l).Perm l
 | []=>.refl _
 | p::r=>(Z0 p _).trans ((C5 r).cons p)
def LxP (a b:Int×Nat):Prop:=a.1<b.1\/(a.1=b.1/\a.2<b.2)
theorem rn {p:Int×Nat}:∀{l:List (Int×Nat)},l.Pairwise LxP->(∀q∈l,p.2<q.2)->(ao p l).Pairwise LxP
 | [],_,_=>by simp[ao]
 | q::r,h,hl=>by
  rw[JO]at h;rw[ao];split
  .rename_i hle;refine JO.2 ⟨λz hz=>?_,JO.2 h⟩;have h1:LxP p q:=by
    rcases Mv hle with e | e
    .exact .inl e
    .exact .inr ⟨e,hl q Jv⟩
   rcases Jl.1 hz with rfl | hz
   .exact h1
   .have h2:=h.1 z hz;unfold LxP at h1 h2 ⊢;omega
  .rename_i hgt;refine JO.2 ⟨λz hz=>?_,rn h.2 λz hz=>hl z (Jh _ hz)⟩;rcases Jl.1 ((Z0 p r).mem_iff.mp hz) with rfl | hz
   .exact .inl (by omega)
   .exact h.1 z hz
theorem jv:∀{l:List (Int×Nat)},l.Pairwise (λa b=>a.2<b.2)->(x8 l).Pairwise LxP
 | [],_=>.nil
 | p::r,h=>by
  rw[JO]at h;exact rn (jv h.2) λq hq=>h.1 q ((C5 r).mem_iff.mp hq)
theorem jT:∀{l₁ l₂:List (Int×Nat)},l₁.Perm l₂->l₁.Pairwise LxP->l₂.Pairwise LxP->l₁=l₂
 | [],l₂,p,_,_=>p.nil_eq
 | a::r,[],p,_,_=>by have:=p.length_eq;simp at this
 | a::r,b::t,p,h1,h2=>by
  rw[JO]at h1 h2;have ab:a=b:=by
   rcases Jl.1 (p.mem_iff.1 (Jv (a:=a) (l:=r))) with e | e
   .exact e
   .rcases Jl.1 (p.mem_iff.2 (Jv (a:=b) (l:=t))) with e2 | e2
    .exact e2.symm
    .have q1:=h2.1 a e;have q2:=h1.1 b e2;unfold LxP at q1 q2;omega
  subst ab;rw[jT (p.cons_inv) h1.2 h2.2]
theorem il:∀(n:Nat) (l:List Nat),l.Nodup->(∀x∈l,x<n)->l.length=n->l.Perm (List.range n)
 | 0,l,_,_,hl=>by rw[KS.1 hl];exact .refl _
 | n+1,l,hd,hb,hl=>by
  have short:∀(m:Nat) (l:List Nat),l.Nodup->(∀x∈l,x<m)->l.length<=m:=by
   intro m;induction m with
   | zero =>
    intro l _ hb;cases l with
    | nil=>simp
    | cons a r=>exact absurd (hb a Jv) (by omega)
   | succ m ih =>
    intro l hd hb;by_cases hm:m∈l
    .have e:=ih (l.erase m) (hd.erase m) λx hx=>by
      have h1:=hb x (List.mem_of_mem_erase hx);have h2:x≠m:=λz=>by subst z;exact(List.Nodup.not_mem_erase hd) hx
      omega
     rw[List.length_erase_of_mem hm]at e;omega
    .have e:=ih l hd λx hx=>by
      have h1:=hb x hx;have h2:x≠m:=λz=>hm (z▸hx)
      omega
     omega
  have hn:n∈l:=by
   by_cases hm:n∈l
   .exact hm
   .have e:=short n l hd λx hx=>by
     have h1:=hb x hx;have h2:x≠n:=λz=>hm (z▸hx)
     omega
    omega
  have ih:=il n (l.erase n) (hd.erase n) (λx hx=>by
   have h1:=hb x (List.mem_of_mem_erase hx);have h2:x≠n:=λz=>by subst z;exact(List.Nodup.not_mem_erase hd) hx
   omega) (by rw[List.length_erase_of_mem hn];omega)
  refine(List.perm_cons_erase hn).trans ((ih.cons n).trans ?_);rw[Lc];exact(List.perm_append_singleton n (List.range n)).symm
def lY {ks xs ys:List V}(h:fU ks xs ys)(hl:ks.length=xs.length):ys=(x8 ((ks.map jr).zip xs)).map Prod.snd:=by
 obtain⟨hy,p,hS,hp⟩:=h;generalize hn:xs.length=n at hy hS hp hl;have nd:((List.range n).map p).Nodup:=by
  rw[Kq,KB];intro i j hi hj hij;have hj':j<n:=by simpa using hj
  simp only[NG,LA];intro e;have q:=hS.1 i j hij hj';rw[e]at q;unfold Lx at q;omega
 have pr:=il n ((List.range n).map p) nd (λx hx=>by
  obtain⟨i,hi,rfl⟩:=JS.1 hx;exact hS.2.2 i (JN.1 hi)) (by simp)
 have q1:(((List.range n).map p).map λi=>(X6 ks i,i)).Pairwise LxP:=by
  rw[KB];intro i j hi hj hij;have hj':j<n:=by simpa using hj
  simp only[NG,LA];exact hS.1 i j hij hj'
 have q2:(x8 ((List.range n).map λi=>(X6 ks i,i))).Pairwise LxP:=jv (by
  rw[KB];intro i j hi hj hij;simpa using hij)
 have e:=jT ((pr.map λi=>(X6 ks i,i)).trans (C5 _).symm) q1 q2;have ez:(ks.map jr).zip xs=((List.range n).map λi=>(X6 ks i,i)).map λq=>(q.1,xs.getD q.2 .non):=by
  refine LZ λi=>?_
  rw[JF];by_cases hi:i<n
  .have h1:(ks.map jr)[i]? = some (X6 ks i):=by
    rw[Js];unfold X6;rw[Jr,Ji (by omega)];rfl
   have h2:xs[i]? = some (xs.getD i .non):=by
    rw[Jr,Ji (by omega)];rfl
   rw[show((ks.map jr).zip xs)[i]? = some (X6 ks i,xs.getD i .non) from Lm.2 ⟨h1,h2⟩,Js,Li hi];rfl
  .rw[Kx (by rw[List.length_zip,Jf];omega),Kx (by simp;omega)]
 rw[ez,cQ (λi=>xs.getD i .non),<-e,JF,JF,JF];refine LZ λi=>?_
 by_cases hi:i<n
 .rw[hp i hi,Js,Li hi];have hpi:=hS.2.2 i hi;show xs[p i]? = some (xs.getD (p i) .non);rw[Jr,Ji (by omega)];rfl
 .rw[Kx (by omega),Kx (by simp;omega)]
end L2
namespace L3
open PySem PySem.Spec PyProof.Rows L2
section
abbrev St:=L2.St
def hid (H:Hp)(B:List NP):Hp:=λb=>if b∈B then none else H b
def e9 {H:Hp}{B:List NP}{b:NP}(h:b ∉ B):hid H B b=H b:=by unfold hid;rw[Jo h]
def z9 {H:Hp}{B:List NP}{b:NP}(h:b∈B):hid H B b=none:=by unfold hid;rw[Jk h]
def d6 {H:Hp}{B:List NP}:d8 (hid H B) H:=λb o e=>by
 by_cases h:b∈B
 .rw[z9 h]at e;cases e
 .rwa [e9 h]at e
def M7 {H:Hp}{B B':List NP}(s:∀b∈B',b∈B):d8 (hid H B) (hid H B'):=λb o e=>by
 by_cases h:b∈B
 .rw[z9 h]at e;cases e
 .rw[e9 h]at e;rw[e9 λz=>h (s b z)];exact e
def Kp (fp:List NP)(H H':Hp):Prop:=∀b o,H b=some o->b ∉ fp->H' b=some o
def Kp.refl {fp:List NP}{H:Hp}:Kp fp H H:=λ_ _ e _=>e
def Kp.trans {fp:List NP}{H H1 H2:Hp}(a:Kp fp H H1)(b:Kp fp H1 H2):Kp fp H H2:=λc o e n=>b c o (a c o e n) n
def Kp.same {fp:List NP}{H H':Hp}(s:d8 H H'):Kp fp H H':=λb o e _=>s b o e
def Kp.upd {fp:List NP}{H:Hp}{p:NP}{o:HO}(hp:H p=none):Kp fp H (upd H p o):=Kp.same (d8.upd hp)
def Kp.hid {fp B:List NP}{H H':Hp}(k:Kp fp H H')(s:∀b∈fp,b∈B):d8 (hid H B) (hid H' B):=λb o e=>by
 by_cases h:b∈B
 .rw[z9 h]at e;cases e
 .rw[e9 h]at e ⊢;exact k b o e λz=>h (s b z)
def W0 {H:Hp}{B:List NP}{a:NP}{o:HO}(h:a∈B):hid (upd H a o) B=hid H B:=by
 funext b;by_cases hb:b∈B
 .rw[z9 hb,z9 hb]
 .rw[e9 hb,e9 hb,a8];intro e;subst e;exact hb h
def M3 (K:Fg)(fp B:List NP)(H:Hp):My->V->Prop
 | .tuple ds,v=>∃a xs,v = .ref a/\SqT K (hid H B) a xs/\a6 K (hid H B) ds xs
 | .list ds,v=>∃a xs,v = .ref a/\hid H fp a=some (.lst xs)/\a6 K (hid H B) ds xs
 | .none,v=>v = .non
 | .bool b,v=>v = .bl b
 | .int i,v=>v = .int i
 | .str x,v=>v = .str x
 | .dict _,_=>False
section
variable {K:Fg}{fp B:List NP}{H H':Hp}{d:My}{v:V}
def cf (h:a7 K (hid H B) d v)(s:∀b∈fp,b∈B):M3 K fp B H d v:=by
 cases d with
 | tuple ds =>
  simp only[a7]at h;obtain⟨a,xs,e,hq,hd⟩:=h;exact⟨a,xs,e,hq,hd⟩
 | list ds =>
  simp only[a7]at h;obtain⟨a,xs,e,hq,hd⟩:=h;exact⟨a,xs,e,M7 s _ _ hq,hd⟩
 | _=>simpa only[a7,M3] using h
def M3.dat (h:M3 K fp B H d v):a7 K H d v:=by
 cases d with
 | tuple ds =>
  obtain⟨a,xs,e,hq,hd⟩:=h;simp only[a7];exact⟨a,xs,e,hq.same d6,hd.same d6⟩
 | list ds =>
  obtain⟨a,xs,e,hq,hd⟩:=h;simp only[a7];exact⟨a,xs,e,d6 _ _ hq,hd.same d6⟩
 | _=>simpa only[a7,M3] using h
def M3.step (h:M3 K fp B H d v)(k:Kp fp H H')(s:∀b∈fp,b∈B):M3 K fp B H' d v:=by
 have sm:=k.hid s;have sf:=k.hid (B:=fp) λ_ z=>z
 cases d with
 | tuple ds =>
  obtain⟨a,xs,e,hq,hd⟩:=h;exact⟨a,xs,e,hq.same sm,hd.same sm⟩
 | list ds =>
  obtain⟨a,xs,e,hq,hd⟩:=h;exact⟨a,xs,e,sf _ _ hq,hd.same sm⟩
 | _=>exact h
def M3.tup {ds:List My}(h:M3 K fp B H (.tuple ds) v):a7 K (hid H B) (.tuple ds) v:=by
 obtain⟨a,xs,e,hq,hd⟩:=h;simp only[a7];exact⟨a,xs,e,hq,hd⟩
def BOk (H:Hp)(B:List NP):Prop:=∀b∈B,∃o,H b=some o
def BOk.nin (h:BOk H B){p:NP}(hp:H p=none):p ∉ B:=λz=>by
 obtain⟨o,e⟩:=h p z;rw[hp]at e;cases e
def U4 {p:NP}{ds:List My}{xs:List V}(bk:BOk H B)(hp:H p=none)(h:a6 K (hid H B) ds xs):a7 K (hid (upd H p (.tup xs)) B) (.tuple ds) (.ref p):=by
 have e:d8 (hid H B) (hid (upd H p (.tup xs)) B):=(Kp.upd (fp:=[]) hp).hid (by simp);refine a7.tup ?_ (h.same e);rw[e9 (bk.nin hp)];exact c7
def O2 {p:NP}{ds:List My}{xs:List V}(bk:BOk H B)(hp:H p=none)(h:a6 K (hid H B) ds xs):a7 K (hid (upd H p (.lst xs)) B) (.list ds) (.ref p):=by
 have e:d8 (hid H B) (hid (upd H p (.lst xs)) B):=(Kp.upd (fp:=[]) hp).hid (by simp);refine a7.lst ?_ (h.same e);rw[e9 (bk.nin hp)];exact c7
end
def NoT (o:HO):Prop:=(∀ps,o ≠ .tbl ps)/\∀φ,o ≠ .ext φ
class Feeds where
 S:Type
 At:NP->NP->Hp->S->Prop
 some1:∀{d c H F},At d c H F->∃o,H d=some o/\NoT o
 some2:∀{d c H F},At d c H F->∃o,H c=some o/\NoT o
 congr:∀{d c H H' F},At d c H F->H' d=H d->H' c=H c->At d c H' F
 lam:List Str
abbrev GF:=Option (NP×NP)
def tabsK (l:List Str)(K:Fg):List (Str×NP×NP):=l.filterMap λx=>(PySem.W.tabIn K x).map λp=>(x,p)
def lS (x:Str):Str:=x ++ ".<locals>." ++ "<lambda>"
def D3 (ts:List (Str×NP×NP))(H:Hp):Prop:=∀t∈ts,jy H t.2.2 (lS t.1)
def D3.congr {ts:List (Str×NP×NP)}{H H':Hp}(h:D3 ts H)(e:∀b,(b∈ts.map (·.2.2)\/∃φ,H b=some (.ext φ))->H' b=H b):D3 ts H':=λt ht=>by
 obtain⟨ps,h1,h2,h3⟩:=h t ht;refine⟨ps,(e _ (.inl (KZ ht))).trans h1,h2,λpos cv q=>?_⟩;obtain⟨c,r1,r2⟩:=h3 pos cv q;exact⟨c,r1,(e c (.inr ⟨_,r2⟩)).trans r2⟩
def D3.but {ts:List (Str×NP×NP)}{H H':Hp}{d:NP}{o0:HO}(h:D3 ts H)(hd:H d=some o0)(hn:NoT o0)(kp:∀b o,H b=some o->b≠d->H' b=some o):D3 ts H':=h.congr λb hb=>by
 obtain⟨o,e,hne⟩:∃o,H b=some o/\b≠d:=by
  rcases hb with hb | ⟨φ,e⟩
  .obtain⟨t,ht,rfl⟩:=JS.1 hb;obtain⟨ps,e,_⟩:=h t ht;exact⟨_,e,λz=>by rw[z,hd]at e;exact hn.1 ps (Jt e)⟩
  .exact⟨_,e,λz=>by rw[z,hd]at e;exact hn.2 φ (Jt e)⟩
 rw[e];exact kp b o e hne
section
variable [Feeds]
def tabP (K:Fg):List NP:=(tabsK Feeds.lam K).map (·.2.2)
def n6 (K:Fg):GF->List NP
 | none=>tabP K
 | some (d,c)=>d::c::tabP K
def lr {K:Fg}{G:GF}{b:NP}(h:b∈tabP K):b∈n6 K G:=by
 cases G with
 | none=>exact h
 | some p=>exact Jh _ (Jh _ h)
abbrev FS:=Feeds.S
abbrev M (α:Type):=FS->Option (α×FS)
def ED (G:GF)(H:Hp)(F:FS):Prop:=match G with
 | none=>True
 | some (d,c)=>Feeds.At d c H F
def FAt (K:Fg)(G:GF)(H:Hp)(F:FS):Prop:=ED G H F/\D3 (tabsK Feeds.lam K) H
def FAt.bok {K:Fg}{G:GF}{H:Hp}{F:FS}(h:FAt K G H F):BOk H (n6 K G):=λb hb=>by
 have tb:b∈tabP K->∃o,H b=some o:=λz=>by
  obtain⟨t,ht,rfl⟩:=JS.1 z;obtain⟨ps,h1,_⟩:=h.2 t ht;exact⟨_,h1⟩
 cases G with
 | none=>exact tb hb
 | some p =>
  obtain⟨d,c⟩:=p;simp only[n6,Jl]at hb;rcases hb with rfl | rfl | hb
  .obtain⟨o,e,_⟩:=Feeds.some1 h.1;exact⟨o,e⟩
  .obtain⟨o,e,_⟩:=Feeds.some2 h.1;exact⟨o,e⟩
  .exact tb hb
def FAt.congr {K:Fg}{G:GF}{H H':Hp}{F:FS}(h:FAt K G H F)(e:∀b,(b∈n6 K G\/∃φ,H b=some (.ext φ))->H' b=H b):FAt K G H' F:=by
 refine⟨?_,h.2.congr λb hb=>e b (hb.imp lr id)⟩;cases G with
 | none=>trivial
 | some p =>
  obtain⟨d,c⟩:=p;exact Feeds.congr h.1 (e d (.inl (by simp[n6]))) (e c (.inl (by simp[n6])))
def FAt.same {K:Fg}{G:GF}{H H':Hp}{F:FS}(h:FAt K G H F)(s:d8 H H'):FAt K G H' F:=h.congr λb hb=>by
 rcases hb with hb | ⟨φ,e⟩
 .obtain⟨o,e⟩:=h.bok b hb;rw[e];exact s b o e
 .rw[e];exact s b _ e
inductive DV where
 | dat (d:My) | feed | own (ds:List My) | fn (x:Str) | adr (a:NP)
abbrev DE:=List (Option DV)
def DVr (K:Fg)(G:GF)(B:List NP)(H:Hp):DV->V->Prop
 | .dat d,v=>a7 K (hid H B) d v
 | .feed,v=>∃d c,G=some (d,c)/\v = .ref d
 | .fn x,v=>∃a,v = .ref a/\PySem.W.nsIn K Og x=some (some (.ref a))
 | .adr a,v=>v = .ref a
 | .own ds,v=>∃a xs,v = .ref a/\a∈B/\a ∉ n6 K G/\H a=some (.lst xs)/\a6 K (hid H B) ds xs
structure SitE (K:Fg) (G:GF) (B:List NP) (E:DE) (F:FS) (σ:St) (H:Hp):Prop where
 fd:FAt K G H F
 fB:∀b∈n6 K G,b∈B
 bk:BOk H B
 ln:E.length = σ.length
 loc:∀(i:Nat) (x:DV),E[i]? = some (some x)->∃v,σ[i]? = some (some v)/\DVr K G B H x v
section
variable {K:Fg}{G:GF}{B:List NP}{E:DE}{F F':FS}{σ:St}{H H':Hp}
def A3 (bk:BOk H B)(k:Kp (n6 K G) H H')(f:FAt K G H' F'):BOk H' B:=λb hb=>by
 by_cases h:b∈n6 K G
 .exact f.bok b h
 .obtain⟨o,e⟩:=bk b hb;exact⟨o,k b o e h⟩
def DVr.step {x:DV}{v:V}(h:DVr K G B H x v)(k:Kp (n6 K G) H H')(fB:∀b∈n6 K G,b∈B):DVr K G B H' x v:=by
 cases x with
 | dat d=>exact a7.same (h:a7 _ _ _ _) (k.hid fB)
 | feed=>exact h
 | fn _=>exact h
 | adr _=>exact h
 | own ds =>
  obtain⟨a,xs,e,hB,hf,ha,hd⟩:=h;exact⟨a,xs,e,hB,hf,k a _ ha hf,hd.same (k.hid fB)⟩
def SitE.step (I:SitE K G B E F σ H)(k:Kp (n6 K G) H H')(f:FAt K G H' F'):SitE K G B E F' σ H' :=
 ⟨f,I.fB,A3 I.bk k f,I.ln,λi x e=>by
  obtain⟨v,h1,h2⟩:=I.loc i x e;exact⟨v,h1,h2.step k I.fB⟩⟩
end
end
end
section
section
variable [Feeds]
def TEd (K:Fg)(te:TE)(m:DE->M My):Prop:=∀(G:GF) (B:List NP) (E:DE) (F:FS) (σ:St) (H:Hp) (Q:VK) (d:My) (F':FS),SitE K G B E F σ H->m E F=some (d,F') ->
 (∀v H',Kp (n6 K G) H H'->FAt K G H' F'->a7 K (hid H' B) d v->Q v H')->te σ H Q
def TEs (K:Fg)(te:TE)(m:DE->M My):Prop:=∀(G:GF) (B:List NP) (E:DE) (F:FS) (σ:St) (H:Hp) (Q:VK) (d:My) (F':FS),SitE K G B E F σ H->m E F=some (d,F') ->
 (∀v H',Kp (n6 K G) H H'->FAt K G H' F'->M3 K (n6 K G) B H' d v->Q v H')->te σ H Q
def TEd.sh {K:Fg}{te:TE}{m:DE->M My}(h:TEd K te m):TEs K te m:=λG B E F σ H Q d F' I e q=>h G B E F σ H Q d F' I e λv H' k f hd=>q v H' k f (cf hd I.fB)
def TTd (K:Fg)(tt:TT)(m:DE->M Bool):Prop:=∀(G:GF) (B:List NP) (E:DE) (F:FS) (σ:St) (H:Hp) (Q:Bool->Hp->Prop) (b:Bool) (F':FS),SitE K G B E F σ H->m E F=some (b,F') ->
 (∀H',Kp (n6 K G) H H'->FAt K G H' F'->Q b H')->tt σ H Q
def TAd (K:Fg)(ta:TA)(m:DE->M (List My)):Prop:=∀(G:GF) (B:List NP) (E:DE) (F:FS) (σ:St) (H:Hp) (Q:List V->Hp->Prop) (ds:List My) (F':FS),SitE K G B E F σ H->m E F=some (ds,F') ->
 (∀vs H',Kp (n6 K G) H H'->FAt K G H' F'->a6 K (hid H' B) ds vs->Q vs H')->ta σ H Q
def jd (K:Fg)(fp B:List NP)(H:Hp):List My->List V->Prop
 | [],vs=>vs=[]
 | d::ds,vs=>∃v r,vs=v::r/\M3 K fp B H d v/\jd K fp B H ds r
def TAs (K:Fg)(ta:TA)(m:DE->M (List My)):Prop:=∀(G:GF) (B:List NP) (E:DE) (F:FS) (σ:St) (H:Hp) (Q:List V->Hp->Prop) (ds:List My) (F':FS),SitE K G B E F σ H->m E F=some (ds,F') ->
 (∀vs H',Kp (n6 K G) H H'->FAt K G H' F'->jd K (n6 K G) B H' ds vs->Q vs H')->ta σ H Q
structure Ev (K:Fg) (X:Cx) (e:NX) (te:TE) (m:DE->M My):Prop where
 pe:PE X e te
 ok:TEd K te m
structure Eb (K:Fg) (X:Cx) (e:NX) (te:TE) (m:DE->M My):Prop where
 pe:PE X e te
 ok:TEs K te m
structure Et (K:Fg) (X:Cx) (e:NX) (tt:TT) (m:DE->M Bool):Prop where
 pt:PT X e tt
 ok:TTd K tt m
structure Ew (K:Fg) (X:Cx) (e:NX) (tt:TT) (m:DE->M Bool):Prop where
 pw:PW X e tt
 ok:TTd K tt m
structure Ea (K:Fg) (X:Cx) (es:List NX) (ta:TA) (m:DE->M (List My)):Prop where
 pa:PA X es ta
 ok:TAd K ta m
structure Es (K:Fg) (X:Cx) (es:List NX) (ta:TA) (m:DE->M (List My)):Prop where
 pa:PA X es ta
 ok:TAs K ta m
variable {K:Fg}{X:Cx}{a b c e:NX}{es:List NX}{ta tb tc te:TE}{ma mb mc m:DE->M My}{pos:Pos}
def Ev.bw (h:Ev K X e te m):Eb K X e te m:=⟨h.pe,h.ok.sh⟩
def sC (d:My):DE->M My:=λ_ F=>some (d,F)
def sV (i:Nat):DE->M My:=λE F=>match E[i]? with
 | some (some (.dat d))=>some (d,F)
 | _=>none
def sW (i:Nat):DE->M My:=λE F=>match E[i]? with
 | some (some (.dat d))=>some (d,F)
 | some (some (.own ds))=>some (.list ds,F)
 | _=>none
def zu {d:My}{v:V}(h:∀H,a7 K H d v):TEd K (tC v) (sC d):=λG B E F σ H Q d' F' I e q=>by
 cases e;exact q v H Kp.refl I.fd (h _)
def f8 {i j}:Ev K X (.Constant (.int i) j pos) (tC (.int i)) (sC (.int i)):=⟨i7,zu λ_=>a7.int⟩
def jO {x j}:Ev K X (.Constant (.bool x) j pos) (tC (.bl x)) (sC (.bool x)):=⟨El,zu λ_=>a7.bl⟩
def bj {j}:Ev K X (.Constant .none j pos) (tC .non) (sC .none):=⟨BC,zu λ_=>a7.non⟩
def ck {x j}:Ev K X (.Constant (.str x) j pos) (tC (.str x)) (sC (.str x)):=⟨z7,zu λ_=>a7.st⟩
def DQ (i:Nat):TEd K (t9 i) (sV i):=λG B E F σ H Q d F' I e q=>by
 unfold sV at e;split at e
 .rename_i x hx;cases e;obtain⟨v,h1,h2⟩:=I.loc i _ hx;exact⟨v,h1,q v H Kp.refl I.fd h2⟩
 .cases e
def CW (i:Nat):TEs K (t9 i) (sW i):=λG B E F σ H Q d F' I e q=>by
 unfold sW at e;split at e
 .rename_i x hx;cases e;obtain⟨v,h1,h2⟩:=I.loc i _ hx;exact⟨v,h1,q v H Kp.refl I.fd (cf h2 I.fB)⟩
 .rename_i x hx;cases e;obtain⟨v,h1,h2⟩:=I.loc i _ hx;refine⟨v,h1,q v H Kp.refl I.fd ?_⟩;obtain⟨p,xs,rfl,hB,hf,hp,hd⟩:=h2;exact⟨p,xs,rfl,by rw[e9 hf];exact hp,hd⟩
 .cases e
def j6 (i:Nat){x:Str}(hN:X.N[i]? = some x:=by rfl)(hv:Vis X.env.scope x:=by first | exact Or.inl rfl | exact Or.inr (Or.inl rfl) | exact Or.inr (Or.inr rfl))(hd:(x == ("__debug__":Str))=false:=by decide)
  (hcd:(x == ("__classdict__":Str))=false:=by decide):Ev K X (.Name x pos) (t9 i) (sV i):=⟨D4 hN hv hd hcd,DQ i⟩
def d9 (i:Nat){x:Str}(hN:X.N[i]? = some x:=by rfl)(hv:Vis X.env.scope x:=by first | exact Or.inl rfl | exact Or.inr (Or.inl rfl) | exact Or.inr (Or.inr rfl))(hd:(x == ("__debug__":Str))=false:=by decide)
  (hcd:(x == ("__classdict__":Str))=false:=by decide):Eb K X (.Name x pos) (t9 i) (sW i):=⟨D4 hN hv hd hcd,CW i⟩
def rD1 (K:Fg)(f:My->Option My):V->Hp->VK->Prop:=λx H Q=>∃fp B d r,BOk H B/\M3 K fp B H d x/\f d=some r/\∀v H',d8 H H'->a7 K (hid H' B) r v->Q v H'
def rD2 (K:Fg)(f:My->My->Option My):R2:=λx y H Q=>∃fp B d e r,BOk H B/\M3 K fp B H d x/\M3 K fp B H e y/\f d e=some r/\∀v H',d8 H H'->a7 K (hid H' B) r v->Q v H'
def rDN (K:Fg)(f:List My->Option My):List V->Hp->VK->Prop:=λxs H Q=>∃fp B ds r,BOk H B/\jd K fp B H ds xs/\f ds=some r/\∀v H',d8 H H'->a7 K (hid H' B) r v->Q v H'
def s1 (f:My->Option My)(a:DE->M My):DE->M My:=λE F=>(a E F).bind λp=>(f p.1).bind λz=>some (z,p.2)
def s2 (f:My->My->Option My)(a b:DE->M My):DE->M My:=λE F=>(a E F).bind λp=>(b E p.2).bind λq=>(f p.1 q.1).bind λz=>some (z,q.2)
def sN (f:List My->Option My)(a:DE->M (List My)):DE->M My:=λE F=>(a E F).bind λp=>(f p.1).bind λz=>some (z,p.2)
def Ay {f:My->Option My}(ha:TEs K ta ma):TEd K (tUn (rD1 K f) ta) (s1 f ma):=λG B E F σ H Q d F' I e q=>by
 obtain⟨⟨x,F1⟩,e1,e⟩:=bS9 e;obtain⟨z,e2,e⟩:=bS9 e;cases e;refine ha G B E F σ H _ x F1 I e1 λv H1 k1 f1 h1=>⟨n6 K G,B,x,_,A3 I.bk k1 f1,h1,e2,λw H2 s hw=>q w H2 (k1.trans (Kp.same s)) (f1.same s) hw⟩
def rC {f:My->My->Option My}(ha:TEs K ta ma)(hb:TEs K tb mb):TEd K (tOp (rD2 K f) ta tb) (s2 f ma mb):=λG B E F σ H Q d F' I e q=>by
 obtain⟨⟨x,F1⟩,e1,e⟩:=bS9 e;obtain⟨⟨y,F2⟩,e2,e⟩:=bS9 e;obtain⟨z,e3,e⟩:=bS9 e;cases e;refine ha G B E F σ H _ x F1 I e1 λv H1 k1 f1 h1=>?_
 refine hb G B E F1 σ H1 _ y F2 (I.step k1 f1) e2 λw H2 k2 f2 h2=>⟨n6 K G,B,x,y,_,A3 I.bk (k1.trans k2) f2,h1.step k2 I.fB,h2,e3,λu H3 s hu=>q u H3 ((k1.trans k2).trans (Kp.same s)) (f2.same s) hu⟩
def Ag {f:List My->Option My}{t:TA}{ms:DE->M (List My)}(ha:TAs K t ms):TEd K (tCB (rDN K f) t) (sN f ms):=λG B E F σ H Q d F' I e q=>by
 obtain⟨⟨x,F1⟩,e1,e⟩:=bS9 e;obtain⟨z,e2,e⟩:=bS9 e;cases e;exact ha G B E F σ H _ x F1 I e1 λvs H1 k1 f1 h1=>⟨n6 K G,B,x,_,A3 I.bk k1 f1,h1,e2,λw H2 s hw=>q w H2 (k1.trans (Kp.same s)) (f1.same s) hw⟩
def F8 {op:Operator}{f:My->My->Option My}(ho:OpR X (binaryOp op) (rD2 K f))(ha:Eb K X a ta ma)(hb:Eb K X b tb mb):Ev K X (.BinOp a op b pos) (tOp (rD2 K f) ta tb) (s2 f ma mb):=⟨B7 ho ha.pe hb.pe,rC ha.ok hb.ok⟩
def Aq {op:UnaryOp}{f:My->Option My}(ho:UnR X (unaryOp op) (rD1 K f))(ha:Eb K X a ta ma):Ev K X (.UnaryOp op a pos) (tUn (rD1 K f) ta) (s1 f ma):=⟨vB ho ha.pe,Ay ha.ok⟩
def fk {op:CmpOp}{f:My->My->Option My}(ho:OpR X (compareOp op) (rD2 K f))(ha:Eb K X a ta ma)(hb:Eb K X b tb mb)(hm:behindInMarks op b=false:=by first | exact X5 _ | rfl):Ev K X (.Compare a [op] [b] pos) (tOp (rD2 K f) ta tb) (s2 f ma mb):=⟨kf ho ha.pe hb.pe hm,rC ha.ok hb.ok⟩
def t8 {f:My->My->Option My}(hr:IxR X (rD2 K f))(ha:Eb K X a ta ma)(hb:Eb K X b tb mb)(hs:lB b:=by intro _ _;rfl):Ev K X (.Subscript a b pos) (tOp (rD2 K f) ta tb) (s2 f ma mb):=⟨N4 hr ha.pe hb.pe hs,rC ha.ok hb.ok⟩
def j4 {f:List My->Option My}{id:String}{x:Str}{p:Pos}{t:TA}{ms:DE->M (List My)}(hc:D1 X (.builtin id) (rDN K f))(hm:X.mg x=none)(hv:Oj x=some (.builtin id))(ha:Es K X (e::es) t ms)(hg:Gl X x:=by rfl)(hn:x ≠ "__name__":=by decide)(hdb:(x == ("__debug__":Str))=false:=by decide)
  (he:Oa (e::es) X.env=(false,eval e X.env)::Oa es X.env:=by rfl) (hpl:(Od pos (Oa es X.env)).any (·.1)=false:=by rfl):Ev K X (.Call (.Name x p) (e::es) [] pos) (tCB (rDN K f) t) (sN f ms):=⟨Y6 hc hg hm hv ha.pa hn hdb he hpl,Ag ha.ok⟩
def E7 {f:List My->Option My}{T:String}{x:Str}{p:Pos}{t:TA}{ms:DE->M (List My)}(hc:D1 X (.type T) (rDN K f))(hm:X.mg x=none)(hv:Oj x=some (.type T))(ha:Es K X (e::es) t ms)(hg:Gl X x:=by rfl)(hn:x ≠ "__name__":=by decide)(hdb:(x == ("__debug__":Str))=false:=by decide)
  (he:Oa (e::es) X.env=(false,eval e X.env)::Oa es X.env:=by rfl) (hpl:(Od pos (Oa es X.env)).any (·.1)=false:=by rfl):Ev K X (.Call (.Name x p) (e::es) [] pos) (tCB (rDN K f) t) (sN f ms):=⟨bK hc hg hm hv ha.pa hn hdb he hpl,Ag ha.ok⟩
def i5:DE->M (List My):=λ_ F=>some ([],F)
def b9 (a:DE->M My)(r:DE->M (List My)):DE->M (List My):=λE F=>(a E F).bind λp=>(r E p.2).bind λq=>some (p.1::q.1,q.2)
def j9:Ea K X [] F0 i5:=⟨l6,λG B E F σ H Q ds F' I e q=>by cases e;exact q [] H Kp.refl I.fd a6.nil⟩
def d0 {t:TA}{ms:DE->M (List My)}(ha:Ev K X e te m)(hr:Ea K X es t ms)(hs:Oa (e::es) X.env=(false,eval e X.env)::Oa es X.env:=by rfl):Ea K X (e::es) (v6 te t) (b9 m ms) :=
 ⟨i8 ha.pe hr.pa hs,λG B E F σ H Q ds F' I e q=>by
  obtain⟨⟨x,F1⟩,e1,e⟩:=bS9 e;obtain⟨⟨ys,F2⟩,e2,e⟩:=bS9 e;cases e;refine ha.ok G B E F σ H _ x F1 I e1 λv H1 k1 f1 h1=>?_
  refine hr.ok G B E F1 σ H1 _ ys F2 (I.step k1 f1) e2 λvs H2 k2 f2 h2=>q _ H2 (k1.trans k2) f2 (.cons (h1.same (k2.hid I.fB)) h2)⟩
def j7:Es K X [] F0 i5:=⟨l6,λG B E F σ H Q ds F' I e q=>by cases e;exact q [] H Kp.refl I.fd rfl⟩
def f9 {t:TA}{ms:DE->M (List My)}(ha:Eb K X e te m)(hr:Es K X es t ms)(hs:Oa (e::es) X.env=(false,eval e X.env)::Oa es X.env:=by rfl):Es K X (e::es) (v6 te t) (b9 m ms) :=
 ⟨i8 ha.pe hr.pa hs,λG B E F σ H Q ds F' I e q=>by
  obtain⟨⟨x,F1⟩,e1,e⟩:=bS9 e;obtain⟨⟨ys,F2⟩,e2,e⟩:=bS9 e;cases e;refine ha.ok G B E F σ H _ x F1 I e1 λv H1 k1 f1 h1=>?_
  refine hr.ok G B E F1 σ H1 _ ys F2 (I.step k1 f1) e2 λvs H2 k2 f2 h2=>q _ H2 (k1.trans k2) f2 ⟨v,vs,rfl,h1.step k2 I.fB,h2⟩⟩
def V6 (a:DE->M (List My)):DE->M My:=λE F=>(a E F).bind λp=>if p.1.length<=NZ then some (.tuple p.1,p.2) else none
def ug (a:DE->M (List My)):DE->M My:=λE F=>(a E F).bind λp=>if p.1.length<=NZ then some (.list p.1,p.2) else none
def J5 {k}{t:TA}{ms:DE->M (List My)}(h:Ea K X es t ms):Ev K X (.Tuple es k pos) (sF t) (V6 ms):=⟨gY h.pa,λG B E F σ H Q d F' I e q=>by
 obtain⟨⟨x,F1⟩,e1,e⟩:=bS9 e;split at e
 .rename_i hl;cases e;refine h.ok G B E F σ H _ x F1 I e1 λvs H1 k1 f1 h1=>⟨by rw[h1.length];exact hl,λp hp=>q _ _ (k1.trans (Kp.upd hp)) (f1.same (d8.upd hp)) (U4 (A3 I.bk k1 f1) hp h1)⟩
 .cases e⟩
def pL {t:TA}{ms:DE->M (List My)}(h:Ea K X es t ms):Ev K X (.List es pos) (cz t) (ug ms):=⟨P7 h.pa,λG B E F σ H Q d F' I e q=>by
 obtain⟨⟨x,F1⟩,e1,e⟩:=bS9 e;split at e
 .rename_i hl;cases e;refine h.ok G B E F σ H _ x F1 I e1 λvs H1 k1 f1 h1=>⟨by rw[h1.length];exact hl,λp hp=>q _ _ (k1.trans (Kp.upd hp)) (f1.same (d8.upd hp)) (O2 (A3 I.bk k1 f1) hp h1)⟩
 .cases e⟩
def Z6:My->Option Bool
 | .bool b=>some b
 | _=>none
def K8 {d:My}{b:Bool}(h:Z6 d=some b):d = .bool b:=by
 cases d <;> simp[Z6]at h;rw[h]
def pF (a b:DE->M My):DE->M My:=λE F=>(a E F).bind λp=>(Z6 p.1).bind λc=>if c=true then b E p.2 else some (.bool false,p.2)
def zr (a:DE->M My):DE->M My:=λE F=>(a E F).bind λp=>(Z6 p.1).bind λc=>some (.bool (!c),p.2)
def AD {op}(h:Ev K X a te m):Ev K X (.BoolOp op [a] pos) te m:=⟨xF h.pe,h.ok⟩
def BW {rest:List NX}(ha:Ev K X a ta ma)(hb:Ev K X (.BoolOp .And (b::rest) pos) tb mb):Ev K X (.BoolOp .And (a::b::rest) pos) (wb ta tb) (pF ma mb):=⟨vc ha.pe hb.pe,λG B E F σ H Q d F' I e q=>by
 obtain⟨⟨x,F1⟩,e1,e⟩:=bS9 e;obtain⟨c,e2,e⟩:=bS9 e;refine ha.ok G B E F σ H _ x F1 I e1 λv H1 k1 f1 h1=>?_
 have:=K8 e2;simp only at this;subst this;simp only[a7]at h1;refine⟨c,h1,?_⟩;cases c with
 | true=>exact hb.ok G B E F1 σ H1 _ d F' (I.step k1 f1) e λw H2 k2 f2 h2=>q w H2 (k1.trans k2) f2 h2
 | false=>cases e;exact q _ H1 k1 f1 a7.bl⟩
def BO (ha:Ev K X a ta ma):Ev K X (.UnaryOp .Not a pos) (zR ta) (zr ma):=⟨Cg ha.pe,λG B E F σ H Q d F' I e q=>by
 obtain⟨⟨x,F1⟩,e1,e⟩:=bS9 e;obtain⟨c,e2,e⟩:=bS9 e;cases e;refine ha.ok G B E F σ H _ x F1 I e1 λv H1 k1 f1 h1=>?_
 have:=K8 e2;simp only at this;subst this;simp only[a7]at h1;exact⟨_,h1,q _ H1 k1 f1 a7.bl⟩⟩
def sIf (c:DE->M Bool)(a b:DE->M My):DE->M My:=λE F=>(c E F).bind λp=>if p.1=true then a E p.2 else b E p.2
def lU {tt:TT}{mt:DE->M Bool}(hc:Et K X c tt mt)(ha:Ev K X a ta ma)(hb:Ev K X b tb mb):Ev K X (.IfExp c a b pos) (tIf tt ta tb) (sIf mt ma mb):=⟨mw hc.pt ha.pe hb.pe,λG B E F σ H Q d F' I e q=>by
 obtain⟨⟨x,F1⟩,e1,e⟩:=bS9 e;refine hc.ok G B E F σ H _ x F1 I e1 λH1 k1 f1=>?_
 cases x with
 | true=>exact ha.ok G B E F1 σ H1 _ d F' (I.step k1 f1) e λw H2 k2 f2 h2=>q w H2 (k1.trans k2) f2 h2
 | false=>exact hb.ok G B E F1 σ H1 _ d F' (I.step k1 f1) e λw H2 k2 f2 h2=>q w H2 (k1.trans k2) f2 h2⟩
variable {tA tB:TT}{na nb:DE->M Bool}
def uB (a:DE->M My):DE->M Bool:=λE F=>(a E F).bind λp=>(Z6 p.1).bind λc=>some (c,p.2)
def vX (a b:DE->M Bool):DE->M Bool:=λE F=>(a E F).bind λp=>if p.1=true then b E p.2 else some (false,p.2)
def uOr (a b:DE->M Bool):DE->M Bool:=λE F=>(a E F).bind λp=>if p.1=true then some (true,p.2) else b E p.2
def zp (a:DE->M Bool):DE->M Bool:=λE F=>(a E F).bind λp=>some (!p.1,p.2)
def E3 {op:CmpOp}{f:My->My->Option My}(ho:OpR X (compareOp op) (rD2 K f))(ha:Eb K X a ta ma)(hb:Eb K X b tb mb)(hm:behindInMarks op b=false:=by first | exact X5 _ | rfl):Et K X (.Compare a [op] [b] pos) (bf (tOp (rD2 K f) ta tb)) (uB (s2 f ma mb)) :=
 ⟨R8 ho ha.pe hb.pe hm,λG B E F σ H Q d F' I e q=>by
  obtain⟨⟨x,F1⟩,e1,e⟩:=bS9 e;obtain⟨c,e2,e⟩:=bS9 e;cases e;refine rC ha.ok hb.ok G B E F σ H _ x F1 I e1 λv H1 k1 f1 h1=>?_
  have:=K8 e2;simp only at this;subst this;simp only[a7]at h1;exact⟨_,h1,q H1 k1 f1⟩⟩
def qH (ha:Et K X a tA na):Ew K X (.BoolOp .And [a] pos) tA na:=⟨kE ha.pt,ha.ok⟩
def Cp (ha:Et K X a tA na):Ew K X (.BoolOp .Or [a] pos) tA na:=⟨Bo ha.pt,ha.ok⟩
def wC {rest:List NX}(ha:Et K X a tA na)(hb:Ew K X (.BoolOp .And (b::rest) pos) tB nb):Ew K X (.BoolOp .And (a::b::rest) pos) (zl tA tB) (vX na nb):=⟨oG ha.pt hb.pw,λG B E F σ H Q d F' I e q=>by
 obtain⟨⟨x,F1⟩,e1,e⟩:=bS9 e;refine ha.ok G B E F σ H _ x F1 I e1 λH1 k1 f1=>?_
 cases x with
 | true=>exact hb.ok G B E F1 σ H1 _ d F' (I.step k1 f1) e λH2 k2 f2=>q H2 (k1.trans k2) f2
 | false=>cases e;exact q H1 k1 f1⟩
def DN {rest:List NX}(ha:Et K X a tA na)(hb:Ew K X (.BoolOp .Or (b::rest) pos) tB nb):Ew K X (.BoolOp .Or (a::b::rest) pos) (tOr tA tB) (uOr na nb):=⟨Di ha.pt hb.pw,λG B E F σ H Q d F' I e q=>by
 obtain⟨⟨x,F1⟩,e1,e⟩:=bS9 e;refine ha.ok G B E F σ H _ x F1 I e1 λH1 k1 f1=>?_
 cases x with
 | false=>exact hb.ok G B E F1 σ H1 _ d F' (I.step k1 f1) e λH2 k2 f2=>q H2 (k1.trans k2) f2
 | true=>cases e;exact q H1 k1 f1⟩
def Ew.t (h:Ew K X a tA na):Et K X a tA na:=⟨h.pw.pt,h.ok⟩
def AN (ha:Et K X a tA na):Et K X (.UnaryOp .Not a pos) (DJ tA) (zp na):=⟨Ck ha.pt,λG B E F σ H Q d F' I e q=>by
 obtain⟨⟨x,F1⟩,e1,e⟩:=bS9 e;cases e;exact ha.ok G B E F σ H _ x F1 I e1 λH1 k1 f1=>q H1 k1 f1⟩
def zd:My->Option Bool
 | .none=>some false
 | .bool b=>some b
 | .int i=>some (i != 0)
 | .str x=>if x.length<=NZ then some ((x.length:Int) != 0) else none
 | .tuple ds=>some (!ds.isEmpty)
 | .list ds=>some (!ds.isEmpty)
 | .dict _=>none
def uT (a:DE->M My):DE->M Bool:=λE F=>(a E F).bind λp=>(zd p.1).bind λc=>some (c,p.2)
def dF {H:Hp}{ds:List My}{xs:List V}(h:a6 K H ds xs):xs.isEmpty=ds.isEmpty:=by
 cases ds with
 | nil=>simp only[a6]at h;subst h;rfl
 | cons d r=>simp only[a6]at h;obtain⟨x,r,rfl,_⟩:=h;rfl
def BV {fp B:List NP}{H:Hp}{d:My}{v:V}{c:Bool}(h:M3 K fp B H d v)(e:zd d=some c):uY K v H c:=by
 cases d with
 | none=>cases h;cases e;rfl
 | bool b=>cases h;cases e;rfl
 | int i=>cases h;cases e;rfl
 | str x =>
  cases h;simp only[zd]at e;split at e
  .rename_i hl;cases e;exact⟨hl,rfl⟩
  .cases e
 | tuple ds =>
  obtain⟨p,xs,rfl,hq,hd⟩:=h;cases e;exact .inr (.inl ⟨xs,hq.same d6,by rw[dF hd]⟩)
 | list ds =>
  obtain⟨p,xs,rfl,hq,hd⟩:=h;cases e;exact .inl ⟨xs,SqL.of (d6 _ _ hq),by rw[dF hd]⟩
 | dict kvs=>exact(show False from h).elim
def kh (ha:Eb K X a ta ma)(hK:X.K=K:=by rfl)(he:∀whole,isTrue a X.env whole=(do let v <-whole;standAt a.pos;holding [v] (truthy v)):=by intro _;rfl) :
  Et K X a (λσ H Q=>ta σ H λx H'=>∃k,uY K x H' k/\Q k H') (uT ma):=⟨tj hK ha.pe he,λG B E F σ H Q d F' I e q=>by
 obtain⟨⟨x,F1⟩,e1,e⟩:=bS9 e;obtain⟨c,e2,e⟩:=bS9 e;cases e;exact ha.ok G B E F σ H _ x F1 I e1 λv H1 k1 f1 h1=>⟨_,BV h1 e2,q H1 k1 f1⟩⟩
end
end
section
section
variable {K:Fg}{X:Cx}
def eU {fp B:List NP}{H:Hp}{ds:List My}{d:My}{vs:List V}(h:jd K fp B H ds vs)(e:ds=[d]):∃v,vs=[v]/\M3 K fp B H d v:=by
 subst e;obtain⟨v,r,rfl,h1,h2⟩:=h;cases h2;exact⟨v,rfl,h1⟩
def Dg {fp B:List NP}{H:Hp}{ds:List My}{d e:My}{vs:List V}(h:jd K fp B H ds vs)(eq:ds=[d,e]):∃v w,vs=[v,w]/\M3 K fp B H d v/\M3 K fp B H e w:=by
 subst eq;obtain⟨v,r,rfl,h1,w,r2,rfl,h2,h3⟩:=h;cases h3;exact⟨v,w,rfl,h1,h2⟩
def i2 (C:Int->Int->Prop)[∀i j,Decidable (C i j)](g:Int->Int->My):My->My->Option My
 | .int i,.int j=>if C i j then some (g i j) else none
 | _,_=>none
def yg {C:Int->Int->Prop}[∀i j,Decidable (C i j)]{g:Int->Int->My}{d e r:My}(h:i2 C g d e=some r):∃i j,d = .int i/\e = .int j/\C i j/\r=g i j:=by
 cases d <;> cases e <;> simp only[i2]at h <;> try cases h
 split at h
 .rename_i hc;cases h;exact⟨_,_,rfl,rfl,hc,rfl⟩
 .cases h
def hV {f:NO->NO->Sem NO}{g:Int->Int->V}{gd:Int->Int->My}(ho:OpR X f (rI0 g))(hg:∀H i j,a7 K H (gd i j) (g i j)):OpR X f (rD2 K (i2 (λ_ _=>True) gd)):=by
 intro pins s σ H x y v u Q I rx ry h;obtain⟨fp,B,d,e,r,bk,h1,h2,hf,q⟩:=h;obtain⟨i,j,rfl,rfl,hc,rfl⟩:=yg hf;cases h1;cases h2;exact ho pins s σ H _ _ v u Q I rx ry ⟨i,j,rfl,rfl,q _ H (d8.refl H) (hg _ i j)⟩
abbrev fA:=i2 (λ_ _=>True) λi j=>.int (i-j)
def X8:OpR X (binaryOp .Sub) (rD2 K fA):=hV vK λ_ _ _=>a7.int
instance:∀i j,Decidable (yB i j):=λi j=>inferInstanceAs (Decidable (_/\_/\_))
instance:∀i j,Decidable (xE i j):=λi j=>inferInstanceAs (Decidable ((_/\_)\/(_/\_)))
@[irreducible] def yA:Nat:=2 ^ 400000
def zg:yA=2 ^ 400000:=by unfold yA;rfl
def Big (i j:Int):Prop:=xE i j\/(i.natAbs<yA/\j.natAbs<yA)
instance {i j:Int}:Decidable (Big i j):=inferInstanceAs (Decidable (_\/_))
def rf {n:Nat}{i:Int}(h:i.natAbs<2 ^ n):Builtin.Int.intBits i<=n:=by
 unfold Builtin.Int.intBits;split
 .exact Ka _
 .rename_i h0;have h0:i.natAbs≠0:=λz=>h0 (by simpa using z)
  exact(Nat.log2_lt h0).2 h
def Big.ok {i j:Int}(h:Big i j):IntMulOk i j:=by
 rcases h with h | ⟨h1,h2⟩
 .exact h.ok
 .unfold IntMulOk;have e:Builtin.Int.intTooBig ((Builtin.Int.intBits i:Int)+Builtin.Int.intBits j)=false:=by
   unfold Builtin.Int.intTooBig;rw[zg]at h1 h2;have a:=rf h1;have b:=rf h2;have c:(bitsLine:Nat)=134217728:=by decide
   refine JY ?_;rw[c];omega
  rw[e,ME];exact JI
def zt:OpR X (binaryOp .Mult) (rI Big λi j=>.int (i*j)):=opI λ_ _ _ _ _ _ _ hc q=>mul_int q hc.ok
abbrev ltD:=i2 (λ_ _=>True) λi j=>.bool (decide (i<j))
abbrev leD:=i2 (λ_ _=>True) λi j=>.bool (decide (i<=j))
abbrev gtD:=i2 (λ_ _=>True) λi j=>.bool (decide (j<i))
abbrev geD:=i2 (λ_ _=>True) λi j=>.bool (decide (j<=i))
def oj:OpR X (compareOp .Lt) (rD2 K ltD):=hV zY λ_ _ _=>a7.bl
def Ak:OpR X (compareOp .LtE) (rD2 K leD):=hV Eh λ_ _ _=>a7.bl
def zM:OpR X (compareOp .Gt) (rD2 K gtD):=hV Ao λ_ _ _=>a7.bl
def Dk:OpR X (compareOp .GtE) (rD2 K geD):=hV Af λ_ _ _=>a7.bl
def Z8:My->My->Option My
 | .int i,.int j=>some (.int (i+j))
 | .str x,.str y=>if x.length+y.length<=NZ then some (.str (x++y)) else none
 | .tuple xs,.tuple ys=>if xs.length+ys.length<=NZ then some (.tuple (xs++ys)) else none
 | .list xs,.list ys=>if xs.length+ys.length<=NZ then some (.list (xs++ys)) else none
 | _,_=>none
def a6.nil_of {H:Hp}{ds:List My}{xs:List V}(h:a6 K H ds xs)(e:xs=[]):ds=[]:=by
 subst e;exact KS.1 (by rw[<-h.length];rfl)
def R0 (hK:X.K=K):OpR X (binaryOp .Add) (rD2 K Z8):=by
 intro pins s σ H x y v u Q I rx ry h;obtain⟨fp,B,d,e,r,bk,h1,h2,hf,q⟩:=h;cases d <;> cases e <;> simp only[Z8]at hf <;> try cases hf
 .cases h1;cases h2;exact aq pins s σ H _ _ v u Q I rx ry ⟨_,_,rfl,rfl,q _ H (d8.refl H) a7.int⟩
 .cases h1;cases h2;split at hf
  .rename_i hl;cases hf;exact oO pins s σ H _ _ v u Q I rx ry ⟨_,_,rfl,rfl,hl,q _ H (d8.refl H) a7.st⟩
  .cases hf
 .obtain⟨a,xs,rfl,ha,hd⟩:=h1;obtain⟨b,ys,rfl,hb,he⟩:=h2;split at hf
  .rename_i hl;cases hf;refine vY pins s σ H _ _ v u Q I rx ry ⟨a,b,xs,ys,rfl,rfl,d6 _ _ ha,d6 _ _ hb,by rw[hd.length,he.length];exact hl,λp hp=>q _ _ (d8.upd hp) (O2 bk hp (a6.append he hd))⟩
  .cases hf
 .obtain⟨a,xs,rfl,ha,hd⟩:=h1;obtain⟨b,ys,rfl,hb,he⟩:=h2;split at hf
  .rename_i hl;cases hf;refine yt hK pins s σ H _ _ v u Q I rx ry ⟨a,b,xs,ys,rfl,rfl,ha.same d6,hb.same d6,by rw[hd.length,he.length];exact hl,λz=>q _ H (d8.refl H) ?_,λz=>q _ H (d8.refl H) ?_,λp hp=>q _ _ (d8.upd hp) (U4 bk hp (a6.append he hd))⟩
   .cases a6.nil_of hd z;simp only[a7,Ku];exact⟨b,ys,rfl,hb,he⟩
   .cases a6.nil_of he z;simp only[a7,Kg];exact⟨a,xs,rfl,ha,hd⟩
  .cases hf
def Bx:My->My->Option My
 | .int i,.int j=>if Big i j then some (.int (i*j)) else none
 | .list xs,.int k=>if -(2 ^ 63)<=k/\k<2 ^ 63/\xs.length*k.toNat<=NZ then some (.list (List.replicate k.toNat xs).flatten) else none
 | _,_=>none
theorem a6.rep {H:Hp}{ds:List My}{xs:List V}(h:a6 K H ds xs):∀n,a6 K H (List.replicate n ds).flatten (List.replicate n xs).flatten
 | 0=>a6.nil
 | n+1=>by
  rw[Kd,Kd,Le,Le];exact a6.append (a6.rep h n) h
def BH:OpR X (binaryOp .Mult) (rD2 K Bx):=by
 intro pins s σ H x y v u Q I rx ry h;obtain⟨fp,B,d,e,r,bk,h1,h2,hf,q⟩:=h;cases d <;> cases e <;> simp only[Bx]at hf <;> try cases hf
 .cases h1;cases h2;split at hf
  .rename_i hc;cases hf;exact zt pins s σ H _ _ v u Q I rx ry ⟨_,_,rfl,rfl,hc,q _ H (d8.refl H) a7.int⟩
  .cases hf
 .obtain⟨a,xs,rfl,ha,hd⟩:=h1;cases h2;split at hf
  .rename_i hc;cases hf;exact AV pins s σ H _ _ v u Q I rx ry ⟨a,_,xs,rfl,rfl,d6 _ _ ha,hc.1,hc.2.1,by rw[hd.length];exact hc.2.2,λp hp=>q _ _ (d8.upd hp) (O2 bk hp (a6.rep hd _))⟩
  .cases hf
open PySem.SeqAt in
def eqD (neg:Bool):My->My->Option My
 | .str x,.str y=>some (.bool (if neg then !decide (x=y) else decide (x=y)))
 | d,e=>if shaped d=true/\shaped e=true then some (.bool (if neg then !PyData.eqv d e else My.eqv d e)) else none
def qO (hK:X.K=K)(hu:X.A.units+64<On):OpR X (compareOp .Eq) (rD2 K (eqD false)):=by
 subst hK;intro pins s σ H x y v u Q I rx ry h;obtain⟨fp,B,d,e,r,bk,h1,h2,hf,q⟩:=h;unfold eqD at hf;split at hf
 .cases hf;cases h1;cases h2;have z:=q _ H (d8.refl H) a7.bl;rename_i a b;have e:decide (V.str a=V.str b)=decide (a=b):=by simp
  exact xp pins s σ H _ _ v u Q I rx ry ⟨rfl,by rw[e];exact z⟩
 .split at hf
  .rename_i hs;cases hf;obtain⟨as,ra⟩:=M1 I _ x v h1.dat rx;obtain⟨bs,rb⟩:=M1 I _ y u h2.dat ry;exact eq_dataH ra rb hs.1 hs.2 hu ⟨.bl _,H,I,rfl,q _ H (d8.refl H) a7.bl⟩
  .cases hf
def Ah (hK:X.K=K)(hu:X.A.units+64<On):OpR X (compareOp .NotEq) (rD2 K (eqD true)):=by
 subst hK;intro pins s σ H x y v u Q I rx ry h;obtain⟨fp,B,d,e,r,bk,h1,h2,hf,q⟩:=h;unfold eqD at hf;split at hf
 .cases hf;cases h1;cases h2;have z:=q _ H (d8.refl H) a7.bl;rename_i a b;have e:decide (V.str a=V.str b)=decide (a=b):=by simp
  exact Da pins s σ H _ _ v u Q I rx ry ⟨rfl,by rw[e];exact z⟩
 .split at hf
  .rename_i hs;cases hf;obtain⟨as,ra⟩:=M1 I _ x v h1.dat rx;obtain⟨bs,rb⟩:=M1 I _ y u h2.dat ry;exact ne_dataH ra rb hs.1 hs.2 hu ⟨.bl _,H,I,rfl,q _ H (d8.refl H) a7.bl⟩
  .cases hf
open PySem.SeqAt in
def inD (neg:Bool):My->My->Option My
 | d,.list xs=>if shaped (.list xs)=true/\shaped d=true then some (.bool (if neg then !(xs.any λy=>My.eqv y d) else xs.any λy=>My.eqv y d)) else none
 | d,.tuple xs=>if shaped (.tuple xs)=true/\shaped d=true then some (.bool (if neg then !(xs.any λy=>My.eqv y d) else xs.any λy=>My.eqv y d)) else none
 | _,_=>none
def ay (hK:X.K=K)(hu:X.A.units+65<On):OpR X (compareOp .In) (rD2 K (inD false)):=by
 subst hK;intro pins s σ H x y v u Q I rx ry h;obtain⟨fp,B,d,e,r,bk,h1,h2,hf,q⟩:=h;obtain⟨as,ra⟩:=M1 I _ x v h1.dat rx;obtain⟨bs,rb⟩:=M1 I _ y u h2.dat ry;cases e <;> simp only[inD]at hf <;> try cases hf
 .split at hf
  .rename_i hs;cases hf;exact PySem.SeqAt.in_list_reads rb ra (by have:=Kv hs.1;simpa only[My.canLay0] using this) (Kv hs.2) (room_in_shaped hs.2 hu) ⟨.bl _,H,I,rfl,q _ H (d8.refl H) a7.bl⟩
  .cases hf
 .split at hf
  .rename_i hs;cases hf;exact PySem.SeqAt.in_tuple_reads rb ra (by have:=Kv hs.1;simpa only[My.canLay0] using this) (Kv hs.2) (room_in_shaped hs.2 hu) ⟨.bl _,H,I,rfl,q _ H (d8.refl H) a7.bl⟩
  .cases hf
def mH (hK:X.K=K)(hu:X.A.units+65<On):OpR X (compareOp .NotIn) (rD2 K (inD true)):=by
 subst hK;intro pins s σ H x y v u Q I rx ry h;obtain⟨fp,B,d,e,r,bk,h1,h2,hf,q⟩:=h;obtain⟨as,ra⟩:=M1 I _ x v h1.dat rx;obtain⟨bs,rb⟩:=M1 I _ y u h2.dat ry;cases e <;> simp only[inD]at hf <;> try cases hf
 .split at hf
  .rename_i hs;cases hf;exact PySem.SeqAt.notIn_list_reads rb ra (by have:=Kv hs.1;simpa only[My.canLay0] using this) (Kv hs.2) (room_in_shaped hs.2 hu) ⟨.bl _,H,I,rfl,q _ H (d8.refl H) a7.bl⟩
  .cases hf
 .split at hf
  .rename_i hs;cases hf;exact PySem.SeqAt.notIn_tuple_reads rb ra (by have:=Kv hs.1;simpa only[My.canLay0] using this) (Kv hs.2) (room_in_shaped hs.2 hu) ⟨.bl _,H,I,rfl,q _ H (d8.refl H) a7.bl⟩
  .cases hf
end
end
section
section
variable {K:Fg}{X:Cx}
def a6.at {H:Hp}{ds:List My}{xs:List V}{i:Int}{d:My}(h:a6 K H ds xs)(e:atI ds i=some d):∃v,atI xs i=some v/\a7 K H d v:=by
 unfold atI at e ⊢;rw[h.length];cases q:ixN ds.length i with
 | none=>rw[q]at e;cases e
 | some j =>
  rw[q]at e;have e:ds[j]? = some d:=e;obtain⟨hj,_⟩:=Jm.1 e;have hx:xs[j]? = some (xs[j]'(by rw[h.length];exact hj)):=by simp
  obtain⟨d',h1,h2⟩:=h.get hx;rw[e]at h1;cases h1;exact⟨_,hx,h2⟩
def ixD:My->My->Option My
 | .list ds,.int i=>atI ds i
 | .tuple ds,.int i=>atI ds i
 | .str x,.int i=>if x.length<=NZ then(atI x.cps.toList i).map λc=>.str ⟨#[c]⟩ else none
 | _,_=>none
def r6 (hK:X.K=K):IxR X (rD2 K ixD):=by
 intro value slice pins s σ H x y v u Q I rx ry h hs;obtain⟨fp,B,d,e,r,bk,h1,h2,hf,q⟩:=h;cases d <;> cases e <;> simp only[ixD]at hf <;> try cases hf
 .cases h1;cases h2;split at hf
  .rename_i hl;obtain⟨c,e1,rfl⟩:=JJ.1 hf;exact Cz value slice pins s σ H _ _ v u Q I rx ry ⟨_,_,c,rfl,rfl,hl,e1,q _ H (d8.refl H) a7.st⟩ hs
  .cases hf
 .obtain⟨a,xs,rfl,ha,hd⟩:=h1;cases h2;obtain⟨w,e1,e2⟩:=a6.at hd hf;exact xx hK value slice pins s σ H _ _ v u Q I rx ry ⟨a,xs,_,w,rfl,rfl,SqL.of (d6 _ _ ha),e1,q w H (d8.refl H) e2⟩ hs
 .obtain⟨a,xs,rfl,ha,hd⟩:=h1;cases h2;obtain⟨w,e1,e2⟩:=a6.at hd hf;exact zj hK value slice pins s σ H _ _ v u Q I rx ry ⟨a,xs,_,w,rfl,rfl,ha.same d6,e1,q w H (d8.refl H) e2⟩ hs
def cM {α:Type}(xs:List α)(lo hi:Option Int):List α:=(xs.drop (HT.sIx xs.length 0 lo)).take (HT.sIx xs.length xs.length hi-HT.sIx xs.length 0 lo)
def ub (lo hi:Option Int):My->Option My
 | .list ds=>some (.list (cM ds lo hi))
 | .tuple ds=>some (.tuple (cM ds lo hi))
 | .str x=>if x.length<=NZ then some (.str (Txt.slice x lo hi)) else none
 | _=>none
theorem a6.drop {H:Hp}:∀{ds:List My} {xs:List V} (n:Nat),a6 K H ds xs->a6 K H (ds.drop n) (xs.drop n)
 | ds,xs,0,h=>h
 | [],xs,n+1,h=>by simp only[a6]at h;subst h;simp[a6]
 | d::ds,xs,n+1,h=>by
  simp only[a6]at h;obtain⟨y,r,rfl,h1,h2⟩:=h;simp only[List.drop_succ_cons];exact a6.drop n h2
def a6.cut {H:Hp}{ds:List My}{xs:List V}(h:a6 K H ds xs)(lo hi:Option Int):a6 K H (cM ds lo hi) (eO xs lo hi):=by
 unfold cM eO;rw[h.length];exact a6.take _ (a6.drop _ h)
def DH (K:Fg):V->Option Int->Option Int->Hp->VK->Prop:=λx lo hi H Q=>∃fp B d r,BOk H B/\M3 K fp B H d x/\ub lo hi d=some r/\∀v H',d8 H H'->a7 K (hid H' B) r v->Q v H'
def ku {v:NO}{o:Option Int}(h:IsPart v o):∃p:Option (Int×Tok),v=partValue p/\p.map (·.1)=o:=by
 cases h with
 | none=>exact⟨none,rfl,rfl⟩
 | int i t=>exact⟨some (i,t),rfl,rfl⟩
def AW (hK:X.K=K):SlR X (DH K):=by
 intro pins s σ H x v vl vu lo hi sl Q I rx hs pl pu h;obtain⟨fp,B,d,r,bk,h1,hf,q⟩:=h;cases d <;> simp only[ub]at hf <;> try cases hf
 .rename_i x0;cases h1;split at hf
  .rename_i hl;cases hf;obtain⟨t,rfl⟩:=rx;obtain⟨l,rfl,rfl⟩:=ku pl;obtain⟨m,rfl,rfl⟩:=ku pu;refine⟨"str",_,Mx.lookup,MZ _ _ _,getItem_meets (MZ _ _ _) (by decide) Mx F.entry_str_getitem (F.args_str_getitem_2 _ _) (meets_str_getitem_slice _ t sl l m none rfl) ⟨hs,?_⟩⟩;have z:=q _ H (d8.refl H) a7.st;unfold sliceMade;unfold Txt.slice at z;have e:slicePicked x0 l m none=Builtin.Str.strSliceIndices (l.map (·.1)) (m.map (·.1)) 1 x0.length:=rfl;rw[e];simp only[Option.map_none,ND];split
   .rename_i hc;rw[Jk hc]at z;exact⟨.str x0,H,I,⟨t,rfl⟩,z⟩
   .rename_i hc;rw[Jo hc]at z;refine⟨?_,⟨.str _,H,I.tok _,⟨_,rfl⟩,z⟩⟩;have:=Txt.slice_le x0 (l.map (·.1)) (m.map (·.1));unfold Txt.slice at this;rw[Jo hc]at this;exact JM this hl
  .cases hf
 .obtain⟨a,xs,rfl,ha,hd⟩:=h1;subst hK;exact qP pins s σ H _ v vl vu lo hi sl Q I rx hs pl pu ⟨a,xs,rfl,SqL.of (d6 _ _ ha),λp hp=>q _ _ (d8.upd hp) (O2 bk hp (a6.cut hd lo hi))⟩
 .obtain⟨a,xs,rfl,ha,hd⟩:=h1;refine xb hK pins s σ H _ v vl vu lo hi sl Q I rx hs pl pu ⟨a,xs,rfl,ha.same d6,λz=>q _ H (d8.refl H) ?_,λ_ p hp=>q _ _ (d8.upd hp) (U4 bk hp (a6.cut hd lo hi))⟩;have:=a6.cut hd lo hi;rw[z.1]at this;simp only[a7];exact⟨a,xs,rfl,ha,this⟩
end
section
variable [Feeds]{K:Fg}{X:Cx}{e:NX}{te:TE}{m:DE->M My}{pos p2:Pos}
def TOd (K:Fg)(to:TO)(m:DE->M (Option Int)):Prop:=∀(G:GF) (B:List NP) (E:DE) (F:FS) (σ:St) (H:Hp) (Q:Option Int->Hp->Prop) (d:Option Int) (F':FS),SitE K G B E F σ H->m E F=some (d,F') ->
 (∀H',Kp (n6 K G) H H'->FAt K G H' F'->Q d H')->to σ H Q
structure Eo (K:Fg) (X:Cx) (e:Option NX) (to:TO) (m:DE->M (Option Int)):Prop where
 po:PO X e to
 ok:TOd K to m
def oNo:DE->M (Option Int):=λ_ F=>some (none,F)
def dO:My->Option Int
 | .int i=>some i
 | _=>none
def cA {d:My}{i:Int}(h:dO d=some i):d = .int i:=by
 cases d <;> simp[dO]at h;rw[h]
def oI (a:DE->M My):DE->M (Option Int):=λE F=>(a E F).bind λp=>(dO p.1).bind λi=>some (some i,p.2)
def wX:Eo K X none rX oNo:=⟨qU,λG B E F σ H Q d F' I e q=>by cases e;exact q H Kp.refl I.fd⟩
def vP (h:Ev K X e te m):Eo K X (some e) (zT te) (oI m):=⟨ki h.pe,λG B E F σ H Q d F' I e q=>by
 obtain⟨⟨x,F1⟩,e1,e⟩:=bS9 e;obtain⟨i,e2,e⟩:=bS9 e;cases e;refine h.ok G B E F σ H _ x F1 I e1 λv H1 k1 f1 h1=>?_
 have:=cA e2;simp only at this;subst this;simp only[a7]at h1;exact⟨i,h1,q H1 k1 f1⟩⟩
def kN (a:DE->M My)(l u:DE->M (Option Int)):DE->M My:=λE F=>(a E F).bind λp=>(l E p.2).bind λx=>(u E x.2).bind λy=>(ub x.1 y.1 p.1).bind λz=>some (z,y.2)
def lN {lo hi:Option NX}{tl th:TO}{ml mh:DE->M (Option Int)}(he:Eb K X e te m)(hl:Eo K X lo tl ml)(hh:Eo K X hi th mh)(hK:X.K=K:=by rfl):Ev K X (.Subscript e (.Slice lo hi none p2) pos) (tSl (DH K) te tl th) (kN m ml mh) :=
 ⟨lZ (AW hK) he.pe hl.po hh.po,λG B E F σ H Q d F' I e q=>by
  obtain⟨⟨x,F1⟩,e1,e⟩:=bS9 e;obtain⟨⟨l,F2⟩,e2,e⟩:=bS9 e;obtain⟨⟨h,F3⟩,e3,e⟩:=bS9 e;obtain⟨z,e4,e⟩:=bS9 e;cases e;refine he.ok G B E F σ H _ x F1 I e1 λv H1 k1 f1 h1=>?_
  refine hl.ok G B E F1 σ H1 _ l F2 (I.step k1 f1) e2 λH2 k2 f2=>?_
  refine hh.ok G B E F2 σ H2 _ h F3 (I.step (k1.trans k2) f2) e3 λH3 k3 f3=>?_
  exact⟨n6 K G,B,x,_,A3 I.bk ((k1.trans k2).trans k3) f3,h1.step (k2.trans k3) I.fB,e4,λu H4 s hu=>q u H4 (((k1.trans k2).trans k3).trans (Kp.same s)) (f3.same s) hu⟩⟩
end
section
variable {K:Fg}{X:Cx}
def U1:List My->Option My
 | [.list ds]=>some (.int ds.length)
 | [.tuple ds]=>some (.int ds.length)
 | [.str x]=>if x.length<=NZ then some (.int x.length) else none
 | _=>none
def K2 (hK:X.K=K):D1 X (.builtin "len") (rDN K U1):=by
 intro pins s σ H xs us Q I r h;obtain⟨fp,B,ds,z,bk,h1,hf,q⟩:=h;unfold U1 at hf;split at hf <;> try cases hf
 .obtain⟨v,rfl,a,xs,rfl,ha,hd⟩:=eU h1 rfl;have:=q _ H (d8.refl H) a7.int;rw[<-hd.length]at this;exact bX hK pins s σ H _ us Q I r ⟨a,xs,rfl,.inl (SqL.of (d6 _ _ ha)),this⟩
 .obtain⟨v,rfl,a,xs,rfl,ha,hd⟩:=eU h1 rfl;have:=q _ H (d8.refl H) a7.int;rw[<-hd.length]at this;exact bX hK pins s σ H _ us Q I r ⟨a,xs,rfl,.inr (ha.same d6),this⟩
 .rename_i x0;obtain⟨v,rfl,hv⟩:=eU h1 rfl;have hv:v = .str x0:=hv;subst hv;split at hf
  .rename_i hl;cases hf;exact kY pins s σ H _ us Q I r ⟨_,rfl,hl,q _ H (d8.refl H) a7.int⟩
  .cases hf
def K6:List My->Option My
 | [.list ds]=>some (.tuple ds)
 | [.tuple ds]=>some (.tuple ds)
 | _=>none
def J7 (hK:X.K=K):D1 X (.type "tuple") (rDN K K6):=by
 intro pins s σ H xs us Q I r h;obtain⟨fp,B,ds,z,bk,h1,hf,q⟩:=h;unfold K6 at hf;split at hf <;> try cases hf
 .obtain⟨v,rfl,a,xs,rfl,ha,hd⟩:=eU h1 rfl;exact aE hK pins s σ H _ us Q I r ⟨a,xs,rfl,.inl ⟨SqL.of (d6 _ _ ha),λl hl=>q _ _ (d8.upd hl) (U4 bk hl hd)⟩⟩
 .obtain⟨v,rfl,hv⟩:=eU h1 rfl;have hv':=hv.tup;obtain⟨a,xs,rfl,ha,hd⟩:=hv;exact aE hK pins s σ H _ us Q I r ⟨a,xs,rfl,.inr ⟨ha.same d6,q _ H (d8.refl H) hv'⟩⟩
def Q4:List My->Option (List Int)
 | []=>some []
 | .int i::r=>(Q4 r).map (i :: ·)
 | _=>none
theorem S9:∀{ds:List My} {ns:List Int},Q4 ds=some ns->ds=ns.map .int
 | [],ns,h=>by cases h;rfl
 | d::r,ns,h=>by
  cases d <;> simp only[Q4]at h <;> try cases h
  obtain⟨m,e,rfl⟩:=JJ.1 h;rw[S9 e];rfl
theorem iK {H:Hp}:∀{ns:List Int} {xs:List V},a6 K H (ns.map .int) xs->xs=ns.map V.int
 | [],xs,h=>by simpa only[Kl,a6] using h
 | n::ns,xs,h=>by
  simp only[Jy,a6]at h;obtain⟨x,r,rfl,h1,h2⟩:=h;simp only[a7]at h1;rw[h1,iK h2];rfl
def cG (d:My):Bool:=d.showable && !d.hasDict&&decide (d.depth<=50)&&decide (d.shown.length<=16000000)
end
end
section
section
variable {K:Fg}{X:Cx}
def qm {d:My}(h:cG d=true):Shw d 50 16000000:=by
 unfold cG at h;simp only[LJ,Lg,Bool.not_eq_true']at h;exact⟨h.1.1.1,h.1.1.2,h.1.2,h.2⟩
def mW:List My->Option My
 | [d]=>if cG d=true then some (.str d.shown) else none
 | _=>none
def rm (hK:X.K=K)(hg:X.A.guards=some [])(hu:X.A.units+64<On):D1 X (.builtin "repr") (rDN K mW):=by
 intro pins s σ H xs us Q I r h;obtain⟨fp,B,ds,z,bk,h1,hf,q⟩:=h;unfold mW at hf;split at hf <;> try cases hf
 rename_i d;split at hf
 .rename_i ho;cases hf;obtain⟨v,rfl,hv⟩:=eU h1 rfl;have sh:=qm ho;have qq:=q _ H (d8.refl H) a7.st;cases d with
  | tuple ds =>
   have hd:=hv.dat;obtain⟨a,xs,rfl,ha,_⟩:=hv;exact jf hK hg hu pins s σ H _ us Q I r ⟨a,_,rfl,hd,sh,qq⟩
  | list ds =>
   have hd:=hv.dat;obtain⟨a,xs,rfl,ha,_⟩:=hv;exact jf hK hg hu pins s σ H _ us Q I r ⟨a,_,rfl,hd,sh,qq⟩
  | none =>
   cases(show v = .non from hv);obtain⟨u,rfl,rfl⟩:=P5 r;exact PySem.P.repr_of_none ⟨.str _,H,I.tok _,⟨_,rfl⟩,by simpa only[My.shown] using qq⟩
  | bool b =>
   cases(show v = .bl b from hv);obtain⟨u,rfl,rfl⟩:=P5 r;exact PySem.P.repr_of_bool ⟨.str _,H,I.tok _,⟨_,rfl⟩,by simpa only[My.shown] using qq⟩
  | int i =>
   cases(show v = .int i from hv);obtain⟨u,rfl,t,rfl⟩:=P5 r;have hl:i.natAbs.log2<1920:=by have:=sh.sh;simpa only[My.showable,Lg] using this
   exact PySem.P.repr_of_int hl ⟨.str _,H,I.tok _,⟨_,rfl⟩,by simpa only[My.shown] using qq⟩
  | str x =>
   cases(show v = .str x from hv);obtain⟨u,rfl,t,rfl⟩:=P5 r;have hl:(reprText x).length<=NZ:=by have:=sh.ln;simp only[My.shown]at this;exact JM this (by rw[JQ];decide)
   exact PySem.P.repr_of_str ⟨.str _,H,I.tok _,⟨_,rfl⟩,by simpa only[My.shown] using qq⟩ hl
  | dict b=>exact(show False from hv).elim
 .cases hf
def lT:List My->Option My
 | [.int i]=>some (.int i)
 | [.bool b]=>some (.int (if b then 1 else 0))
 | _=>none
def wG:D1 X (.type "int") (rDN K lT):=by
 intro pins s σ H xs us Q I r h;obtain⟨fp,B,ds,z,bk,h1,hf,q⟩:=h;unfold lT at hf;split at hf <;> try cases hf
 .rename_i i;obtain⟨v,rfl,hv⟩:=eU h1 rfl;cases(show v = .int i from hv);exact jA pins s σ H _ us Q I r (.inl ⟨i,rfl,q _ H (d8.refl H) a7.int⟩)
 .rename_i b;obtain⟨v,rfl,hv⟩:=eU h1 rfl;cases(show v = .bl b from hv);exact jA pins s σ H _ us Q I r (.inr ⟨b,rfl,q _ H (d8.refl H) a7.int⟩)
def lP:List Int->Int
 | []=>0
 | [a]=>a
 | a::b::r=>min a (lP (b::r))
theorem nM:∀{ns:List Int},ns≠[]->lP ns∈ns/\∀n∈ns,lP ns<=n
 | [],h=>absurd rfl h
 | [a],_=>⟨by simp[lP],by simp[lP]⟩
 | a::b::r,_=>by
  obtain⟨h1,h2⟩:=nM (ns:=b::r) (by simp);rw[lP];constructor
  .by_cases h:a<=lP (b::r)
   .rw[Int.min_eq_left h];simp
   .rw[Int.min_eq_right (by omega)];exact Jh _ h1
  .intro n hn;rcases Jl.1 hn with rfl | hn
   .exact Int.min_le_left _ _
   .exact Int.le_trans (Int.min_le_right _ _) (h2 n hn)
def zx:List My->Option My
 | [.tuple ds]=>(Q4 ds).bind λns=>if ns=[] then none else some (.int (lP ns))
 | [.int i,.int j]=>some (.int (if j<i then j else i))
 | _=>none
def xA (hK:X.K=K)(hc:X.calm=true):D1 X (.builtin "min") (rDN K zx):=by
 intro pins s σ H xs us Q I r h;obtain⟨fp,B,ds,z,bk,h1,hf,q⟩:=h;unfold zx at hf;split at hf <;> try cases hf
 .obtain⟨ns,e,hf⟩:=bS9 hf;split at hf
  .cases hf
  .rename_i hne;cases hf;cases S9 e;obtain⟨v,rfl,a,xs,rfl,ha,hd⟩:=eU h1 rfl;cases iK hd;refine tY hK hc pins s σ H _ us Q I r ⟨a,ns,rfl,ha.same d6,hne,λm hm hle=>?_⟩;obtain⟨m1,m2⟩:=nM hne;have:m=lP ns:=by have:=hle _ m1;have:=m2 _ hm;omega
   rw[this];exact q _ H (d8.refl H) a7.int
 .rename_i i j;obtain⟨v,w,rfl,hv,hw⟩:=Dg h1 rfl;cases(show v = .int i from hv);cases(show w = .int j from hw);exact sx hc pins s σ H _ us Q I r ⟨i,j,rfl,q _ H (d8.refl H) a7.int⟩
def xW:My->Option My
 | .int i=>some (.int (-i))
 | _=>none
def xt:UnR X (unaryOp .USub) (rD1 K xW):=by
 intro pins s σ H x v Q I rx h;obtain⟨fp,B,d,r,bk,h1,hf,q⟩:=h;cases d <;> simp only[xW]at hf <;> try cases hf
 rename_i i;cases(show x = .int i from h1);exact qB pins s σ H _ v Q I rx ⟨i,rfl,q _ H (d8.refl H) a7.int⟩
end
section
variable [Feeds]{K:Fg}{X:Cx}{e:NX}{te:TE}{m:DE->M My}{pos p p2 p3:Pos}
end
section
variable {K:Fg}{X:Cx}
def isD (neg:Bool):My->My->Option My
 | d,.none=>some (.bool (match d with | .none=>!neg | _=>neg))
 | _,_=>none
def rj {fp B:List NP}{H:Hp}{d:My}{x:V}(h:M3 K fp B H d x):decide (x = .non)=(match d with | .none=>true | _=>false):=by
 cases d with
 | none=>cases(show x = .non from h);rfl
 | bool b=>cases(show x = .bl b from h);rfl
 | int b=>cases(show x = .int b from h);rfl
 | str b=>cases(show x = .str b from h);rfl
 | tuple ds=>obtain⟨a,xs,rfl,_⟩:=h;rfl
 | list ds=>obtain⟨a,xs,rfl,_⟩:=h;rfl
 | dict b=>exact(show False from h).elim
def uN:OpR X (compareOp .Is) (rD2 K (isD false)):=by
 intro pins s σ H x y v u Q I rx ry h;obtain⟨fp,B,d,e,r,bk,h1,h2,hf,q⟩:=h;cases e <;> simp only[isD]at hf <;> try cases hf
 cases(show y = .non from h2);have z:=q (.bl (decide (x = .non))) H (d8.refl H) (by rw[rj h1];cases d <;> exact a7.bl);exact Bu pins s σ H _ _ v u Q I rx ry ⟨rfl,z⟩
def ve:OpR X (compareOp .IsNot) (rD2 K (isD true)):=by
 intro pins s σ H x y v u Q I rx ry h;obtain⟨fp,B,d,e,r,bk,h1,h2,hf,q⟩:=h;cases e <;> simp only[isD]at hf <;> try cases hf
 cases(show y = .non from h2);have z:=q (.bl (!decide (x = .non))) H (d8.refl H) (by rw[rj h1];cases d <;> exact a7.bl);exact yV pins s σ H _ _ v u Q I rx ry ⟨rfl,z⟩
end
end
section
section
variable [Feeds]{K:Fg}{X:Cx}{e:NX}{te:TE}{m:DE->M My}{pos p p2 p3:Pos}
def uW (x:Str):Str:=⟨((Builtin.Str.strSliceIndices none none (-1) x.length).filterMap (x.cps[·]?)).toArray⟩
def xy (x:Str):(uW x).length<=x.length:=by
 have h:=sliceIndicesBy_le none none (-1) (by decide) x.length;have h2:=List.length_filterMap_le (λ(i:Nat)=>x.cps[i]?) (Builtin.Str.strSliceIndices none none (-1) x.length);have e:(uW x).length=((Builtin.Str.strSliceIndices none none (-1) x.length).filterMap (x.cps[·]?)).length:=by simp[uW,Str.length]
 rw[e];exact JM h2 h
def wI:My->Option My
 | .list ds=>some (.list ds.reverse)
 | .tuple ds=>some (.tuple ds.reverse)
 | .str x=>if x.length<=NZ then some (.str (uW x)) else none
 | _=>none
def yM {j}(hK:X.K=K)(he:PE X e te):PE X (.Subscript e (.Slice none none (some (.UnaryOp .USub (.Constant (.int 1) j p) p3)) p2) pos) (tUn (rD1 K wI) te):=by
 subst hK;intro pins s σ H Q I h;refine Subscript_ (thn (he pins s σ H _ I h) λv s1 ⟨x,H1,I1,r1,q1⟩=>?_);refine wpAny_Slice ?_;rw[evalPart_none];refine Jx (Jx ?_);refine thn (ki (vB qB i7) pins s1 σ H1 (λo H2=>o=some (-1)/\H2=H1) I1 ⟨1,rfl,_,rfl,rfl,rfl⟩) λvst s2 ⟨o,H2,I2,ps,ho,hH⟩=>?_
 subst ho hH;obtain⟨fp,B,d,r,bk,h1,hf,q⟩:=q1;have I4:Inv X pins σ H2 { s2 with heap:=s2.heap.push { cls:=.type "slice",data:=.fields #[.none,.none,vst] } }:=I2.kept (t':=s2.toks) λb ob q=>Jn _ q
 show Of (model X.prog X.w) X.A (subscriptTail e (.Slice none none (some (.UnaryOp .USub (.Constant (.int 1) j p) p3)) p2) v (.ref s2.heap.objs.size)) (EP X pins σ Q) X.xe { s2 with heap:=s2.heap.push { cls:=.type "slice",data:=.fields #[.none,.none,vst] } };cases d <;> simp only[wI]at hf <;> try cases hf
 .rename_i x0;cases(show x = .str x0 from h1);split at hf
  .rename_i hl;cases hf;obtain⟨t,rfl⟩:=r1;obtain⟨l,rfl,e2⟩:=ku ps;obtain⟨⟨i0,t0⟩,rfl⟩:∃z,l=some z:=by
    cases l with
    | none=>cases e2
    | some z=>exact⟨z,rfl⟩
   simp at e2;subst e2;have z:=q _ H2 (d8.refl H2) a7.st;refine tail_any (ops:=[.str x0 t,.ref s2.heap.objs.size]) (MZ _ _ _) Mx.lookup (getItem_meets (MZ _ _ _) (by decide) Mx F.entry_str_getitem (F.args_str_getitem_2 _ _) (meets_str_getitem_slice x0 t s2.heap.objs.size none none (some (-1,t0)) rfl) ⟨⟨_,JK _ rfl,rfl,rfl⟩,?_⟩) (by with_unfolding_all rfl);unfold sliceMade;rw[Jo (by simp)];exact⟨JM (xy x0) hl,⟨.str (uW x0),H2,I4.tok _,⟨_,rfl⟩,z⟩⟩
  .cases hf
 .obtain⟨a,xs,rfl,ha,hd⟩:=h1;cases r1;obtain⟨its,r,ht,hz⟩:=I4.list (SqL.of (K:=X.K) (d6 _ _ ha));have hlen:=r.length;refine tail_any (ops:=[.ref a,.ref s2.heap.objs.size]) ht.isList.typeIs slot_list_getitem.lookup (wpAny_getItem_list_slice ht.isList (Np ..) .none .none ps (by decide) ?_ (by rw[Jw] <;> omega)) (by with_unfolding_all rfl);rw[PySem.W.krv_pick];refine⟨.ref _,_,I4.laid (t':=s2.toks) (o:=.lst xs.reverse) (λb ob q=>Jn _ q) (Jq _) ?_,rfl,?_⟩
  .exact⟨by rw[Ni];exact hz,its.reverse,0,r.reverse,JK _ rfl⟩
  .have hf:=I4.hok.fresh (Jq _);exact q _ _ (d8.upd hf) (O2 bk hf (a6.reverse hd))
 .obtain⟨a,xs,rfl,ha,hd⟩:=h1;cases r1;obtain⟨its,r,ht,hz⟩:=I4.tuple (ha.same d6);have hlen:its.toArray.size=xs.length:=by rw[Jw];exact r.length.symm
  refine tail_any (ops:=[.ref a,.ref s2.heap.objs.size]) ht.typeIs Kb.lookup (HT.getItem_tuple_rev ht (Np ..) ps ?_ (by rw[hlen];exact hz)) (by with_unfolding_all rfl);refine⟨.ref _,_,I4.laid (t':=s2.toks) (o:=.tup xs.reverse) (λb ob q=>Jn _ q) (Jq _) ?_,rfl,?_⟩
  .exact⟨by rw[Ni];exact hz,_,r.reverse,Mp _ _⟩
  .have hf:=I4.hok.fresh (Jq _);exact q _ _ (d8.upd hf) (U4 bk hf (a6.reverse hd))
def CL {j}(h:Eb K X e te m)(hK:X.K=K:=by rfl):Ev K X (.Subscript e (.Slice none none (some (.UnaryOp .USub (.Constant (.int 1) j p) p3)) p2) pos) (tUn (rD1 K wI) te) (s1 wI m):=⟨yM hK h.pe,Ay h.ok⟩
end
end
end L3
namespace L3
open PySem PySem.Spec L2
def fo:fillsNumberSlot (.type "tuple") "mul" = pure false :=
 fillsNumberSlot_seq (id:="tuple.__mul__") (r:=some (.builtin "tuple.__rmul__")) Mg.lookup (by decide +kernel) F.slot_tuple_rmul.lookup (by decide +kernel)
def lL:seqRepeat? (.type "tuple")=pure (some (.builtin "tuple.__mul__")):=by
 unfold seqRepeat?;rw[seqSlot_of (T:="tuple") (name:="__mul__") (id:="tuple.__mul__") Mg.lookup (by decide +kernel),seqSlot_of (T:="tuple") (name:="__rmul__") (id:="tuple.__rmul__") F.slot_tuple_rmul.lookup (by decide +kernel)];rfl
def iJ (a:Int)(t:Tok)(l:NP)(items:Array NO)(n:Nat)(dd:Option NP)(sl:Array (Option NO)) :
  Meets (Builtin.«int.__rmul__» ⟨[.int a t,.ref l],[]⟩) (λ_ R s=>s.heap.get? l=some { cls:=.type "tuple",dict:=dd,data:=.seq items n,slots:=sl }/\R (.ok (.ret NO.notImplemented)) s) :=
 .of_wp λprog w A R s h=>by obtain⟨hp,g,d,tk,os⟩:=s;obtain⟨hl,h⟩:=h;wp_walk;exact⟨_,rfl,h⟩
def pE (l:NP)(items:Array NO)(n:Nat)(dd:Option NP)(sl:Array (Option NO))(k:Int)(u:Tok)(hc0:(decide (k < -(2 ^ 63))||decide (k >= 2 ^ 63))=false)(hc1:(items.isEmpty||k == 1)=true) :
  Meets (Builtin.«tuple.__mul__» ⟨[.ref l,.int k u],[]⟩) (λ_ R s=>s.heap.get? l=some { cls:=.type "tuple",dict:=dd,data:=.seq items n,slots:=sl }/\R (.ok (.ret (.ref l))) s) :=
 .of_wp λprog w A R s h=>by
  obtain⟨hp,g,d,tk,os⟩:=s;obtain⟨hl,h⟩:=h;have f1:=AutoSeq1.idx_int;have f2:=Mz;have f3:=MQ;have f4:=MH;have f5:=MI;wp_walk;refine Nf (by rw[hc0];rfl) ?_;wp_walk;exact⟨_,rfl,h⟩
def pX (l:NP)(items:Array NO)(n:Nat)(dd:Option NP)(sl:Array (Option NO))(k:Int)(u:Tok)(hc0:(decide (k < -(2 ^ 63))||decide (k >= 2 ^ 63))=false)(hc1:(items.isEmpty||k == 1)=false)(hc2:(decide (k<=0)||items.isEmpty)=true) :
  Meets (Builtin.«tuple.__mul__» ⟨[.ref l,.int k u],[]⟩) (λ_ R s=>s.heap.get? l=some { cls:=.type "tuple",dict:=dd,data:=.seq items n,slots:=sl }/\R (.ok (.ret (.ref s.heap.objs.size))) { s with heap:=s.heap.push { cls:=.type "tuple",data:=.seq #[] } }) :=
 .of_wp λprog w A R s h=>by
  obtain⟨hp,g,d,tk,os⟩:=s;obtain⟨hl,h⟩:=h;have f1:=AutoSeq1.idx_int;have f2:=Mz;have f3:=MQ;have f4:=MH;have f5:=MI;wp_walk;refine Nf (by rw[hc0];rfl) ?_;wp_walk;exact⟨_,rfl,h⟩
def oJ (l:NP)(items:Array NO)(n:Nat)(dd:Option NP)(sl:Array (Option NO))(k:Int)(u:Tok)(hc0:(decide (k < -(2 ^ 63))||decide (k >= 2 ^ 63))=false)(hc1:(items.isEmpty||k == 1)=false)(hc2:(decide (k<=0)||items.isEmpty)=false)(hc3:decide ((items.size:Int)*k > (2 ^ 63-1) / 8)=false)(hc4:Builtin.Tuple.tupleTooMany ((items.size:Int)*k)=false)
  (hsz:(List.foldl (λx1 x2=>x1++x2) #[] (List.replicate k.toNat items)).size<=NZ) :
  Meets (Builtin.«tuple.__mul__» ⟨[.ref l,.int k u],[]⟩) (λ_ R s=>s.heap.get? l=some { cls:=.type "tuple",dict:=dd,data:=.seq items n,slots:=sl }/\R (.ok (.ret (.ref s.heap.objs.size))) { s with heap:=s.heap.push { cls:=.type "tuple",data:=.seq (List.foldl (λx1 x2=>x1++x2) #[] (List.replicate k.toNat items)) } }) :=
 .of_wp λprog w A R s h=>by
  obtain⟨hp,g,d,tk,os⟩:=s;obtain⟨hl,h⟩:=h;have f1:=AutoSeq1.idx_int;have f2:=Mz;have f3:=MQ;have f4:=MH;have f5:=MI;wp_walk;refine Nf (by rw[hc0];rfl) ?_;wp_walk;refine Nf hc3 ?_;wp_walk;exact⟨_,rfl,h⟩
section
open PyProof.Rows
variable {K:Fg}{X:Cx}
def dE:My->My->Option My
 | .tuple xs,.int k=>if -(2 ^ 63)<=k/\k<2 ^ 63/\xs.length*k.toNat<=NZ then some (.tuple (List.replicate k.toNat xs).flatten) else none
 | d,e=>Bx d e
def yo (hK:X.K=K):OpR X (binaryOp .Mult) (λx y H Q=>∃l k xs,x = .ref l/\y = .int k/\SqT K H l xs /\ -(2 ^ 63)<=k/\k<2 ^ 63/\xs.length*k.toNat<=NZ /\
  ((List.replicate k.toNat xs).flatten=xs->Q (.ref l) H)/\∀p,H p=none->Q (.ref p) (upd H p (.tup (List.replicate k.toNat xs).flatten))):=by
 subst hK;intro pins s σ H x y v u Q I rx ry h;obtain⟨l,k,xs,rfl,rfl,hq,h1,h2,hz,q0,q1⟩:=h;cases rx;obtain⟨t,rfl⟩:=ry;obtain⟨its,r,p,hl⟩:=I.tuple hq;have hlen:=r.length;obtain⟨⟨cls,dd,data,sl⟩,ho,hc,n,hd⟩:=id p;simp only at hc hd;subst hc hd;have hc0:(decide (k < -(2 ^ 63))||decide (k >= 2 ^ 63))=false:=by
  rw[JY (by omega),JY (by omega)];rfl
 have e1:s.TypeIs (.ref l) "tuple":=⟨_,ho,rfl⟩;refine wpAny_binaryOp_repeat_ref (T:="tuple") (U:="int") (by decide) e1 (λs'=>typeIs_int s' k t) fo F.fills_int_mul Na lL F.slot_int_index.lookup
  (Me Na (typeIs_int s k t) F.entry_int_rmul (F.args_int_rmul_2 _ _) (iJ k t l its.toArray n dd sl) ⟨ho,rfl,e1,?_⟩)
 by_cases c1:(its.toArray.isEmpty||k == 1)=true
 .refine Me Mg e1 F.entry_tuple_mul (Nq _ _) (pE l its.toArray n dd sl k t hc0 c1) ⟨ho,⟨.ref l,H,I,rfl,q0 ?_⟩⟩;simp only[Bool.or_eq_true,beq_iff_eq]at c1;rcases c1 with c1 | c1
  .have:xs=[]:=by
    cases r with
    | nil=>rfl
    | cons a b=>simp at c1
   subst this;simp
  .subst c1;simp
 .have c1:(its.toArray.isEmpty||k == 1)=false:=by simpa using c1
  by_cases c2:(decide (k<=0)||its.toArray.isEmpty)=true
  .refine Me Mg e1 F.entry_tuple_mul (Nq _ _) (pX l its.toArray n dd sl k t hc0 c1 c2) ⟨ho,?_⟩;have ez:(List.replicate k.toNat xs).flatten=[]:=by
    rw[Bool.or_eq_false_iff]at c1;rw[c1.1,Bool.or_false]at c2;have:k.toNat=0:=by have:=JT c2;omega
    rw[this];rfl
   have z:=q1 _ I.fresh;rw[ez]at z;exact⟨.ref _,_,I.laid (t':=s.toks) (o:=.tup []) (λb ob q=>Jn _ q) (Jq _) ⟨Ka _,[],.nil,Mp _ _⟩,rfl,z⟩
  .have c2:(decide (k<=0)||its.toArray.isEmpty)=false:=by simpa using c2
   have hk0:0<k:=by
    rw[Bool.or_eq_false_iff]at c2;have:=Kj c2.1;omega
   have hm:(its.toArray.size:Int)*k<=NZ:=by
    obtain⟨j,rfl⟩:∃j:Nat,k=j:=⟨k.toNat,by omega⟩;rw[Jw,<-hlen];simp only[KN]at hz;exact_mod_cast hz
   have hfold:List.foldl (λx1 x2=>x1++x2) #[] (List.replicate k.toNat its.toArray)=(List.replicate k.toNat its).flatten.toArray:=by
    have:=fy its k.toNat [];rw[Ku]at this;exact this
   have hsl:(NZ:Int)<=(2 ^ 63-1) / 8:=by rw[JQ];decide
   refine Me Mg e1 F.entry_tuple_mul (Nq _ _) (oJ l its.toArray n dd sl k t hc0 c1 c2 (JY (by omega)) (JY (by omega)) ?_) ⟨ho,?_⟩
   .rw[hfold,Jw,lz,<-hlen,Nat.mul_comm];exact hz
   .rw[hfold];exact⟨.ref _,_,I.laid (t':=s.toks) (o:=.tup (List.replicate k.toNat xs).flatten) (λb ob q=>Jn _ q) (Jq _) ⟨by rw[lz,Nat.mul_comm];exact hz,_,r.rep k.toNat,Mp _ _⟩,rfl,q1 _ I.fresh⟩
def kg (hK:X.K=K):OpR X (binaryOp .Mult) (rD2 K dE):=by
 intro pins s σ H x y v u Q I rx ry h;obtain⟨fp,B,d,e,r,bk,h1,h2,hf,q⟩:=h;unfold dE at hf;split at hf
 .rename_i ds k;obtain⟨a,xs,rfl,ha,hd⟩:=h1;cases(show y = .int k from h2);split at hf
  .rename_i hc;cases hf;refine yo hK pins s σ H _ _ v u Q I rx ry ⟨a,k,xs,rfl,rfl,ha.same d6,hc.1,hc.2.1,by rw[hd.length];exact hc.2.2,λe=>q _ H (d8.refl H) ?_,λp hp=>q _ _ (d8.upd hp) (U4 bk hp (a6.rep hd _))⟩;have:=a6.rep hd k.toNat;rw[e]at this;simp only[a7];exact⟨a,xs,rfl,ha,this⟩
  .cases hf
 .exact BH pins s σ H x y v u Q I rx ry ⟨fp,B,d,e,r,bk,h1,h2,hf,q⟩
end
end L3
namespace L3
open PySem PySem.Spec PyProof.Rows L2
section
section
variable [Feeds]
def eX (K:Fg)(P:Hp->List NP->Prop)(J:It)(items:List My):Prop:=∀H B,P H B ->
 (∀i d,items[i]? = some d->J.go i H/\∀x H2,J.yld i H x H2->d8 H H2/\(BOk H B->a7 K (hid H2 B) d x))/\J.stop items.length H
def TId (K:Fg)(wi:TI)(mi:DE->M (List My)):Prop:=∀(G:GF) (B:List NP) (E:DE) (F:FS) (σ:St) (H:Hp) (R:It->Hp->Prop) (ds:List My) (F':FS),SitE K G B E F σ H->mi E F=some (ds,F') ->
 (∀J H',Kp (n6 K G) H H'->FAt K G H' F'->eX K (λH2 B2=>d8 (hid H' B) (hid H2 B2)) J ds->R J H')->wi σ H R
def TIs (K:Fg)(wi:TI)(mi:DE->M (List My)):Prop:=∀(G:GF) (B:List NP) (E:DE) (F:FS) (σ:St) (H:Hp) (R:It->Hp->Prop) (ds:List My) (F':FS),SitE K G B E F σ H->mi E F=some (ds,F') ->
 (∀J H',Kp (n6 K G) H H'->FAt K G H' F'->eX K (λH2 B2=>Kp (n6 K G) H' H2/\d8 (hid H' B) (hid H2 B2)) J ds->R J H')->wi σ H R
def TId.sh {K:Fg}{wi:TI}{mi:DE->M (List My)}(h:TId K wi mi):TIs K wi mi:=λG B E F σ H R ds F' I e q=>h G B E F σ H R ds F' I e λJ H' k f ok=>q J H' k f λH2 B2 kp=>ok H2 B2 kp.2
structure Ei (K:Fg) (X:Cx) (tg iter:NX) (wi:TI) (mi:DE->M (List My)):Prop where
 pi:PI X tg iter wi
 ok:TId K wi mi
structure Eib (K:Fg) (X:Cx) (tg iter:NX) (wi:TI) (mi:DE->M (List My)):Prop where
 pi:PI X tg iter wi
 ok:TIs K wi mi
variable {K:Fg}{X:Cx}{tg iter e:NX}{te:TE}{m:DE->M My}{pos p:Pos}
def Ei.bw {wi:TI}{mi:DE->M (List My)}(h:Ei K X tg iter wi mi):Eib K X tg iter wi mi:=⟨h.pi,h.ok.sh⟩
def Bz (K:Fg)(tl:TE):TI:=λσ H R=>tl σ H λx H1=>∃a,x = .ref a/\(((∃xs,SqL K H1 a xs)/\R (Itl K a) H1)\/((∃xs,SqT K H1 a xs)/\R (Itt K a) H1))
def wu {l:NX}{tl:TE}(hK:X.K=K)(hl:PE X l tl):PI X tg l (Bz K tl):=by
 subst hK;intro pins s σ H R I h;refine thn (hl pins s σ H _ I h) λv s1 ⟨x,H1,I1,r1,q1⟩=>?_
 obtain⟨a,e,q⟩:=q1;subst e;cases r1;rcases q with ⟨⟨xs,hq⟩,q⟩ | ⟨⟨xs,hq⟩,q⟩
 .obtain⟨its,rv,p,hz⟩:=I1.list hq;refine wpAny_pyIter_list p.isList ?_;refine⟨s1.heap.objs.size,[s1.heap.objs.size],_,_,H1,rfl,I1.kept (t':=s1.toks) λb o e=>Jn _ e,tw a _,⟨_,JK _ rfl,rfl,rfl⟩,λb hb=>?_,q⟩;have e:b=s1.heap.objs.size:=by simpa using hb
  subst e;exact I1.fpOk (Jq _) (I1.hok.fresh (Jq _))
 .obtain⟨its,rv,p,hz⟩:=I1.tuple hq;refine Lz (show s1.heap.IsTuple a its.toArray from p) ?_;refine⟨s1.heap.objs.size,[s1.heap.objs.size],_,_,H1,rfl,I1.kept (t':=s1.toks) λb o e=>Jn _ e,qu a _,⟨_,JK _ rfl,rfl,rfl⟩,λb hb=>?_,q⟩;have e:b=s1.heap.objs.size:=by simpa using hb
  subst e;exact I1.fpOk (Jq _) (I1.hok.fresh (Jq _))
def jM:My->Option (List My)
 | .list ds=>some ds
 | .tuple ds=>some ds
 | _=>none
def U3 (a:DE->M My):DE->M (List My):=λE F=>(a E F).bind λp=>(jM p.1).bind λds=>some (ds,p.2)
def a6.item {H:Hp}{ds:List My}{xs:List V}{i:Nat}{d:My}(h:a6 K H ds xs)(e:ds[i]? = some d):∃v,xs[i]? = some v/\a7 K H d v:=by
 obtain⟨hj,_⟩:=Jm.1 e;have hx:xs[i]? = some (xs[i]'(by rw[h.length];exact hj)):=by simp
 obtain⟨d',h1,h2⟩:=h.get hx;rw[e]at h1;cases h1;exact⟨_,hx,h2⟩
def rH {P:Hp->List NP->Prop}{a:NP}{ds:List My}{xs:List V}(h:∀H B,P H B->H a=some (.lst xs)/\a6 K (hid H B) ds xs):eX K P (Itl K a) ds:=λH B hp=>by
 obtain⟨h1,h2⟩:=h H B hp;refine⟨λi d e=>?_,⟨xs,SqL.of h1,by rw[h2.length];exact Jq _⟩⟩;obtain⟨v,e1,e2⟩:=a6.item h2 e;refine⟨⟨xs,v,SqL.of h1,e1⟩,λx H2 y=>?_⟩;obtain⟨rfl,y⟩:=y;have:=y xs (SqL.of h1);rw[e1]at this;cases this;exact⟨d8.refl _,λ_=>e2⟩
def vV {P:Hp->List NP->Prop}{a:NP}{ds:List My}{xs:List V}(h:∀H B,P H B->SqT K H a xs/\a6 K (hid H B) ds xs):eX K P (Itt K a) ds:=λH B hp=>by
 obtain⟨h1,h2⟩:=h H B hp;refine⟨λi d e=>?_,⟨xs,h1,by rw[h2.length];exact Jq _⟩⟩;obtain⟨v,e1,e2⟩:=a6.item h2 e;refine⟨⟨xs,v,h1,e1⟩,λx H2 y=>?_⟩;obtain⟨rfl,y⟩:=y;have:=y xs h1;rw[e1]at this;cases this;exact⟨d8.refl _,λ_=>e2⟩
def kl (h:Ev K X e te m)(hK:X.K=K:=by rfl):Ei K X tg e (Bz K te) (U3 m):=⟨wu hK h.pe,λG B E F σ H R ds F' I e q=>by
 obtain⟨⟨y,F1⟩,e1,e⟩:=bS9 e;obtain⟨z,e2,e⟩:=bS9 e;cases e;refine h.ok G B E F σ H _ y F1 I e1 λv H1 k1 f1 h1=>?_
 cases y with
 | list ys =>
  cases e2;simp only[a7]at h1;obtain⟨a,xs,rfl,ha,hd⟩:=h1;refine⟨a,rfl,.inl ⟨⟨xs,SqL.of (d6 _ _ ha)⟩,q _ H1 k1 f1 (rH λH2 B2 s=>⟨d6 _ _ (s _ _ ha),hd.same s⟩)⟩⟩
 | tuple ys =>
  cases e2;simp only[a7]at h1;obtain⟨a,xs,rfl,ha,hd⟩:=h1;refine⟨a,rfl,.inr ⟨⟨xs,ha.same d6⟩,q _ H1 k1 f1 (vV λH2 B2 s=>⟨(ha.same s).same d6,hd.same s⟩)⟩⟩
 | _=>cases e2⟩
def G1 (h:Eb K X e te m)(hK:X.K=K:=by rfl):Eib K X tg e (Bz K te) (U3 m):=⟨wu hK h.pe,λG B E F σ H R ds F' I e q=>by
 obtain⟨⟨y,F1⟩,e1,e⟩:=bS9 e;obtain⟨z,e2,e⟩:=bS9 e;cases e;refine h.ok G B E F σ H _ y F1 I e1 λv H1 k1 f1 h1=>?_
 cases y with
 | list ys =>
  cases e2;obtain⟨a,xs,rfl,ha,hd⟩:=h1;refine⟨a,rfl,.inl ⟨⟨xs,SqL.of (d6 _ _ ha)⟩,q _ H1 k1 f1 (rH λH2 B2 k=>⟨d6 _ _ (k.1.hid (B:=n6 K G) (λ_ z=>z) _ _ ha),hd.same k.2⟩)⟩⟩
 | tuple ys =>
  cases e2;obtain⟨a,xs,rfl,ha,hd⟩:=h1;refine⟨a,rfl,.inr ⟨⟨xs,ha.same d6⟩,q _ H1 k1 f1 (vV λH2 B2 k=>⟨(ha.same k.2).same d6,hd.same k.2⟩)⟩⟩
 | _=>cases e2⟩
def af (lo:Int)(n:Nat):List My:=(List.range n).map λ(i:Nat)=>.int (lo+i)
def vk {P:Hp->List NP->Prop}{lo:Int}{n:Nat}:eX K P (Itr lo n) (af lo n):=λH B _=>by
 refine⟨λi d e=>?_,by show n<=_;simp[af]⟩;unfold af at e;rw[Js]at e;obtain⟨j,e1,rfl⟩:=JJ.1 e;obtain⟨hj,e2⟩:=Jm.1 e1;simp at hj e2;subst e2;refine⟨hj,λx H2 y=>?_⟩;obtain⟨rfl,rfl⟩:=y;exact⟨d8.refl _,λ_=>a7.int⟩
def T1:List My->Option (List My)
 | [.int j]=>if -(2 ^ 62)<=j/\j<2 ^ 62 then some (af 0 j.toNat) else none
 | _=>none
def cK:List My->Option (List My)
 | [.int i,.int j]=>if -(2 ^ 62)<=i/\i<2 ^ 62 /\ -(2 ^ 62)<=j/\j<2 ^ 62 then some (af i (j-i).toNat) else none
 | _=>none
def df (a:DE->M (List My)):DE->M (List My):=λE F=>(a E F).bind λp=>(T1 p.1).bind λds=>some (ds,p.2)
def qK (a:DE->M (List My)):DE->M (List My):=λE F=>(a E F).bind λp=>(cK p.1).bind λds=>some (ds,p.2)
def bz {a:NX}{ta:TA}{ms:DE->M (List My)}(h:Ea K X [a] ta ms)(hm:X.mg "range" = none)(hg:Gl X "range":=by rfl)(hs:Oa [a] X.env=[(false,eval a X.env)]:=by rfl):Ei K X tg (.Call (.Name "range" p) [a] [] pos) (uE ta) (df ms):=⟨jw hg hm h.pa hs,λG B E F σ H R ds F' I e q=>by
 obtain⟨⟨ys,F1⟩,e1,e⟩:=bS9 e;obtain⟨z,e2,e⟩:=bS9 e;cases e;refine h.ok G B E F σ H _ ys F1 I e1 λvs H1 k1 f1 h1=>?_
 unfold T1 at e2;split at e2
 .rename_i j hj;split at e2
  .rename_i hc;cases e2;have hj:ys=[.int j]:=hj;subst hj;simp only[a6]at h1;obtain⟨x,r,rfl,h2,rfl⟩:=h1;simp only[a7]at h2;subst h2;exact⟨j,rfl,hc.1,hc.2,q _ H1 k1 f1 vk⟩
  .cases e2
 .cases e2⟩
def yQ {a b:NX}{ta:TA}{ms:DE->M (List My)}(h:Ea K X [a,b] ta ms)(hm:X.mg "range" = none)(hg:Gl X "range":=by rfl)(hs:Oa [a,b] X.env=[(false,eval a X.env),(false,eval b X.env)]:=by rfl)(hs2:Oa [b] X.env=[(false,eval b X.env)]:=by rfl):Ei K X tg (.Call (.Name "range" p) [a,b] [] pos) (AB ta) (qK ms):=⟨sS hg hm h.pa hs hs2,λG B E F σ H R ds F' I e q=>by
 obtain⟨⟨ys,F1⟩,e1,e⟩:=bS9 e;obtain⟨z,e2,e⟩:=bS9 e;cases e;refine h.ok G B E F σ H _ ys F1 I e1 λvs H1 k1 f1 h1=>?_
 unfold cK at e2;split at e2
 .rename_i i j hj;split at e2
  .rename_i hc;cases e2;have hj:ys=[.int i,.int j]:=hj;subst hj;simp only[a6]at h1;obtain⟨x,r,rfl,h2,y,r2,rfl,h3,rfl⟩:=h1;simp only[a7]at h2 h3;subst h2 h3;exact⟨i,j,rfl,hc,q _ H1 k1 f1 vk⟩
  .cases e2
 .cases e2⟩
def TGd (K:Fg)(g:TG)(bd:My->DE->Option DE):Prop:=∀(G:GF) (B:List NP) (E:DE) (F:FS) (σ:St) (H:Hp) (x:V) (d:My) (E':DE) (Q:St->Hp->Prop),SitE K G B E F σ H->a7 K (hid H B) d x->bd d E=some E' ->
 (∀σ',SitE K G B E' F σ' H->(∀i:Nat,(∀y,E'[i]? ≠ some (some (.dat y)))->E'[i]? = E[i]? /\ σ'[i]? = σ[i]?)->Q σ' H)->g x σ H Q
def Eu (K:Fg)(g:TGs)(bd:List My->DE->Option DE):Prop:=∀(G:GF) (B:List NP) (E:DE) (F:FS) (σ:St) (H:Hp) (xs:List V) (ds:List My) (E':DE) (Q:St->Hp->Prop),SitE K G B E F σ H->a6 K (hid H B) ds xs->bd ds E=some E' ->
 (∀σ',SitE K G B E' F σ' H->(∀i:Nat,(∀y,E'[i]? ≠ some (some (.dat y)))->E'[i]? = E[i]? /\ σ'[i]? = σ[i]?)->Q σ' H)->g xs σ H Q
structure Eg (K:Fg) (X:Cx) (tg:NX) (g:TG) (bd:My->DE->Option DE):Prop where
 pg:PG X tg g
 ok:TGd K g bd
structure Egs (K:Fg) (X:Cx) (tgs:List NX) (g:TGs) (bd:List My->DE->Option DE):Prop where
 pg:PGs X tgs g
 ok:Eu K g bd
def bN (i:Nat):My->DE->Option DE:=λd E=>if i<E.length then some (E.set i (some (.dat d))) else none
def SitE.set {G:GF}{B:List NP}{E:DE}{F:FS}{σ:St}{H:Hp}{i:Nat}{d:My}{v:V}(I:SitE K G B E F σ H)(h:a7 K (hid H B) d v)(hi:i<E.length):SitE K G B (E.set i (some (.dat d))) F (σ.set i (some v)) H:=by
 refine⟨I.fd,I.fB,I.bk,by rw[Kh,Kh];exact I.ln,λj x e=>?_⟩;have hs:i < σ.length:=by rw[<-I.ln];exact hi
 by_cases hj:i=j
 .subst hj;rw[Ju hi]at e;cases e;exact⟨v,by rw[Ju hs],h⟩
 .rw[Jp hj]at e;rw[Jp hj];exact I.loc j x e
def n8 {i:Nat}{x:Str}(hN:X.N.Nodup)(hi:X.N[i]? = some x:=by rfl)(hx:Loc X.env.scope x:=by first | exact Or.inl rfl | exact Or.inr rfl)(hf:X.fn x=true\/X.env.scope.names.lookup x=some .local:=by first | exact .inl rfl | exact .inr rfl | assumption):Eg K X (.Name x pos) (K0 i) (bN i):=⟨gz hN hi hx hf,λG B E F σ H x d E' Q I h e q=>by
 unfold bN at e;split at e
 .rename_i hl;cases e;refine q _ (I.set h hl) λj hj=>?_
  by_cases hij:i=j
  .subst hij;exact absurd (Ju hl) (hj d)
  .rw[Jp hij,Jp hij];exact⟨rfl,rfl⟩
 .cases e⟩
def S7:List My->DE->Option DE:=λds E=>if ds.isEmpty then some E else none
def j8 (a:My->DE->Option DE)(r:List My->DE->Option DE):List My->DE->Option DE
 | d::ds,E=>(a d E).bind λE1=>r ds E1
 | [],_=>none
def x5:Egs K X [] CA S7:=⟨qN,λG B E F σ H xs ds E' Q I h e q=>by
 cases ds with
 | nil=>cases e;simp only[a6]at h;exact⟨h,q σ I λ_ _=>⟨rfl,rfl⟩⟩
 | cons d r=>cases e⟩
def d5 {es:List NX}{t:TG}{u:TGs}{ba:My->DE->Option DE}{br:List My->DE->Option DE}(h1:Eg K X e t ba)(h2:Egs K X es u br)
  (hs:(Om (e::es) X.env).map (·.2)=assign e X.env::(Om es X.env).map (·.2):=by rfl):Egs K X (e::es) (rK t u) (j8 ba br):=⟨gR h1.pg h2.pg hs,λG B E F σ H xs ds E' Q I h e q=>by
 cases ds with
 | nil=>cases e
 | cons d r =>
  obtain⟨E1,e1,e⟩:=bS9 e;simp only[a6]at h;obtain⟨x,rr,rfl,hx,hr⟩:=h;refine⟨x,rr,rfl,h1.ok G B E F σ H x d E1 _ I hx e1 λσ1 I1 k1=>?_⟩;refine h2.ok G B E1 F σ1 H rr r E' _ I1 hr e λσ2 I2 k2=>q σ2 I2 λi hi=>?_
  obtain⟨a1,a2⟩:=k2 i hi;obtain⟨b1,b2⟩:=k1 i (λy z=>hi y (a1.trans z));exact⟨a1.trans b1,a2.trans b2⟩⟩
def P9 (n:Nat)(r:List My->DE->Option DE):My->DE->Option DE
 | .tuple ds,E=>if ds.length=n then r ds E else none
 | _,_=>none
def D2 {es:List NX}{k:Nat}{t:TGs}{n:Nat}{br:List My->DE->Option DE}(hc:X.calm=true)(h:Egs K X es t br)(hK:X.K=K:=by rfl)
  (hn:(Om es X.env).length=n:=by rfl) (hst:(Om es X.env).findIdx? (·.1)=none:=by rfl):Eg K X (.Tuple es k pos) (zD K n t) (P9 n br):=⟨rM hK hc h.pg hn hst,λG B E F σ H x d E' Q I hd e q=>by
 cases d <;> simp only[P9]at e <;> try cases e
 split at e
 .rename_i hl;simp only[a7]at hd;obtain⟨a,xs,rfl,ha,hx⟩:=hd;exact⟨a,xs,rfl,ha.same d6,by rw[hx.length];exact hl,h.ok G B E F σ H xs _ E' Q I hx e q⟩
 .cases e⟩
def lp (k:Nat)(cap:List Nat)(E:DE):DE:=List.replicate k none++cap.map λj=>(E[j]?).join
def SitE.cap {G:GF}{B:List NP}{E:DE}{F:FS}{σ:St}{H:Hp}(I:SitE K G B E F σ H)(k:Nat)(cap:List Nat):SitE K G B (lp k cap E) F (bS k cap σ) H:=by
 refine⟨I.fd,I.fB,I.bk,by simp[lp,bS],λi x e=>?_⟩;unfold lp at e;by_cases hi:i<k
 .rw[JL (by simpa using hi),Ki,Jk hi]at e;cases e
 .rw[JR (by simpa using hi),KG,Js]at e;obtain⟨j,hj,hv⟩:=JJ.1 e;have hE:E[j]? = some (some x):=by
   cases q:E[j]? with
   | none=>rw[q]at hv;cases hv
   | some o=>rw[q]at hv;exact Kk some hv
  obtain⟨v,h1,h2⟩:=I.loc j x hE;refine⟨v,?_,h2⟩;unfold bS;rw[JR (by simpa using hi),KG,Js,hj,LD,h1];rfl
def SitE.more {G:GF}{B:List NP}{E:DE}{F:FS}{σ:St}{H:Hp}{D:NP}{o:HO}(I:SitE K G B E F σ H)(hD:H D=none):SitE K G (D::B) E F σ (upd H D o):=by
 have hn:D ∉ B:=I.bk.nin hD;have e1:hid (upd H D o) (D::B)=hid H B:=by
  funext b;by_cases hb:b=D
  .subst hb;rw[z9 Jv,e9 hn,hD]
  .by_cases hB:b∈B
   .rw[z9 hB,z9 (Jh _ hB)]
   .rw[e9 hB,e9 (by simp[hb,hB]),a8 hb]
 refine⟨I.fd.same (d8.upd hD),λb hb=>Jh _ (I.fB b hb),λb hb=>?_,I.ln,λi x e=>?_⟩
 .rcases Jl.1 hb with rfl | hb
  .exact⟨o,c7⟩
  .obtain⟨u,e⟩:=I.bk b hb;exact⟨u,by rw[a8 (e8 e hD)];exact e⟩
 .obtain⟨v,h1,h2⟩:=I.loc i x e;refine⟨v,h1,?_⟩;cases x with
  | dat d=>show a7 K (hid (upd H D o) (D::B)) d v;rw[e1];exact h2
  | feed=>exact h2
  | fn _=>exact h2
  | adr _=>exact h2
  | own ds =>
   obtain⟨a,xs,ea,hB,hf,ha,hd⟩:=h2;exact⟨a,xs,ea,Jh _ hB,hf,by rw[a8 (e8 ha hD)];exact ha,by rw[e1];exact hd⟩
def SitE.wr {G:GF}{B:List NP}{E:DE}{F:FS}{σ:St}{H:Hp}{D:NP}{o:HO}(I:SitE K G (D::B) E F σ H)(hf:D ∉ n6 K G)(hown:∀(i:Nat) (ds:List My),E[i]? = some (some (DV.own ds))->σ[i]? ≠ some (some (V.ref D))){acc:List V}(hD:H D=some (.lst acc)):SitE K G (D::B) E F σ (upd H D o):=by
 have e1:hid (upd H D o) (D::B)=hid H (D::B):=W0 Jv;refine⟨I.fd.congr λb hb=>a8 (λe=>hb.elim (λhb=>hf (e▸hb)) λ⟨φ,q⟩=>by rw[e,hD]at q;cases q),I.fB,λb hb=>?_,I.ln,λi x e=>?_⟩
 .by_cases h:b=D
  .subst h;exact⟨o,c7⟩
  .rw[a8 h];exact I.bk b hb
 .obtain⟨v,h1,h2⟩:=I.loc i x e;refine⟨v,h1,?_⟩;cases x with
  | dat d=>show a7 K (hid (upd H D o) (D::B)) d v;rw[e1];exact h2
  | feed=>exact h2
  | fn _=>exact h2
  | adr _=>exact h2
  | own ds =>
   obtain⟨a,xs,rfl,hB,hfa,ha,hd⟩:=h2;have hne:a≠D:=λz=>hown i ds e (by rw[<-z];exact h1)
   exact⟨a,xs,rfl,hB,hfa,by rw[a8 hne];exact ha,by rw[e1];exact hd⟩
structure Ets (K:Fg) (X:Cx) (ifs:List NX) (tt:TT) (m:DE->M Bool):Prop where
 pts:PTs X ifs tt
 ok:TTd K tt m
def U2:DE->M Bool:=λ_ F=>some (true,F)
def G7:Ets K X [] En U2:=⟨yW,λG B E F σ H Q b F' I e q=>by cases e;exact q H Kp.refl I.fd⟩
def kB {c:NX}{tt:TT}{mt:DE->M Bool}(h:Et K X c tt mt):Ets K X [c] tt mt:=⟨yj h.pt,h.ok⟩
def Q6 (bd:My->DE->Option DE)(mt:DE->M Bool)(me:DE->M My):List My->DE->M (List My)
 | [],_,F=>some ([],F)
 | d::r,E,F=>(bd d E).bind λE1=>(mt E1 F).bind λp=>if p.1=true then(me E1 p.2).bind λy=>(Q6 bd mt me r E1 y.2).bind λz=>some (y.1::z.1,z.2) else Q6 bd mt me r E1 p.2
def sLC (mi:DE->M (List My))(k:Nat)(cap:List Nat)(bd:My->DE->Option DE)(mt:DE->M Bool)(me:DE->M My):DE->M My:=λE F =>
 (mi E F).bind λp=>if p.1.length<=NZ then(Q6 bd mt me p.1 (lp k cap E) p.2).bind λz=>some (.list z.1,z.2) else none
def Au (K:Fg)(G:GF)(B:List NP)(D:NP)(H1:Hp)(bd:My->DE->Option DE)(mt:DE->M Bool)(me:DE->M My)(items whole:List My)(Fz:FS)(i:Nat)(σ:St)(acc:List V)(H:Hp):Prop :=
 ∃E F done rest,SitE K G (D::B) E F σ H/\H D=some (.lst acc)/\Kp (n6 K G) H1 H/\(∀(j:Nat) (ds:List My),E[j]? = some (some (DV.own ds))->σ[j]? ≠ some (some (V.ref D)))/\a6 K (hid H (D::B)) done acc/\Q6 bd mt me (items.drop i) E F=some (rest,Fz)/\whole=done++rest/\done.length<=i
def Dr {wi:TI}{mi:DE->M (List My)}{k:Nat}{cap:List Nat}{g:TG}{bd:My->DE->Option DE}{tt:TT}{mt:DE->M Bool}{me:DE->M My}(hi:TIs K wi mi)(hg:TGd K g bd)(ht:TTd K tt mt)(he:TEd K te me) :
  TEd K (tLC wi k cap g tt te) (sLC mi k cap bd mt me):=λG B E F σ H Q d F' I e q=>by
 obtain⟨⟨items,F1⟩,e1,e⟩:=bS9 e;split at e
 .rename_i hsz;obtain⟨⟨whole,F2⟩,e2,e⟩:=bS9 e;cases e;refine hi G B E F σ H _ items F1 I e1 λJ H1 k1 f1 ok D hD=>?_
  have I1:SitE K G B E F1 σ H1:=I.step k1 f1;have hBD:D ∉ B:=I1.bk.nin hD;have hfD:D ∉ n6 K G:=λz=>hBD (I.fB D z)
  have hsz:items.length<=NZ:=hsz;have stab:∀{H':Hp},Kp (n6 K G) H1 H'->Kp (n6 K G) H1 H'/\d8 (hid H1 B) (hid H' (D::B)):=λ{H'} k=>⟨k,λb o eb=>by
   by_cases hb:b∈B
   .rw[z9 hb]at eb;cases eb
   .rw[e9 hb]at eb;rw[e9 (by
     intro z;rcases Jl.1 z with rfl | z
     .rw[hD]at eb;cases eb
     .exact hb z)]
    exact k b o eb λz=>hb (I.fB b z)⟩
  refine xG items.length (Au K G B D H1 bd mt me items whole F2) ?_ ?_ ?_ ?_ ?_
  .refine⟨lp k cap E,F1,[],whole,(I1.cap k cap).more hD,c7,Kp.upd hD,λj ds ej z=>?_,a6.nil,e2,rfl,Jq _⟩;obtain⟨v,v1,a,xs,rfl,_,_,ha,_⟩:=(I1.cap k cap).loc j _ ej;rw[v1]at z;cases z;rw[hD]at ha;cases ha
  .rintro i σ' acc H' hlt ⟨E',F3,done,rest,I2,hD2,k2,ow,hd2,e3,ew,hdi⟩;exact((ok H' (D::B) (stab k2)).1 i items[i] (by simp[hlt])).1
  .rintro σ' acc H' ⟨E',F3,done,rest,I2,hD2,k2,ow,hd2,e3,ew,hdi⟩;exact(ok H' (D::B) (stab k2)).2
  .rintro i σ' acc H' hlt ⟨E',F3,done,rest,I2,hD2,k2,ow,hd2,e3,ew,hdi⟩ x H2 y R hR;obtain⟨s2,hx⟩:=((ok H' (D::B) (stab k2)).1 i items[i] (by simp[hlt])).2 x H2 y;have hx':=hx I2.bk;rw[Ln hlt,Q6]at e3;obtain⟨E4,e4,e3⟩:=bS9 e3;obtain⟨⟨b,F5⟩,e5,e3⟩:=bS9 e3;have I3:SitE K G (D::B) E' F3 σ' H2:=I2.step (Kp.same s2) (I2.fd.same s2);refine hg G (D::B) E' F3 σ' H2 x items[i] E4 _ I3 hx' e4 λσ4 I4 fr=>?_
   have ow4:∀(j:Nat) (ds:List My),E4[j]? = some (some (DV.own ds))->σ4[j]? ≠ some (some (V.ref D)):=λj ds ej=>by
    obtain⟨a1,a2⟩:=fr j λy z=>by rw[ej]at z;cases z
    rw[a2];exact ow j ds (a1▸ej)
   refine ht G (D::B) E4 F3 σ4 H2 _ b F5 I4 e5 λH5 k5 f5=>?_
   have kall:Kp (n6 K G) H1 H5:=(k2.trans (Kp.same s2)).trans k5;have I5:SitE K G (D::B) E4 F5 σ4 H5:=I4.step k5 f5;have hD5:H5 D=some (.lst acc):=k5 D _ (s2 D _ hD2) hfD;have hd5:a6 K (hid H5 (D::B)) done acc:=(hd2.same ((Kp.same s2).hid (fp:=[]) (by simp))).same (k5.hid I4.fB);cases b with
   | false =>
    exact⟨hD5,hR _ _ _ ⟨E4,F5,done,rest,I5,hD5,kall,ow4,hd5,e3,ew,by omega⟩⟩
   | true =>
    obtain⟨⟨yd,F6⟩,e6,e3⟩:=bS9 e3;obtain⟨⟨zs,F7⟩,e7,e3⟩:=bS9 e3;cases e3;refine he G (D::B) E4 F5 σ4 H5 _ yd F6 I5 e6 λv H6 k6 f6 h6=>?_
    have hD6:H6 D=some (.lst acc):=k6 D _ hD5 hfD;have I6:SitE K G (D::B) E4 F6 σ4 H6:=I5.step k6 f6;have hd6:=hd5.same (k6.hid I5.fB);have hlen:acc.length<NZ:=by rw[hd2.length];omega
    refine⟨hD6,hlen,hR _ _ _ ⟨E4,F6,done++[yd],zs,I6.wr hfD ow4 hD6,c7,λb o eb nb=>?_,ow4,?_,e7,by rw[ew];simp,by simp;omega⟩⟩
    .have:=k6 b o (kall b o eb nb) nb;rw[a8];exact this;intro z;subst z;rw[hD]at eb;cases eb
    .rw[W0 Jv];exact hd6.snoc h6
  .rintro σ' acc H' ⟨E',F3,done,rest,I2,hD2,k2,ow,hd2,e3,ew,hdi⟩;rw[Mh,Q6]at e3;cases e3;rw[Kg]at ew;subst ew;refine q _ H' (k1.trans k2) I2.fd ?_;refine a7.lst (by rw[e9 hBD];exact hD2) (hd2.same (M7 λb hb=>Jh _ hb))
 .cases e
def aJ {elt:NX}{ifs:List NX}{scope osc:NU}{N:List Str}{k:Nat}{cap:List Nat}{wi:TI}{g:TG}{tt:TT}{mi:DE->M (List My)}{bd:My->DE->Option DE}{mt:DE->M Bool}{me:DE->M My}
  (hc:X.calm=true) (hosc:X.env.scope=osc) (hcap:Caps X.N osc N k cap scope) (hi:Eib K X tg iter wi mi)
  (hg:∀cl C ex pins s H,Eg K (cxC X N scope cl C ex pins s H) tg g bd)
  (ht:∀cl C ex pins s H,Ets K (cxC X N scope cl C ex pins s H) ifs tt mt)
  (he:∀cl C ex pins s H,Ev K (cxC X N scope cl C ex pins s H) elt te me)
  (hs:∀x,Ol iter X.env x=pure x:=by intro _;rfl) :
  Ev K X (.ListComp elt [⟨tg,iter,ifs,0⟩] scope pos) (tLC wi k cap g tt te) (sLC mi k cap bd mt me) :=
 ⟨Ab hc hosc hcap hi.pi (λcl C ex pins s H=>(hg cl C ex pins s H).pg) (λcl C ex pins s H=>(ht cl C ex pins s H).pts) (λcl C ex pins s H=>(he cl C ex pins s H).pe) hs,
  Dr hi.ok (hg [] 0 [] [] X.s₀ X.H₀).ok (ht [] 0 [] [] X.s₀ X.H₀).ok (he [] 0 [] [] X.s₀ X.H₀).ok⟩
end
end
section
section
variable [Feeds]
inductive Out where
 | nx (E:DE) | rt (d:My) | bk (E:DE) | ct (E:DE)
structure Sit (K:Fg) (G:GF) (B0:List NP) (H0:Hp) (E:DE) (F:FS) (σ:St) (H:Hp):Prop where
 ex:∃B,(∀b∈B0,b∈B)/\(∀b∈B,b∈B0\/H0 b=none)/\SitE K G B E F σ H
 fB:∀b∈n6 K G,b∈B0
 kp:Kp (n6 K G) H0 H
 own:∀(i:Nat) (ds:List My) (a:NP),E[i]? = some (some (DV.own ds))->σ[i]? = some (some (V.ref a))->H0 a=none/\a ∉ B0
 inj:∀(i j:Nat) (ds es:List My) (a:NP),E[i]? = some (some (DV.own ds))->E[j]? = some (some (DV.own es))->σ[i]? = some (some (V.ref a))->σ[j]? = some (some (V.ref a))->i=j
def DB (K:Fg)(G:GF)(B0:List NP)(H0:Hp)(F:FS)(D:Ends):Out->Prop
 | .nx E=>∀σ H,Sit K G B0 H0 E F σ H->D.nx σ H
 | .bk E=>∀σ H,Sit K G B0 H0 E F σ H->D.bk σ H
 | .ct E=>∀σ H,Sit K G B0 H0 E F σ H->D.ct σ H
 | .rt d=>∀v H,Kp (n6 K G) H0 H->FAt K G H F->a7 K (hid H B0) d v->D.rt v H
def TSd (K:Fg)(ts:TS)(m:DE->M Out):Prop:=∀(G:GF) (B0:List NP) (H0:Hp) (E:DE) (F:FS) (σ:St) (H:Hp) (D:Ends) (r:Out) (F':FS),Sit K G B0 H0 E F σ H->m E F=some (r,F')->DB K G B0 H0 F' D r->ts D σ H
structure Ss (K:Fg) (X:Cx) (st:NW) (ts:TS) (m:DE->M Out):Prop where
 ps:PS X st ts
 ok:TSd K ts m
structure Sss (K:Fg) (X:Cx) (sts:List NW) (ts:TS) (m:DE->M Out):Prop where
 ps:PSs X sts ts
 ok:TSd K ts m
variable {K:Fg}{X:Cx}{a b c e tg iter:NX}{es:List NX}{st:NW}{sts rest:List NW}{ta tb te:TE}{ma mb m:DE->M My}{t u:TS}{mt mu:DE->M Out}{pos pos' p p2:Pos}
def Sit.step {G:GF}{B0:List NP}{H0:Hp}{E:DE}{F F':FS}{σ:St}{H H':Hp}(S:Sit K G B0 H0 E F σ H)(k:Kp (n6 K G) H H')(f:FAt K G H' F'):Sit K G B0 H0 E F' σ H':=by
 obtain⟨B,s,sn,I⟩:=S.ex;exact⟨⟨B,s,sn,I.step k f⟩,S.fB,S.kp.trans k,S.own,S.inj⟩
def mNx:DE->M Out:=λE F=>some (.nx E,F)
def mSq (a b:DE->M Out):DE->M Out:=λE F=>(a E F).bind λp=>match p.1 with
 | .nx E1=>b E1 p.2
 | o=>some (o,p.2)
def R3:Sss K X [] vS mNx:=⟨gB,λG B0 H0 E F σ H D r F' S e q=>by cases e;exact q σ H S⟩
def c9 (h1:Ss K X st t mt)(h2:Sss K X rest u mu):Sss K X (st::rest) (T5 t u) (mSq mt mu):=⟨l3 h1.ps h2.ps,λG B0 H0 E F σ H D r F' S e q=>by
 obtain⟨⟨o,F1⟩,e1,e⟩:=bS9 e;refine h1.ok G B0 H0 E F σ H _ o F1 S e1 ?_;cases o with
 | nx E1=>exact λσ' H' S'=>h2.ok G B0 H0 E1 F1 σ' H' D r F' S' e q
 | rt d=>cases e;exact q
 | bk E1=>cases e;exact q
 | ct E1=>cases e;exact q⟩
def l4 (h1:Ss K X st t mt):Sss K X [st] t mt:=⟨C6 h1.ps,h1.ok⟩
def mRt (a:DE->M My):DE->M Out:=λE F=>(a E F).bind λp=>some (.rt p.1,p.2)
def z8 (h:Ev K X e te m):Ss K X (.Return (some e) pos) (oK te) (mRt m):=⟨X7 h.pe,λG B0 H0 E F σ H D r F' S e q=>by
 obtain⟨⟨d,F1⟩,e1,e⟩:=bS9 e;cases e;obtain⟨B,s,sn,I⟩:=S.ex;exact h.ok G B E F σ H _ d F1 I e1 λv H1 k1 f1 h1=>q v H1 (S.kp.trans k1) f1 (h1.same (M7 s))⟩
def yf (i:Nat){x:Str}(hN:X.N[i]? = some x:=by rfl)(hv:Vis X.env.scope x:=by first | exact Or.inl rfl | exact Or.inr (Or.inl rfl) | exact Or.inr (Or.inr rfl))(hd:(x == ("__debug__":Str))=false:=by decide)
  (hcd:(x == ("__classdict__":Str))=false:=by decide):Ss K X (.Return (some (.Name x p)) pos) (oK (t9 i)) (mRt (sW i)):=⟨X7 (D4 hN hv hd hcd),λG B0 H0 E F σ H D r F' S e q=>by
 obtain⟨⟨d,F1⟩,e1,e⟩:=bS9 e;cases e;obtain⟨B,s,sn,I⟩:=S.ex;unfold sW at e1;split at e1
 .rename_i x hx;cases e1;obtain⟨v,h1,h2⟩:=I.loc i _ hx;exact⟨v,h1,q v H S.kp I.fd (a7.same h2 (M7 s))⟩
 .rename_i x hx;cases e1;obtain⟨v,h1,p,xs,rfl,hB,hf,hp,hd⟩:=I.loc i _ hx;obtain⟨n1,n2⟩:=S.own i x p hx h1;exact⟨_,h1,q _ H S.kp I.fd (a7.lst (by rw[e9 n2];exact hp) (hd.same (M7 s)))⟩
 .cases e1⟩
def A8 (i:Nat)(a:DE->M My):DE->M Out:=λE F=>(a E F).bind λp=>(bN i p.1 E).bind λE1=>some (.nx E1,p.2)
def Sit.bind {G:GF}{B0 B:List NP}{H0:Hp}{E E':DE}{F F':FS}{σ σ':St}{H:Hp}(S:Sit K G B0 H0 E F σ H)(s:∀b∈B0,b∈B)(sn:∀b∈B,b∈B0\/H0 b=none)(I:SitE K G B E' F' σ' H)(fr:∀i:Nat,(∀y,E'[i]? ≠ some (some (.dat y)))->E'[i]? = E[i]? /\ σ'[i]? = σ[i]?):Sit K G B0 H0 E' F' σ' H:=by
 refine⟨⟨B,s,sn,I⟩,S.fB,S.kp,λi ds a ei si=>?_,λi j ds es a ei ej si sj=>?_⟩
 .obtain⟨a1,a2⟩:=fr i λy z=>by rw[ei]at z;cases z
  exact S.own i ds a (a1▸ei) (a2▸si)
 .obtain⟨a1,a2⟩:=fr i λy z=>by rw[ei]at z;cases z
  obtain⟨b1,b2⟩:=fr j λy z=>by rw[ej]at z;cases z
  exact S.inj i j ds es a (a1▸ei) (b1▸ej) (a2▸si) (b2▸sj)
def xv {g:TG}{bd:My->DE->Option DE}(he:TEd K te m)(hg:TGd K g bd):TSd K (N0 te g) (λE F=>(m E F).bind λp=>(bd p.1 E).bind λE1=>some (.nx E1,p.2)):=λG B0 H0 E F σ H D r F' S e q=>by
 obtain⟨⟨d,F1⟩,e1,e⟩:=bS9 e;obtain⟨E1,e2,e⟩:=bS9 e;cases e;obtain⟨B,s,sn,I⟩:=S.ex;refine he G B E F σ H _ d F1 I e1 λv H1 k1 f1 h1=>?_
 have S1:=S.step k1 f1;exact hg G B E F1 σ H1 v d E1 _ (I.step k1 f1) h1 e2 λσ' I' fr=>q σ' H1 (S1.bind s sn I' fr)
def lO (i:Nat):TGd K (K0 i) (bN i):=λG B E F σ H x d E' Q I h e q=>by
 unfold bN at e;split at e
 .rename_i hl;cases e;refine q _ (I.set h hl) λj hj=>?_
  by_cases hij:i=j
  .subst hij;exact absurd (Ju hl) (hj d)
  .rw[Jp hij,Jp hij];exact⟨rfl,rfl⟩
 .cases e
def u4 (i:Nat){x:Str}(hN:X.N.Nodup)(he:Ev K X e te m)(hi:X.N[i]? = some x:=by rfl)(hx:Loc X.env.scope x:=by first | exact Or.inl rfl | exact Or.inr rfl)(hs:Oh e (some (.Name x pos')) pos.line X.env=pure false:=by rfl)(hf:X.fn x=true\/X.env.scope.names.lookup x=some .local:=by first | exact .inl rfl | exact .inr rfl | assumption) :
  Ss K X (.Assign [.Name x pos'] e pos) (N0 te (K0 i)) (A8 i m):=⟨N1 hN hi hx he.pe hs hf,xv he.ok (lO i)⟩
def bR (bd:My->DE->Option DE)(a:DE->M My):DE->M Out:=λE F=>(a E F).bind λp=>(bd p.1 E).bind λE1=>some (.nx E1,p.2)
def Z7 {g:TG}{bd:My->DE->Option DE}(he:Ev K X e te m)(hg:Eg K X tg g bd)(hs:swapsWithSole [tg] e pos.line X.env=pure false:=by rfl)(hw:swappedStores [tg] e X.env=pure none:=by rfl)
  (h1:(Om [tg] X.env).map (·.2)=[assign tg X.env]:=by rfl):Ss K X (.Assign [tg] e pos) (N0 te g) (bR bd m):=⟨T7 he.pe hg.pg hs hw h1,xv he.ok hg.ok⟩
def aR (i:Nat){y:Str}{py:Pos}{elt:NX}{ifs:List NX}{scope osc:NU}{N:List Str}{k:Nat}{cap:List Nat}{wi:TI}{g:TG}{tt:TT}{mi:DE->M (List My)}{bd:My->DE->Option DE}{mt:DE->M Bool}{me:DE->M My}
  (hN:X.N.Nodup) (hc:X.calm=true) (hosc:X.env.scope=osc) (hcap:Caps X.N osc N k cap scope) (hi:Eib K X tg iter wi mi)
  (hg:∀cl C ex pins s H,Eg K (cxC X N scope cl C ex pins s H) tg g bd)
  (ht:∀cl C ex pins s H,Ets K (cxC X N scope cl C ex pins s H) ifs tt mt)
  (he:∀cl C ex pins s H,Ev K (cxC X N scope cl C ex pins s H) elt te me)
  (hix:X.N[i]? = some y:=by rfl) (hLy:Loc X.env.scope y:=by first | exact Or.inl rfl | exact Or.inr rfl)
  (hs:∀x,Ol iter X.env x=pure x:=by intro _;rfl) (hfy:X.fn y=true\/X.env.scope.names.lookup y=some .local:=by first | exact .inl rfl | exact .inr rfl | assumption)
  (hsw:Oh (.ListComp elt [⟨tg,iter,ifs,0⟩] scope p) (some (.Name y py)) pos.line X.env=pure true:=by rfl) :
  Ss K X (.Assign [.Name y py] (.ListComp elt [⟨tg,iter,ifs,0⟩] scope p) pos) (N0 (tLC wi k cap g tt te) (K0 i)) (A8 i (sLC mi k cap bd mt me)) :=
 ⟨vM hN hix hLy hc hosc hcap hi.pi (λcl C ex pins s H=>(hg cl C ex pins s H).pg) (λcl C ex pins s H=>(ht cl C ex pins s H).pts) (λcl C ex pins s H=>(he cl C ex pins s H).pe) hs hfy hsw,
  xv (Dr hi.ok (hg [] 0 [] [] X.s₀ X.H₀).ok (ht [] 0 [] [] X.s₀ X.H₀).ok (he [] 0 [] [] X.s₀ X.H₀).ok) (lO i)⟩
def mIf (c:DE->M Bool)(a b:DE->M Out):DE->M Out:=λE F=>(c E F).bind λp=>if p.1=true then a E p.2 else b E p.2
def W6 {x y:List NW}{tt:TT}{mc:DE->M Bool}(hc:Et K X c tt mc)(ha:Sss K X x t mt)(hb:Sss K X y u mu):Ss K X (.If c x y pos) (lX tt t u) (mIf mc mt mu):=⟨iS hc.pt ha.ps hb.ps,λG B0 H0 E F σ H D r F' S e q=>by
 obtain⟨⟨d,F1⟩,e1,e⟩:=bS9 e;obtain⟨B,s,sn,I⟩:=S.ex;refine hc.ok G B E F σ H _ d F1 I e1 λH1 k1 f1=>?_
 cases d with
 | true=>exact ha.ok G B0 H0 E F1 σ H1 D r F' (S.step k1 f1) e q
 | false=>exact hb.ok G B0 H0 E F1 σ H1 D r F' (S.step k1 f1) e q⟩
end
end
section
section
variable [Feeds]{K:Fg}{X:Cx}{a b c e tg iter:NX}{es:List NX}{st:NW}{sts rest:List NW}{ta tb te:TE}{ma mb m:DE->M My}{t u:TS}{mt mu:DE->M Out}{pos pos' p p2:Pos}
def M2 (H:Hp)(B B0:List NP):Hp:=hid H (B.filter λb=>decide (b ∉ B0))
def Q5 {H:Hp}{B B0:List NP}{b:NP}(h1:b∈B)(h2:b ∉ B0):M2 H B B0 b=none:=z9 (JP.2 ⟨h1,by simpa using h2⟩)
def D9 {H:Hp}{B B0:List NP}{b:NP}(h:b ∉ B\/b∈B0):M2 H B B0 b=H b:=e9 λz=>by
 obtain⟨z1,z2⟩:=JP.1 z;rcases h with h | h
 .exact h z1
 .simp at z2;exact z2 h
section
variable {G:GF}{B0 B:List NP}{H0:Hp}{E E2:DE}{F F2:FS}{σ σ2:St}{H H2:Hp}
def Sit.base (S:Sit K G B0 H0 E F σ H)(s:∀b∈B0,b∈B)(sn:∀b∈B,b∈B0\/H0 b=none)(I:SitE K G B E F σ H):Sit K G B0 (M2 H B B0) E F σ H:=by
 refine⟨⟨B,s,λb hb=>?_,I⟩,S.fB,Kp.same d6,λi ds a ei si=>?_,S.inj⟩
 .by_cases h:b∈B0
  .exact .inl h
  .exact .inr (Q5 hb h)
 .obtain⟨v,v1,a',xs,rfl,hB,_⟩:=I.loc i _ ei;rw[v1]at si;cases si;exact⟨Q5 hB (S.own i ds _ ei v1).2,(S.own i ds _ ei v1).2⟩
def xw (S:Sit K G B0 H0 E F σ H)(sn:∀b∈B,b∈B0\/H0 b=none)(k:Kp (n6 K G) (M2 H B B0) H2):Kp (n6 K G) H0 H2:=λb o e n=>by
 refine k b o ?_ n;rw[D9]
 .exact S.kp b o e n
 .by_cases hb:b∈B
  .rcases sn b hb with h | h
   .exact .inr h
   .rw[h]at e;cases e
  .exact .inl hb
def Sit.unbase (S:Sit K G B0 H0 E F σ H)(sn:∀b∈B,b∈B0\/H0 b=none)(S2:Sit K G B0 (M2 H B B0) E2 F2 σ2 H2):Sit K G B0 H0 E2 F2 σ2 H2:=by
 have no:∀b,M2 H B B0 b=none->b∈B0\/H0 b=none:=λb e=>by
  by_cases hb:b∈B
  .exact sn b hb
  .rw[D9 (.inl hb)]at e;by_cases hf:b∈n6 K G
   .exact .inl (S.fB b hf)
   .cases q:H0 b with
    | none=>exact .inr rfl
    | some o=>rw[S.kp b o q hf]at e;cases e
 obtain⟨B2,s2,sn2,I2⟩:=S2.ex;refine⟨⟨B2,s2,λb hb=>?_,I2⟩,S.fB,xw S sn S2.kp,λi ds a ei si=>?_,S2.inj⟩
 .rcases sn2 b hb with h | h
  .exact .inl h
  .exact no b h
 .obtain⟨h1,h2⟩:=S2.own i ds a ei si;exact⟨(no a h1).resolve_left h2,h2⟩
end
def M4 (bd:My->DE->Option DE)(body:DE->M Out):List My->DE->M Out
 | [],E,F=>some (.nx E,F)
 | d::r,E,F=>(bd d E).bind λE1=>(body E1 F).bind λp=>match p.1 with
  | .nx E2=>M4 bd body r E2 p.2
  | .ct E2=>M4 bd body r E2 p.2
  | .bk E2=>some (.nx E2,p.2)
  | .rt d=>some (.rt d,p.2)
def du (mi:DE->M (List My))(bd:My->DE->Option DE)(body:DE->M Out):DE->M Out:=λE F=>(mi E F).bind λp=>M4 bd body p.1 E p.2
def DZ {wi:TI}{g:TG}{tb:TS}{mi:DE->M (List My)}{bd:My->DE->Option DE}{mb:DE->M Out}(hi:TId K wi mi)(hg:TGd K g bd)(hb:TSd K tb mb):TSd K (sG wi g tb) (du mi bd mb):=λG B0 H0 E F σ H D r F' S e q=>by
 obtain⟨⟨items,F1⟩,e1,e⟩:=bS9 e;obtain⟨B,s,sn,I⟩:=S.ex;refine hi G B E F σ H _ items F1 I e1 λJ H1 k1 f1 ok=>?_
 have S1:=S.step k1 f1;have I1:=I.step k1 f1;have S1':=S1.base s sn I1;have qn:∀{E2:DE} {F2:FS},r = .nx E2->F'=F2->∀σ2 H2,Sit K G B0 (M2 H1 B B0) E2 F2 σ2 H2->D.nx σ2 H2:=λ{E2 F2} er ef σ2 H2 S2=>by
  subst er ef;exact q σ2 H2 (S1.unbase sn S2)
 have stab:∀{E2:DE} {F2:FS} {σ2:St} {H2:Hp} {B2:List NP},Sit K G B0 (M2 H1 B B0) E2 F2 σ2 H2->(∀b∈B2,b∈B0\/M2 H1 B B0 b=none)->d8 (hid H1 B) (hid H2 B2):=λ{E2 F2 σ2 H2 B2} S2 sn2 b o eb=>by
  by_cases hB:b∈B
  .rw[z9 hB]at eb;cases eb
  .rw[e9 hB]at eb;have ec:M2 H1 B B0 b=some o:=by rw[D9 (.inl hB)];exact eb
   rw[e9 λz=>(sn2 b z).elim (λh=>hB (s b h)) λh=>by rw[h]at ec;cases ec];exact S2.kp b o ec λz=>hB (s b (S.fB b z))
 refine⟨λi m σ H=>m=items.length-i/\i<=items.length/\∃E F,Sit K G B0 (M2 H1 B B0) E F σ H/\M4 bd mb (items.drop i) E F=some (r,F'),⟨items.length,by simp,Ka _,E,F1,S1',e⟩,?_⟩;rintro i mm σ2 H2 ⟨rfl,hi2,E2,F2,S2,e2⟩;obtain⟨B2,s2,sn2,I2⟩:=S2.ex;have st2:=stab S2 sn2;by_cases hlt:i<items.length
 .refine .inr ⟨((ok H2 B2 st2).1 i items[i] (by simp[hlt])).1,λσ' H'=>i+1<=items.length/\∃E F,Sit K G B0 (M2 H1 B B0) E F σ' H'/\M4 bd mb (items.drop (i+1)) E F=some (r,F'),λσ' H' ⟨h1,h2⟩=>⟨items.length-(i+1),by omega,rfl,h1,h2⟩,λx H3 y=>?_⟩;obtain⟨s3,hx⟩:=((ok H2 B2 st2).1 i items[i] (by simp[hlt])).2 x H3 y;have hx:=hx I2.bk;rw[Ln hlt,M4]at e2;obtain⟨E4,e4,e2⟩:=bS9 e2;obtain⟨⟨o,F5⟩,e5,e2⟩:=bS9 e2;have S3:=S2.step (Kp.same s3) (I2.fd.same s3);have I3:SitE K G B2 E2 F2 σ2 H3:=I2.step (Kp.same s3) (I2.fd.same s3);refine hg G B2 E2 F2 σ2 H3 x items[i] E4 _ I3 hx e4 λσ4 I4 fr=>?_
  refine hb G B0 (M2 H1 B B0) E4 F2 σ4 H3 _ o F5 (S3.bind s2 sn2 I4 fr) e5 ?_;cases o with
  | nx E6=>exact λσ6 H6 S6=>⟨hlt,E6,F5,S6,e2⟩
  | ct E6=>exact λσ6 H6 S6=>⟨hlt,E6,F5,S6,e2⟩
  | bk E6=>cases e2;exact λσ6 H6 S6=>qn rfl rfl σ6 H6 S6
  | rt d=>cases e2;exact λv H6 k6 f6 h6=>q v H6 (xw S1 sn k6) f6 h6
 .have ei:i=items.length:=by omega
  subst ei;rw[Mh,M4]at e2;cases e2;exact .inl ⟨(ok H2 B2 st2).2,qn rfl rfl σ2 H2 S2⟩
def X4 {body:List NW}{wi:TI}{g:TG}{tb:TS}{mi:DE->M (List My)}{bd:My->DE->Option DE}{mb:DE->M Out}(hc:X.calm=true)(hi:Ei K X tg iter wi mi)(hg:Eg K X tg g bd)(hb:Sss K X body tb mb)(hp:PassesOwn (model X.prog X.w) X.A X.env X.xe:=by exact PassesOwn.never)
  (hs:∀x,Ol iter X.env x=pure x:=by intro _;rfl):Ss K X (.For tg iter body [] pos) (sG wi g tb) (du mi bd mb):=⟨oU hp hc hi.pi hg.pg hb.ps hs,DZ hi.ok hg.ok hb.ok⟩
def yc:Ss K X (.Continue pos) zQ (λE F=>some (.ct E,F)):=⟨og,λG B0 H0 E F σ H D r F' S e q=>by cases e;exact q σ H S⟩
def TFd (K:Fg)(te:TE)(m:DE->M (List My)):Prop:=∀(G:GF) (B:List NP) (E:DE) (F:FS) (σ:St) (H:Hp) (Q:VK) (ds:List My) (F':FS),SitE K G B E F σ H->m E F=some (ds,F') ->
 (∀a vs H',H a=none->H' a=some (.lst vs)->Kp (n6 K G) H H'->FAt K G H' F'->a6 K (hid H' (a::B)) ds vs->Q (.ref a) H')->te σ H Q
structure Ef (K:Fg) (X:Cx) (e:NX) (te:TE) (m:DE->M (List My)):Prop where
 pe:PE X e te
 ok:TFd K te m
def Kp.none {fp:List NP}{H H':Hp}{b:NP}(k:Kp fp H H')(h:H' b=none)(n:b ∉ fp):H b=none:=by
 cases q:H b with
 | none=>rfl
 | some o=>rw[k b o q n]at h;cases h
def vt {H:Hp}{B:List NP}{p:NP}{o:HO}(hp:H p=none):d8 (hid H B) (hid (upd H p o) (p::B)):=λb u e=>by
 by_cases hb:b∈B
 .rw[z9 hb]at e;cases e
 .rw[e9 hb]at e;have hne:=e8 e hp;rw[e9 (by simp[hne,hb]),a8 hne];exact e
def cB (a:DE->M (List My)):DE->M (List My):=λE F=>(a E F).bind λp=>if p.1.length<=NZ then some (p.1,p.2) else none
def T2 {t:TA}{ms:DE->M (List My)}(h:Ea K X es t ms):Ef K X (.List es pos) (cz t) (cB ms):=⟨P7 h.pa,λG B E F σ H Q d F' I e q=>by
 obtain⟨⟨x,F1⟩,e1,e⟩:=bS9 e;split at e
 .rename_i hl;cases e;refine h.ok G B E F σ H _ x F1 I e1 λvs H1 k1 f1 h1=>⟨by rw[h1.length];exact hl,λp hp=>?_⟩
  have hnf:p ∉ n6 K G:=λz=>(A3 I.bk k1 f1).nin hp (I.fB p z)
  exact q p vs _ (k1.none hp hnf) c7 (k1.trans (Kp.upd hp)) (f1.same (d8.upd hp)) (h1.same (vt hp))
 .cases e⟩
def ic (i:Nat)(a:DE->M (List My)):DE->M Out:=λE F=>(a E F).bind λp=>if i<E.length then some (.nx (E.set i (some (.own p.1))),p.2) else none
def Dz {i:Nat}{mf:DE->M (List My)}(he:TFd K te mf):TSd K (N0 te (K0 i)) (ic i mf):=λG B0 H0 E F σ H D r F' S e q=>by
 obtain⟨⟨ds,F1⟩,e1,e⟩:=bS9 e;split at e
 .rename_i hl;cases e;obtain⟨B,s,sn,I⟩:=S.ex;refine he G B E F σ H _ ds _ I e1 λa vs H1 hn ha k1 f1 h1=>?_
  have I1:=I.step k1 f1;have hsl:i < σ.length:=by rw[<-I.ln];exact hl
  have haB:a ∉ B:=I.bk.nin hn;have haf:a ∉ n6 K G:=λz=>haB (I.fB a z)
  have h0:H0 a=none:=S.kp.none hn haf;have sm:d8 (hid H B) (hid H1 (a::B)):=λb o eb=>by
   by_cases hb:b∈B
   .rw[z9 hb]at eb;cases eb
   .rw[e9 hb]at eb;have hne:=e8 eb hn;rw[e9 (by simp[hne,hb])];exact k1 b o eb λz=>hb (I.fB b z)
  refine q _ H1 ⟨⟨a::B,λb hb=>Jh _ (s b hb),λb hb=>?_,⟨f1,λb hb=>Jh _ (I.fB b hb),λb hb=>?_,by rw[Kh,Kh];exact I.ln,λj x ej=>?_⟩⟩,S.fB,S.kp.trans k1,λj es a' ej sj=>?_,λj k es es' a' ej ek sj sk=>?_⟩
  .rcases Jl.1 hb with rfl | hb
   .exact .inr h0
   .exact sn b hb
  .rcases Jl.1 hb with rfl | hb
   .exact⟨_,ha⟩
   .exact I1.bk b hb
  .by_cases hj:i=j
   .subst hj;rw[Ju hl]at ej;cases ej;exact⟨.ref a,by rw[Ju hsl],a,vs,rfl,Jv,haf,ha,h1⟩
   .rw[Jp hj]at ej;obtain⟨v,v1,v2⟩:=I.loc j x ej;refine⟨v,by rw[Jp hj];exact v1,?_⟩;cases x with
    | dat d=>exact a7.same (show a7 K (hid H B) d v from v2) sm
    | feed=>exact v2
    | fn _=>exact v2
    | adr _=>exact v2
    | own es =>
     obtain⟨a',xs',rfl,hB',hf',ha',hd'⟩:=v2;exact⟨a',xs',rfl,Jh _ hB',hf',k1 _ _ ha' hf',hd'.same sm⟩
  .by_cases hj:i=j
   .subst hj;rw[Ju hsl]at sj;cases sj;exact⟨h0,λz=>haB (s a z)⟩
   .rw[Jp hj]at ej sj;exact S.own j es a' ej sj
  .have other:∀(j:Nat) (es:List My),i≠j->E[j]? = some (some (DV.own es))->σ[j]? ≠ some (some (V.ref a)):=λj es _ ej z=>by
    obtain⟨v,v1,a',xs',rfl,hB',_⟩:=I.loc j _ ej;rw[v1]at z;cases z;exact haB hB'
   by_cases hj:i=j
   .by_cases hk:i=k
    .exact hj.symm.trans hk
    .subst hj;rw[Ju hsl]at sj;cases sj;rw[Jp hk]at ek sk;exact absurd sk (other k es' hk ek)
   .rw[Jp hj]at ej sj;by_cases hk:i=k
    .subst hk;rw[Ju hsl]at sk;cases sk;exact absurd sj (other j es hj ej)
    .rw[Jp hk]at ek sk;exact S.inj j k es es' a' ej ek sj sk
 .cases e
def cN (i:Nat){x:Str}{mf:DE->M (List My)}(hN:X.N.Nodup)(he:Ef K X e te mf)(hi:X.N[i]? = some x:=by rfl)(hx:Loc X.env.scope x:=by first | exact Or.inl rfl | exact Or.inr rfl)(hs:Oh e (some (.Name x pos')) pos.line X.env=pure false:=by rfl)(hf:X.fn x=true\/X.env.scope.names.lookup x=some .local:=by first | exact .inl rfl | exact .inr rfl | assumption) :
  Ss K X (.Assign [.Name x pos'] e pos) (N0 te (K0 i)) (ic i mf):=⟨N1 hN hi hx he.pe hs hf,Dz he.ok⟩
end
end
section
section
variable [Feeds]{K:Fg}{X:Cx}{a b c e tg iter:NX}{es:List NX}{st:NW}{sts rest:List NW}{ta tb te:TE}{ma mb m:DE->M My}{t u:TS}{mt mu:DE->M Out}{pos pos' p p2:Pos}
section
variable {G:GF}{B0 B:List NP}{H0:Hp}{E:DE}{F:FS}{σ:St}{H:Hp}
def Sit.write {i:Nat}{ds ds':List My}{x:NP}{vs':List V}(S:Sit K G B0 H0 E F σ H)(s:∀b∈B0,b∈B)(sn:∀b∈B,b∈B0\/H0 b=none)(I:SitE K G B E F σ H)(ei:E[i]? = some (some (DV.own ds)))(si:σ[i]? = some (some (V.ref x)))
  (hd:a6 K (hid H B) ds' vs'):Sit K G B0 H0 (E.set i (some (.own ds'))) F σ (upd H x (.lst vs')):=by
 have hl:i<E.length:=(Jm.1 ei).1;obtain⟨v,v1,x',xs,rfl,hB,hf,hx,_⟩:=I.loc i _ ei;rw[si]at v1;cases v1;have e1:hid (upd H x (.lst vs')) B=hid H B:=W0 hB;obtain⟨n1,n2⟩:=S.own i ds x ei si;refine⟨⟨B,s,sn,⟨I.fd.congr λb hb=>a8 (λz=>hb.elim (λhb=>hf (z▸hb)) λ⟨φ,q⟩=>by rw[z,hx]at q;cases q),I.fB,λb hb=>?_,by rw[Kh];exact I.ln,λj y ej=>?_⟩⟩,S.fB,λb o eb nb=>?_,λj es a' ej sj=>?_,λj k es es' a' ej ek sj sk=>?_⟩
 .by_cases h:b=x
  .subst h;exact⟨_,c7⟩
  .rw[a8 h];exact I.bk b hb
 .by_cases hj:i=j
  .subst hj;rw[Ju hl]at ej;cases ej;exact⟨.ref x,si,x,vs',rfl,hB,hf,c7,by rw[e1];exact hd⟩
  .rw[Jp hj]at ej;obtain⟨w,w1,w2⟩:=I.loc j y ej;refine⟨w,w1,?_⟩;cases y with
   | dat d=>show a7 K (hid (upd H x (.lst vs')) B) d w;rw[e1];exact w2
   | feed=>exact w2
   | fn _=>exact w2
   | adr _=>exact w2
   | own es =>
    obtain⟨a',xs',rfl,hB',hf',ha',hd'⟩:=w2;have hne:a'≠x:=λz=>hj (S.inj i j ds es x ei ej si (z▸w1))
    exact⟨a',xs',rfl,hB',hf',by rw[a8 hne];exact ha',by rw[e1];exact hd'⟩
 .rw[a8]
  .exact S.kp b o eb nb
  .intro z;subst z;rw[n1]at eb;cases eb
 .by_cases hj:i=j
  .subst hj;exact S.own i ds a' ei sj
  .rw[Jp hj]at ej;exact S.own j es a' ej sj
 .have back:∀(j:Nat) (es:List My),(E.set i (some (.own ds')))[j]? = some (some (DV.own es))->∃es,E[j]? = some (some (DV.own es)):=λj es ej=>by
   by_cases hj:i=j
   .subst hj;exact⟨ds,ei⟩
   .rw[Jp hj]at ej;exact⟨es,ej⟩
  obtain⟨f1,ej'⟩:=back j es ej;obtain⟨f2,ek'⟩:=back k es' ek;exact S.inj j k f1 f2 a' ej' ek' sj sk
end
def av (E:DE)(i:Nat):Option (List My):=match E[i]? with
 | some (some (.own ds))=>some ds
 | _=>none
def V7 {E:DE}{i:Nat}{ds:List My}(h:av E i=some ds):E[i]? = some (some (DV.own ds)):=by
 unfold av at h;split at h
 .rename_i q;cases h;exact q
 .cases h
def yn (i:Nat)(v k:DE->M My):DE->M Out:=λE F=>(v E F).bind λp=>(k E p.2).bind λq=>(dO q.1).bind λn=>(av E i).bind λds=>(ixN ds.length n).bind λj=>some (.nx (E.set i (some (.own (ds.set j p.1)))),q.2)
theorem a6.set {H:Hp}:∀{ds:List My} {xs:List V} {d:My} {v:V} (j:Nat),a6 K H ds xs->a7 K H d v->a6 K H (ds.set j d) (xs.set j v)
 | [],xs,d,v,j,h,h'=>by simp only[a6]at h;subst h;simp[a6]
 | e::ds,xs,d,v,0,h,h'=>by
  simp only[a6]at h;obtain⟨y,r,rfl,h1,h2⟩:=h;simp only[List.set_cons_zero,a6];exact⟨v,r,rfl,h',h2⟩
 | e::ds,xs,d,v,j+1,h,h'=>by
  simp only[a6]at h;obtain⟨y,r,rfl,h1,h2⟩:=h;simp only[List.set_cons_succ,a6];exact⟨y,r.set j v,rfl,h1,a6.set j h2 h'⟩
def Ci (i:Nat){x:Str}{px:Pos}(hv:Ev K X e te m)(hk:Ev K X b tb mb)(hN:X.N[i]? = some x:=by rfl)(hvis:Vis X.env.scope x:=by first | exact Or.inl rfl | exact Or.inr (Or.inl rfl) | exact Or.inr (Or.inr rfl))(hd:(x == ("__debug__":Str))=false:=by decide)(hcd:(x == ("__classdict__":Str))=false:=by decide)
  (ha:∀v,assign (.Subscript (.Name x px) b p) X.env v=(do
   let ov <-holding [v] (eval (.Name x px) X.env)
   let iv <-holding [v,ov] (eval b X.env)
   standAt p
   holding [v,ov,iv] (setItem ov iv v)
   release [v,ov,iv] []):=by intro _;rfl)
  (hs:swapsWithSole [.Subscript (.Name x px) b p] e pos.line X.env=pure false:=by rfl) (hw:swappedStores [.Subscript (.Name x px) b p] e X.env=pure none:=by rfl)
  (h1:(Om [.Subscript (.Name x px) b p] X.env).map (·.2)=[assign (.Subscript (.Name x px) b p) X.env]:=by rfl) :
  Ss K X (.Assign [.Subscript (.Name x px) b p] e pos) (N0 te (kH (t9 i) tb cY)) (yn i m mb) :=
 ⟨T7 hv.pe (ae (D4 hN hvis hd hcd) hk.pe O5 ha) hs hw h1,λG B0 H0 E F σ H D r F' S e q=>by
  obtain⟨⟨d,F1⟩,e1,e⟩:=bS9 e;obtain⟨⟨n,F2⟩,e2,e⟩:=bS9 e;obtain⟨k,e3,e⟩:=bS9 e;obtain⟨ds,e4,e⟩:=bS9 e;obtain⟨j,e5,e⟩:=bS9 e;cases e;obtain⟨B,s,sn,I⟩:=S.ex;have eo:=V7 e4;refine hv.ok G B E F σ H _ d F1 I e1 λv H1 k1 f1 h1=>?_
  have I1:=I.step k1 f1;obtain⟨w,w1,a,xs,rfl,hB,hf,hx,hdx⟩:=I1.loc i _ eo;refine⟨_,w1,hk.ok G B E F1 σ H1 _ n _ I1 e2 λu H2 k2 f2 h2=>?_⟩;have:=cA e3;simp only at this;subst this;simp only[a7]at h2;subst h2;have I2:=I1.step k2 f2;have S2:=S.step (k1.trans k2) f2;have hd2:=hdx.same (k2.hid I.fB);refine⟨a,xs,k,j,rfl,rfl,k2 a _ hx hf,by rw[hd2.length];exact e5,q σ _ (S2.write s sn I2 eo w1 (a6.set j hd2 (h1.same (k2.hid I.fB))))⟩⟩
def aC (i:Nat)(v:DE->M My):DE->M Out:=λE F=>(v E F).bind λp=>(av E i).bind λds=>if ds.length<NZ then some (.nx (E.set i (some (.own (ds++[p.1])))),p.2) else none
def Dw {i:Nat}(hv:TEd K te m):TSd K (cb (tBM K "list" R7 (t9 i) (v6 te F0))) (aC i m):=λG B0 H0 E F σ H D r F' S e q=>by
 obtain⟨⟨d,F1⟩,e1,e⟩:=bS9 e;obtain⟨ds,e4,e⟩:=bS9 e;split at e
 .rename_i hl;cases e;obtain⟨B,s,sn,I⟩:=S.ex;have eo:=V7 e4;obtain⟨w,w1,a,xs,rfl,hB,hf,hx,hdx⟩:=I.loc i _ eo;refine⟨_,w1,.inl ⟨rfl,xs,SqL.of hx⟩,hv G B E F σ H _ d _ I e1 λu H2 k2 f2 h2=>?_⟩;have hd2:=hdx.same (k2.hid I.fB);exact⟨a,xs,u,rfl,rfl,k2 a _ hx hf,by rw[hdx.length];exact hl,q σ _ ((S.step k2 f2).write s sn (I.step k2 f2) eo w1 (hd2.snoc h2))⟩
 .cases e
def hW (K:Fg)(G:GF)(B:List NP)(H:Hp):List DV->List V->Prop
 | [],vs=>vs=[]
 | x::xs,vs=>∃v r,vs=v::r/\(∀ds,x ≠ .own ds)/\DVr K G B H x v/\hW K G B H xs r
def spD (K:Fg)(n:Nat)(f:List DV->M My):Sp:=λvs H Q _=>∃G B F args d F',vs.length=n/\(∀b∈n6 K G,b∈B)/\BOk H B/\FAt K G H F/\hW K G B H args vs/\f args F=some (d,F') /\
 ∀v H',Kp (n6 K G) H H'->FAt K G H' F'->a7 K (hid H' B) d v->Q v H'
def x4 (N:List Str)(args:List DV):DE:=args.map some++List.replicate (N.length-args.length) none
def Z1 (N:List Str)(m:DE->M Out):List DV->M My:=λargs F=>(m (x4 N args) F).bind λp=>match p.1 with
 | .rt d=>some (d,p.2)
 | .nx _=>some (.none,p.2)
 | _=>none
theorem hW.length {G:GF}{B:List NP}{H:Hp}:∀{args:List DV} {vs:List V},hW K G B H args vs->vs.length=args.length
 | [],vs,h=>by cases h;rfl
 | x::xs,vs,⟨v,r,e,_,_,h⟩=>by subst e;rw[JB,JB,h.length]
theorem hW.get {G:GF}{B:List NP}{H:Hp}:∀{args:List DV} {vs:List V} {i:Nat} {x:DV},hW K G B H args vs->args[i]? = some x->∃v,vs[i]? = some v/\(∀ds,x ≠ .own ds)/\DVr K G B H x v
 | [],vs,i,x,h,e=>by simp at e
 | y::xs,vs,i,x,⟨v,r,e1,h1,h2,h3⟩,e=>by
  subst e1;cases i with
  | zero=>simp at e;subst e;exact⟨v,rfl,h1,h2⟩
  | succ i=>simpa using h3.get (i:=i) (by simpa using e)
def fj {N:List Str}{args:List DV}{i:Nat}{x:DV}(h:(x4 N args)[i]? = some (some x)):args[i]? = some x:=by
 unfold x4 at h;by_cases hi:i<args.length
 .rw[JL (by simpa using hi),Js]at h;obtain⟨y,e1,e2⟩:=JJ.1 h;cases e2;exact e1
 .rw[JR (by simpa using hi),Ki]at h;split at h <;> simp at h
def jB {G:GF}{B:List NP}{F:FS}{H:Hp}{N:List Str}{args:List DV}{vs:List V}(fB:∀b∈n6 K G,b∈B)(bk:BOk H B)(f:FAt K G H F)(h:hW K G B H args vs):Sit K G B H (x4 N args) F (L2.E8 N vs) H:=by
 have noown:∀(i:Nat) (ds:List My),(x4 N args)[i]? ≠ some (some (DV.own ds)):=λi ds e=>by
  obtain⟨v,_,n,_⟩:=h.get (fj e);exact n ds rfl
 refine⟨⟨B,λ_ z=>z,λb hb=>.inl hb,⟨f,fB,bk,by simp[x4,L2.E8,h.length],λi x e=>?_⟩⟩,fB,Kp.refl,λi ds a e _=>absurd e (noown i ds),λi j ds es a e _ _ _=>absurd e (noown i ds)⟩;obtain⟨v,v1,_,v2⟩:=h.get (fj e);refine⟨v,?_,v2⟩;have hi:i<vs.length:=(Jm.1 v1).1;unfold L2.E8;rw[JL (by simpa using hi),Js,v1];rfl
variable {P:NR}{w:NS}{mg:Str->Option NO}{base:NY}
def O8 {x qual:Str}{f:NP}{fd:NV}{N ps:List Str}{k:Nat}{m:DE->M Out}(Fn:Fun K x qual st f fd)(S:FnScope N ps (defScope st))
  (hbody:∀(cdv:NO) (A:NT) (outer:List Oc) (s:NQ) (H:Hp) (E:XK),Room k (A.deeper (envOfC qual (defScope st) s.heap.objs.size f cdv)) ->
   ∃ts,Sss K (O6 CX0 P w K mg base N qual (defScope st) f cdv A outer s H E).nox (defBody st) ts m):FnOk P w K mg base CX0 (k+1) f fd ps (spD K ps.length (Z1 N m)):=by
 refine Fn.ok S (λvs H Q E h=>?_) (λcdv A outer s H vs Q E hr h=>?_)
 .obtain⟨G,B,F,args,d,F',hl,_⟩:=h;exact hl
 .obtain⟨G,B,F,args,d,F',hl,fB,bk,fa,ha,hm,q⟩:=h;obtain⟨ts,hts⟩:=hbody cdv A outer s H E hr;refine⟨ts,hts.ps,?_⟩;obtain⟨⟨o,F1⟩,e1,e⟩:=bS9 hm;refine hts.ok G B H (x4 N args) F (L2.E8 N vs) H _ o F1 (jB fB bk fa ha) e1 ?_;cases o with
  | rt d'=>cases e;exact λv H' k1 f1 h1=>q v H' k1 f1 h1
  | nx E'=>cases e;exact λσ' H' S'=>q _ H' S'.kp (by obtain⟨B,_,_,I⟩:=S'.ex;exact I.fd) a7.non
  | bk E'=>cases e
  | ct E'=>cases e
def TVd (K:Fg)(ta:TA)(m:DE->M (List DV)):Prop:=∀(G:GF) (B:List NP) (E:DE) (F:FS) (σ:St) (H:Hp) (Q:List V->Hp->Prop) (ds:List DV) (F':FS),SitE K G B E F σ H->m E F=some (ds,F') ->
 (∀vs H',Kp (n6 K G) H H'->FAt K G H' F'->hW K G B H' ds vs->Q vs H')->ta σ H Q
structure Evs (K:Fg) (X:Cx) (es:List NX) (ta:TA) (m:DE->M (List DV)):Prop where
 pa:PA X es ta
 ok:TVd K ta m
def E9:DE->M (List DV):=λ_ F=>some ([],F)
def vD (a:DE->M My)(r:DE->M (List DV)):DE->M (List DV):=λE F=>(a E F).bind λp=>(r E p.2).bind λq=>some (.dat p.1::q.1,q.2)
def vF (i:Nat)(r:DE->M (List DV)):DE->M (List DV):=λE F=>match E[i]? with
 | some (some .feed)=>(r E F).bind λq=>some (.feed::q.1,q.2)
 | _=>none
def p0:Evs K X [] F0 E9:=⟨l6,λG B E F σ H Q ds F' I e q=>by cases e;exact q [] H Kp.refl I.fd rfl⟩
def v9 {tl:TA}{ms:DE->M (List DV)}(ha:Ev K X e te m)(hr:Evs K X es tl ms)(hs:Oa (e::es) X.env=(false,eval e X.env)::Oa es X.env:=by rfl):Evs K X (e::es) (v6 te tl) (vD m ms) :=
 ⟨i8 ha.pe hr.pa hs,λG B E F σ H Q ds F' I e q=>by
  obtain⟨⟨x,F1⟩,e1,e⟩:=bS9 e;obtain⟨⟨ys,F2⟩,e2,e⟩:=bS9 e;cases e;refine ha.ok G B E F σ H _ x F1 I e1 λv H1 k1 f1 h1=>?_
  refine hr.ok G B E F1 σ H1 _ ys _ (I.step k1 f1) e2 λvs H2 k2 f2 h2=>q _ H2 (k1.trans k2) f2 ⟨v,vs,rfl,(λ_ z=>by cases z),h1.same (k2.hid I.fB),h2⟩⟩
def az (i:Nat){x:Str}{tl:TA}{ms:DE->M (List DV)}(hr:Evs K X es tl ms)(hN:X.N[i]? = some x:=by rfl)(hv:Vis X.env.scope x:=by first | exact Or.inl rfl | exact Or.inr (Or.inl rfl) | exact Or.inr (Or.inr rfl))(hd:(x == ("__debug__":Str))=false:=by decide)
  (hcd:(x == ("__classdict__":Str))=false:=by decide) (hs:Oa (.Name x p::es) X.env=(false,eval (.Name x p) X.env)::Oa es X.env:=by rfl):Evs K X (.Name x p::es) (v6 (t9 i) tl) (vF i ms) :=
 ⟨i8 (D4 hN hv hd hcd) hr.pa hs,λG B E F σ H Q ds F' I e q=>by
  unfold vF at e;split at e
  .rename_i hx;obtain⟨⟨ys,F2⟩,e2,e⟩:=bS9 e;cases e;obtain⟨v,v1,v2⟩:=I.loc i _ hx;refine⟨v,v1,hr.ok G B E F σ H _ ys _ I e2 λvs H2 k2 f2 h2=>q _ H2 k2 f2 ⟨v,vs,rfl,(λ_ z=>by cases z),v2.step k2 I.fB,h2⟩⟩
  .cases e⟩
def v7 (f:List DV->M My)(ms:DE->M (List DV)):DE->M My:=λE F=>(ms E F).bind λp=>f p.1 p.2
def Ba {n:Nat}{f:List DV->M My}{ta:TA}{ms:DE->M (List DV)}(h:TVd K ta ms)(hn:∀E F args F',ms E F=some (args,F')->args.length=n):TEd K (dA (spD K n f) [] E0 ta) (v7 f ms):=λG B E F σ H Q d F' I e q=>by
 obtain⟨⟨args,F1⟩,e1,e⟩:=bS9 e;refine h G B E F σ H _ args F1 I e1 λvs H1 k1 f1 h1=>?_
 rw[Kg];exact⟨G,B,F1,args,d,F',by rw[h1.length];exact hn _ _ _ _ e1,I.fB,A3 I.bk k1 f1,f1,h1,e,λv H2 k2 f2 h2=>q v H2 (k1.trans k2) f2 h2⟩
def r9:∀E F args F',E9 E F=some (args,F')->args.length=0:=λE F args F' e=>by cases e;rfl
def v8 {n:Nat}{ms:DE->M (List DV)}(h:∀E F args F',ms E F=some (args,F')->args.length=n):∀E F args F',vD m ms E F=some (args,F')->args.length=n+1:=λE F args F' e=>by
 obtain⟨⟨x,F1⟩,e1,e⟩:=bS9 e;obtain⟨⟨ys,F2⟩,e2,e⟩:=bS9 e;cases e;rw[JB,h _ _ _ _ e2]
def aA {n i:Nat}{ms:DE->M (List DV)}(h:∀E F args F',ms E F=some (args,F')->args.length=n):∀E F args F',vF i ms E F=some (args,F')->args.length=n+1:=λE F args F' e=>by
 unfold vF at e;split at e
 .obtain⟨⟨ys,F2⟩,e2,e⟩:=bS9 e;cases e;rw[JB,h _ _ _ _ e2]
 .cases e
def k8 {x:Str}{k n:Nat}{ps:List Str}{f:List DV->M My}{tl:TA}{ms:DE->M (List DV)}(C:k9 X.prog X.w X.K X.mg X.base x k ps (spD K n f))(hr:Room k X.A)(ha:Evs K X (e::es) tl ms)(hn:∀E F args F',ms E F=some (args,F')->args.length=n)(hg:Gl X x:=by rfl)
  (hdb:(x == ("__debug__":Str))=false:=by decide) (he:Oa (e::es) X.env=(false,eval e X.env)::Oa es X.env:=by rfl) (hpl:(Od pos (Oa es X.env)).any (·.1)=false:=by rfl) :
  Ev K X (.Call (.Name x p) (e::es) [] pos) (dA (spD K n f) [] E0 tl) (v7 f ms):=⟨bF C hr hg ha.pa hdb he hpl,Ba ha.ok hn⟩
end
end
section
def P1 (a b:Str):((Sum.inr a:Key)=Sum.inr b)=(a=b):=by
 apply propext;constructor
 .intro h;injection h
 .intro h;rw[h]
section
variable {H:Hp}{d c:NP}{a l t:Int}
end
structure FdS where
 ns:List Int
 a:Int
 l:Int
 t:Int
class Fam where
 At:NP->NP->Hp->FdS->Prop
 some1:∀{d c H F},At d c H F->∃o,H d=some o/\NoT o
 some2:∀{d c H F},At d c H F->∃o,H c=some o/\NoT o
 congr:∀{d c H H' F},At d c H F->H' d=H d->H' c=H c->At d c H' F
 lam:List Str
 drawF:Int->FdS->Option (Int×FdS)
 draw_some:∀{m:Int} {F:FdS},0<m->m<1073741824->F.t<199999->∃r F',drawF m F=some (r,F')/\0<=r/\r<m/\F'.t=F.t+1
instance fdI [Fam]:Feeds where
 S:=FdS
 At:=Fam.At
 some1:=Fam.some1
 some2:=Fam.some2
 congr:=Fam.congr
 lam:=Fam.lam
def FdS.cell (F:FdS):Int:=if F.ns=[] then 11 else(F.ns[(F.a % (F.ns.length:Int)).toNat]?).getD 0
def G2 [Fam]:List DV->M My
 | [.feed,.dat (.int m)]=>λF=>(Fam.drawF m F).bind λp=>some (.int p.1,p.2)
 | _=>λ_=>none
def pG {x m:Int}(h:0<m):0<=x % m/\x % m<m:=⟨Int.emod_nonneg _ (by omega),Int.emod_lt_of_pos _ h⟩
def za {F:FdS}(h0:¬F.ns=[]):atI (F.ns.map V.int) (F.a % ((F.ns.map V.int).length:Int))=some (.int F.cell):=by
 have hp:0<F.ns.length:=Nj.2 h0;rw[Jf];obtain⟨q1,q2⟩:=pG (x:=F.a) (m:=(F.ns.length:Int)) (by omega);obtain⟨j,hj⟩:∃j:Nat,F.a % (F.ns.length:Int)=j:=⟨(F.a % (F.ns.length:Int)).toNat,by omega⟩;have hjl:j<F.ns.length:=by omega
 unfold FdS.cell;rw[Jo h0,hj];refine W1 ?_;rw[Js];simp[hjl]
def FdS.cellL (F:FdS):Int:=if F.ns=[] then 0 else(F.ns[(F.a % (F.ns.length:Int)).toNat]?).getD 0
def wx {F:FdS}(h0:¬F.ns=[]):atI (F.ns.map V.int) (F.a % ((F.ns.map V.int).length:Int))=some (.int F.cellL):=by
 have e:F.cellL=F.cell:=by unfold FdS.cellL FdS.cell;rw[Jo h0,Jo h0]
 rw[e];exact za h0
def iN (ns:List Int):FdS:=⟨ns,0,0,0⟩
end
section
def cC:Const->Option My
 | .int i=>some (.int i)
 | .bool b=>some (.bool b)
 | .none=>some .none
 | .str x=>some (.str x)
 | _=>none
def cI:NX->Option Int
 | .Constant c _ _=>match c with
  | .int i=>some i
  | _=>none
 | _=>none
def cU:UnaryOp->Bool
 | .USub=>true
 | _=>false
def cP:Operator->Bool
 | .Pow=>true
 | _=>false
mutual
def cE:NX->Option My
 | .Constant c _ _=>cC c
 | .UnaryOp o e _=>if cU o=true then(cI e).map λi=>.int (-i) else none
 | .BinOp a o b _=>if cP o=true then(cI a).bind λi=>(cI b).bind λj=>if yB i j then some (.int (i ^ j.toNat)) else none else none
 | .Tuple es _ _=>(bG es).bind λds=>if ds.length<=10000 then some (.tuple ds) else none
 | .List es _=>(bG es).bind λds=>if ds.length<=10000 then some (.list ds) else none
 | _=>none
def bG:List NX->Option (List My)
 | []=>some []
 | e::es=>(cE e).bind λd=>(bG es).bind λds=>some (d::ds)
end
mutual
def Q2:My->TE
 | .int i=>tC (.int i)
 | .bool b=>tC (.bl b)
 | .none=>tC .non
 | .str x=>tC (.str x)
 | .tuple ds=>sF (bL ds)
 | .list ds=>cz (bL ds)
 | .dict _=>λ_ _ _=>False
def bL:List My->TA
 | []=>F0
 | d::ds=>v6 (Q2 d) (bL ds)
end
def kG {e:NX}{i:Int}(h:cI e=some i):∃k p,e = .Constant (.int i) k p:=by
 unfold cI at h;split at h
 .split at h
  .cases h;exact⟨_,_,rfl⟩
  .cases h
 .cases h
def ph {e:NX}{es:List NX}{env:Oc}{d:My}(h:cE e=some d):Oa (e::es) env=(false,eval e env)::Oa es env:=by
 unfold cE at h;split at h
 .rfl
 .rfl
 .rfl
 .rfl
 .rfl
 .cases h
section
variable [Feeds]{K:Fg}{X:Cx}
def sR:∀n:Nat,(∀(e:NX) (d:My),sizeOf e<n->cE e=some d->Ev K X e (Q2 d) (sC d))/\(∀(es:List NX) (ds:List My),sizeOf es<n->bG es=some ds->Ea K X es (bL ds) (λ_ F=>some (ds,F))):=by
 intro n;induction n with
 | zero=>exact⟨λ_ _ h=>absurd h (Ng _),λ_ _ h=>absurd h (Ng _)⟩
 | succ n ih =>
  refine⟨λe d hn h=>?_,λes ds hn h=>?_⟩
  .unfold cE at h;split at h
   .unfold cC at h;split at h
    .cases h;simp only[Q2];exact f8
    .cases h;simp only[Q2];exact jO
    .cases h;simp only[Q2];exact bj
    .cases h;simp only[Q2];exact ck
    .cases h
   .rename_i o e1 p1;split at h
    .rename_i ho;obtain⟨i,e2,h2⟩:=JJ.1 h;clear h;obtain⟨k,p,rfl⟩:=kG e2;have:o = .USub:=by cases o <;> first | rfl | (exact absurd ho (by decide))
     subst this h2;simp only[Q2];have hp:PE X (.UnaryOp .USub (.Constant (.int i) k p) p1) (tUn (rU λi=>.int (-i)) (tC (.int i))):=vB qB i7;exact⟨λpins s σ H Q I h=>hp pins s σ H Q I ⟨i,rfl,h⟩,λG B E F σ H Q d F' I e q=>by cases e;exact q _ H Kp.refl I.fd a7.int⟩
    .cases h
   .rename_i a o b p1;split at h
    .rename_i ho;obtain⟨i,e2,h2⟩:=bS9 h;clear h;obtain⟨j,e3,h⟩:=bS9 h2;clear h2;obtain⟨k,p,rfl⟩:=kG e2;obtain⟨k',p',rfl⟩:=kG e3;have:o = .Pow:=by cases o <;> first | rfl | (exact absurd ho (by decide))
     subst this;split at h
     .rename_i hc;cases h;simp only[Q2];have hp:PE X (.BinOp (.Constant (.int i) k p) .Pow (.Constant (.int j) k' p') p1) (tOp (rI yB λi j=>.int (i ^ j.toNat)) (tC (.int i)) (tC (.int j))):=B7 uI i7 i7;exact⟨λpins s σ H Q I h=>hp pins s σ H Q I ⟨i,j,rfl,rfl,hc,h⟩,λG B E F σ H Q d F' I e q=>by cases e;exact q _ H Kp.refl I.fd a7.int⟩
     .cases h
    .cases h
   .rename_i es k p;obtain⟨ds,e1,h⟩:=bS9 h;split at h
    .rename_i hl;cases h;simp only[Q2];have hh:=ih.2 es ds (by simp at hn;omega) e1;exact⟨gY hh.pa,λG B E F σ H Q d F' I e q=>by
      cases e;refine hh.ok G B E F σ H _ ds _ I rfl λvs H1 k1 f1 h1=>⟨?_,λp hp=>q _ _ (k1.trans (Kp.upd hp)) (f1.same (d8.upd hp)) (U4 (A3 I.bk k1 f1) hp h1)⟩
      rw[h1.length];exact JM hl (by rw[JQ];decide)⟩
    .cases h
   .rename_i es p;obtain⟨ds,e1,h⟩:=bS9 h;split at h
    .rename_i hl;cases h;simp only[Q2];have hh:=ih.2 es ds (by simp at hn;omega) e1;exact⟨P7 hh.pa,λG B E F σ H Q d F' I e q=>by
      cases e;refine hh.ok G B E F σ H _ ds _ I rfl λvs H1 k1 f1 h1=>⟨?_,λp hp=>q _ _ (k1.trans (Kp.upd hp)) (f1.same (d8.upd hp)) (O2 (A3 I.bk k1 f1) hp h1)⟩
      rw[h1.length];exact JM hl (by rw[JQ];decide)⟩
    .cases h
   .cases h
  .cases es with
   | nil=>simp only[bG]at h;cases h;simp only[bL];exact j9
   | cons e es =>
    simp only[bG]at h
    obtain⟨d,e1,h⟩:=bS9 h
    obtain⟨ds',e2,h⟩:=bS9 h
    cases h
    simp only[bL]
    exact d0 (ih.1 e d (by simp at hn;omega) e1) (ih.2 es ds' (by simp at hn;omega) e2) (ph e1)
def wZ (e:NX)(d:My)(h:cE e=some d):Ev K X e (Q2 d) (sC d):=(sR (sizeOf e+1)).1 e d (Lu _) h
def bo (d:My){e:NX}(h:cE e=some d):Ev K X e (Q2 d) (sC d):=wZ e d h
end
end
end L3
namespace L3
open PySem
def J6:Oj "len" = some (.builtin "len"):=by decide +kernel
def bc:Oj "sum" = some (.builtin "sum"):=by decide +kernel
def vo:Oj "min" = some (.builtin "min"):=by decide +kernel
def qF:Oj "repr" = some (.builtin "repr"):=by decide +kernel
def eZ:Oj "sorted" = some (.builtin "sorted"):=by decide +kernel
def AL:Oj "max" = some (.builtin "max"):=by decide +kernel
def K5:Oj "tuple" = some (.type "tuple"):=by decide +kernel
def lC:Oj "list" = some (.type "list"):=by decide +kernel
def vL:Oj "int" = some (.type "int"):=by decide +kernel
end L3
namespace L3
open PySem PySem.Spec PyProof.Rows L2
section
section
variable [Feeds]{K:Fg}{X:Cx}{a b c e tg iter:NX}{es:List NX}{ta tb tc te:TE}{ma mb mc m:DE->M My}{pos pos' p p2:Pos}
def sCh (f g:My->My->Option My)(a b c:DE->M My):DE->M My:=λE F=>(a E F).bind λp=>(b E p.2).bind λq=>(f p.1 q.1).bind λz=>(Z6 z).bind λt=>if t then(c E q.2).bind λr=>(g q.1 r.1).bind λy=>some (y,r.2) else some (.bool false,q.2)
def xP {f g:My->My->Option My}(ha:TEs K ta ma)(hb:TEs K tb mb)(hc:TEs K tc mc):TEd K (qy (rD2 K f) (rD2 K g) ta tb tc) (sCh f g ma mb mc):=λG B E F σ H Q d F' I e q=>by
 obtain⟨⟨x,F1⟩,e1,e⟩:=bS9 e;obtain⟨⟨y,F2⟩,e2,e⟩:=bS9 e;obtain⟨z,e3,e⟩:=bS9 e;obtain⟨t,e4,eL⟩:=bS9 e;refine ha G B E F σ H _ x F1 I e1 λv H1 k1 f1 h1=>?_
 refine hb G B E F1 σ H1 _ y F2 (I.step k1 f1) e2 λw H2 k2 f2 h2=>⟨n6 K G,B,x,y,_,A3 I.bk (k1.trans k2) f2,h1.step k2 I.fB,h2,e3,λu H3 s hu=>?_⟩
 have:=K8 e4;subst this;simp only[a7]at hu;refine⟨t,hu,?_⟩;have k3:=(k1.trans k2).trans (Kp.same s);cases t with
 | false =>
  rw[Jo (by decide)]at eL ⊢;cases eL;exact q _ H3 k3 (f2.same s) a7.bl
 | true =>
  rw[Jk rfl]at eL ⊢;obtain⟨⟨r,F3⟩,e5,eM⟩:=bS9 eL;obtain⟨z2,e6,eN⟩:=bS9 eM;cases eN;refine hc G B E F2 σ H3 _ r F3 (I.step k3 (f2.same s)) e5 λw' H4 k4 f4 h4=>⟨n6 K G,B,y,r,_,A3 I.bk (k3.trans k4) f4,(h2.step (Kp.same s) I.fB).step k4 I.fB,h4,e6,λu5 H5 s5 hu5=>q u5 H5 ((k3.trans k4).trans (Kp.same s5)) (f4.same s5) hu5⟩
def nJ {op op':CmpOp}{f g:My->My->Option My}(ho:OpR X (compareOp op) (rD2 K f))(ho':OpR X (compareOp op') (rD2 K g))(ha:Eb K X a ta ma)(hb:Eb K X b tb mb)(hc:Eb K X c tc mc)
  (hm:lastMarks [op,op'] [b,c]=false:=by with_unfolding_all rfl):Et K X (.Compare a [op,op'] [b,c] pos) (bf (qy (rD2 K f) (rD2 K g) ta tb tc)) (uB (sCh f g ma mb mc)) :=
 ⟨uF ho ho' ha.pe hb.pe hc.pe hm,λG B E F σ H Q d F' I e q=>by
  obtain⟨⟨x,F1⟩,e1,e⟩:=bS9 e;obtain⟨t,e2,e⟩:=bS9 e;cases e;refine xP ha.ok hb.ok hc.ok G B E F σ H _ x F1 I e1 λv H1 k1 f1 h1=>?_
  have:=K8 e2;simp only at this;subst this;simp only[a7]at h1;exact⟨_,h1,q H1 k1 f1⟩⟩
def Z9 (i:Nat){x:Str}{px ap cp:Pos}(hK:X.K=K)(hv:Ev K X e te m)(hN:X.N[i]? = some x:=by rfl)(hvis:Vis X.env.scope x:=by first | exact Or.inl rfl | exact Or.inr (Or.inl rfl) | exact Or.inr (Or.inr rfl))(hd:(x == ("__debug__":Str))=false:=by decide)(hcd:(x == ("__classdict__":Str))=false:=by decide)
  (hbase:Oi (.Name x px) "append" X.env (eval (.Name x px) X.env)=eval (.Name x px) X.env:=by rfl)
  (hfew:((Od cp (Oa [e] X.env)).all (λx=>!x.1)&&(Os cp (Ot [] X.env)).all (λx=>x.1.isSome)
   && decide ([e].length+([]:List Oe).length+(if ([]:List Oe).isEmpty then 0 else 1)<30))=true:=by rfl)
  (hline:(ap.endLine == cp.line)=true:=by rfl) (hst:Oa [e] X.env=(false,eval e X.env)::Oa [] X.env:=by rfl) (hplain:(Od cp (Oa [] X.env)).any (·.1)=false:=by rfl)
  (hs:Oh (.Call (.Attribute (.Name x px) "append" ap) [e] [] cp) none pos.line X.env=pure false:=by rfl) :
  Ss K X (.Expr (.Call (.Attribute (.Name x px) "append" ap) [e] [] cp) pos) (cb (tBM K "list" R7 (t9 i) (v6 te F0))) (aC i m):=by
 subst hK;exact⟨ag (gS KU KP KQ L7 (D4 hN hvis hd hcd) (i8 hv.pe l6 hst) hbase hfew hline hst hplain) hs,Dw hv.ok⟩
def fLC (mi:DE->M (List My))(k:Nat)(cap:List Nat)(bd:My->DE->Option DE)(mt:DE->M Bool)(me:DE->M My):DE->M (List My):=λE F =>
 (mi E F).bind λp=>if p.1.length<=NZ then(Q6 bd mt me p.1 (lp k cap E) p.2).bind λz=>some (z.1,z.2) else none
def DM {wi:TI}{mi:DE->M (List My)}{k:Nat}{cap:List Nat}{g:TG}{bd:My->DE->Option DE}{tt:TT}{mt:DE->M Bool}{me:DE->M My}(hi:TIs K wi mi)(hg:TGd K g bd)(ht:TTd K tt mt)(he:TEd K te me) :
  TFd K (tLC wi k cap g tt te) (fLC mi k cap bd mt me):=λG B E F σ H Q d F' I e q=>by
 obtain⟨⟨items,F1⟩,e1,e⟩:=bS9 e;split at e
 .rename_i hsz;obtain⟨⟨whole,F2⟩,e2,e⟩:=bS9 e;cases e;refine hi G B E F σ H _ items F1 I e1 λJ H1 k1 f1 ok D hD=>?_
  have I1:SitE K G B E F1 σ H1:=I.step k1 f1;have hBD:D ∉ B:=I1.bk.nin hD;have hfD:D ∉ n6 K G:=λz=>hBD (I.fB D z)
  have hsz:items.length<=NZ:=hsz;have stab:∀{H':Hp},Kp (n6 K G) H1 H'->Kp (n6 K G) H1 H'/\d8 (hid H1 B) (hid H' (D::B)):=λ{H'} k=>⟨k,λb o eb=>by
   by_cases hb:b∈B
   .rw[z9 hb]at eb;cases eb
   .rw[e9 hb]at eb;rw[e9 (by
     intro z;rcases Jl.1 z with rfl | z
     .rw[hD]at eb;cases eb
     .exact hb z)]
    exact k b o eb λz=>hb (I.fB b z)⟩
  refine xG items.length (Au K G B D H1 bd mt me items whole F2) ?_ ?_ ?_ ?_ ?_
  .refine⟨lp k cap E,F1,[],whole,(I1.cap k cap).more hD,c7,Kp.upd hD,λj ds ej z=>?_,a6.nil,e2,rfl,Jq _⟩;obtain⟨v,v1,a,xs,rfl,_,_,ha,_⟩:=(I1.cap k cap).loc j _ ej;rw[v1]at z;cases z;rw[hD]at ha;cases ha
  .rintro i σ' acc H' hlt ⟨E',F3,done,rest,I2,hD2,k2,ow,hd2,e3,ew,hdi⟩;exact((ok H' (D::B) (stab k2)).1 i items[i] (by simp[hlt])).1
  .rintro σ' acc H' ⟨E',F3,done,rest,I2,hD2,k2,ow,hd2,e3,ew,hdi⟩;exact(ok H' (D::B) (stab k2)).2
  .rintro i σ' acc H' hlt ⟨E',F3,done,rest,I2,hD2,k2,ow,hd2,e3,ew,hdi⟩ x H2 y R hR;obtain⟨s2,hx⟩:=((ok H' (D::B) (stab k2)).1 i items[i] (by simp[hlt])).2 x H2 y;have hx':=hx I2.bk;rw[Ln hlt,Q6]at e3;obtain⟨E4,e4,e3⟩:=bS9 e3;obtain⟨⟨b,F5⟩,e5,e3⟩:=bS9 e3;have I3:SitE K G (D::B) E' F3 σ' H2:=I2.step (Kp.same s2) (I2.fd.same s2);refine hg G (D::B) E' F3 σ' H2 x items[i] E4 _ I3 hx' e4 λσ4 I4 fr=>?_
   have ow4:∀(j:Nat) (ds:List My),E4[j]? = some (some (DV.own ds))->σ4[j]? ≠ some (some (V.ref D)):=λj ds ej=>by
    obtain⟨a1,a2⟩:=fr j λy z=>by rw[ej]at z;cases z
    rw[a2];exact ow j ds (a1▸ej)
   refine ht G (D::B) E4 F3 σ4 H2 _ b F5 I4 e5 λH5 k5 f5=>?_
   have kall:Kp (n6 K G) H1 H5:=(k2.trans (Kp.same s2)).trans k5;have I5:SitE K G (D::B) E4 F5 σ4 H5:=I4.step k5 f5;have hD5:H5 D=some (.lst acc):=k5 D _ (s2 D _ hD2) hfD;have hd5:a6 K (hid H5 (D::B)) done acc:=(hd2.same ((Kp.same s2).hid (fp:=[]) (by simp))).same (k5.hid I4.fB);cases b with
   | false =>
    exact⟨hD5,hR _ _ _ ⟨E4,F5,done,rest,I5,hD5,kall,ow4,hd5,e3,ew,by omega⟩⟩
   | true =>
    obtain⟨⟨yd,F6⟩,e6,e3⟩:=bS9 e3;obtain⟨⟨zs,F7⟩,e7,e3⟩:=bS9 e3;cases e3;refine he G (D::B) E4 F5 σ4 H5 _ yd F6 I5 e6 λv H6 k6 f6 h6=>?_
    have hD6:H6 D=some (.lst acc):=k6 D _ hD5 hfD;have I6:SitE K G (D::B) E4 F6 σ4 H6:=I5.step k6 f6;have hd6:=hd5.same (k6.hid I5.fB);have hlen:acc.length<NZ:=by rw[hd2.length];omega
    refine⟨hD6,hlen,hR _ _ _ ⟨E4,F6,done++[yd],zs,I6.wr hfD ow4 hD6,c7,λb o eb nb=>?_,ow4,?_,e7,by rw[ew];simp,by simp;omega⟩⟩
    .have:=k6 b o (kall b o eb nb) nb;rw[a8];exact this;intro z;subst z;rw[hD]at eb;cases eb
    .rw[W0 Jv];exact hd6.snoc h6
  .rintro σ' acc H' ⟨E',F3,done,rest,I2,hD2,k2,ow,hd2,e3,ew,hdi⟩;rw[Mh,Q6]at e3;cases e3;rw[Kg]at ew;subst ew;exact q D acc H' (k1.none hD hfD) hD2 (k1.trans k2) I2.fd hd2
 .cases e
end
end
section
section
variable [Feeds]{K:Fg}{X:Cx}{a b c e tg iter:NX}{es:List NX}{ta tb tc te:TE}{ma mb mc m:DE->M My}{pos pos' p p2:Pos}{P:NR}{w:NS}{mg:Str->Option NO}{base:NY}
def GD (K:Fg)(mg:Str->Option NO)(x:Str)(d:My):Prop:=∃a,mg x=some (.ref a)/\∀H,a7 K H d (.ref a)
def EB {x:Str}{d:My}(h:GD K X.mg x d)(hg:Gl X x:=by rfl)(hd:(x == ("__debug__":Str))=false:=by decide):Ev K X (.Name x p) (tC (.ref h.choose)) (sC d) :=
 ⟨xV hg h.choose_spec.1 rfl hd,λG B E F σ H Q d F' I e q=>by
  cases e;exact q _ H Kp.refl I.fd (h.choose_spec.2 _)⟩
def strsOf:List NO->Option (List Str)
 | []=>some []
 | .str x _::r=>(strsOf r).map (x :: ·)
 | _=>none
theorem jz:∀{us:List NO} {ss:List Str},strsOf us=some ss->l0 (ss.map V.str) us/\∀H,a6 K H (ss.map .str) (ss.map V.str)
 | [],ss,h=>by cases h;exact⟨.nil,λH=>a6.nil⟩
 | u::r,ss,h=>by
  cases u with
  | str x t =>
   obtain⟨ss',e1,rfl⟩:=JJ.1 (show(strsOf r).map (x :: ·)=some ss from h);obtain⟨h1,h2⟩:=jz e1;exact⟨.cons ⟨t,rfl⟩ h1,λH=>⟨_,_,rfl,rfl,h2 H⟩⟩
  | _=>cases h
def gd_mk {h:NY}{x:Str}{t:NP}{its:Array NO}{n:Nat}{dd:Option NP}{sl:Array (Option NO)}{ss:List Str}(X:K.In h)(G:h.Ns Og mg)(hn:PySem.W.nsIn K Og x=some (some (.ref t)))(hl:K.lookup t=some ⟨.type "tuple",dd,.seq its n,sl⟩)(hs:strsOf its.toList=some ss)(hz:ss.length<=1000):GD K mg x (.tuple (ss.map .str)):=by
 obtain⟨h1,h2⟩:=jz (K:=K) hs;refine⟨t,MU X G hn,λH=>⟨t,ss.map V.str,rfl,.inr ⟨_,its,n,hl,rfl,rfl,?_,h1⟩,h2 H⟩⟩;have:=h1.length;rw[Jf]at this;have e:its.size=ss.length:=by rw[this];simp
 rw[e];exact JM hz (by rw[JQ];decide)
end
end
section
section
variable {prog:NR}{w:NS}{A:NT}{E:NO->NQ->Prop}{s:NQ}
def dz {it l:NP}{i:Nat}{items}{x:NO}{Q:NO->NQ->Prop}(hit:s.heap.IsTupleIter it l i)
  (hl:s.heap.IsTuple l items) (hx:items[i]? = some x)
  (hQ:∀h',h'.IsTupleIter it l (i+1)->NY.SameBut it s.heap h'->Q x { s with heap:=h' }) :
  Of (model prog w) A (Builtin.SmallTypes.nextOf (.ref it)) Q E s:=by
 obtain⟨o,ho,hc,hd⟩:=id hit;obtain⟨ol,hol,_,nl,hdl⟩:=hl;unfold Builtin.SmallTypes.nextOf;refine Jg (Lq (name:=Str.ofString "__next__") hit.typeIs Lk
  (Ls Lk hit.typeIs MR ?_ (ML _)))
 show Of _ _ (field (.ref it) 0 >>= _) _ _ s;refine Jg (Lw ho hd (x:=.ref l) rfl ?_);show Of _ _ (if (NO.ref l == NO.none)=true then _ else _) _ _ s;rw[Jo (show ¬((NO.ref l == NO.none)=true) from JI)];show Of _ _ (field (.ref it) 1 >>= _) _ _ s;refine Jg (Lw ho hd (x:=.int i 0) rfl ?_);show Of _ _ (seqItems? (.ref l) >>= _) _ _ s;refine Jg (wpAny_seqItems hol hdl ?_);simp only[KN,hx];refine Jg (wpAny_setField ho hd (by simp) (Jx ⟨x,rfl,Jx (hQ _ ?_ (Lh ..))⟩));exact⟨_,NY.get?_update_self _ ho (Ob.isFreed_of_fields (Ob.data_mapFields hd _)),(Ob.cls_mapFields ..).trans hc,by
  rw[Ob.data_mapFields hd];simp[rawInt]⟩
def fh {it l:NP}{i:Nat}{items}{Q:NO->NQ->Prop}(hh:A.handled=none)
  (hit:s.heap.IsTupleIter it l i) (hl:s.heap.IsTuple l items) (hx:items[i]? = none)
  (hE:∀h' e,NY.ExtBut it s.heap h'->(∃o,h'.get? e=some o/\o.cls = .type "StopIteration")->E (.ref e) { s with heap:=h' }) :
  Of (model prog w) A (Builtin.SmallTypes.nextOf (.ref it)) Q E s:=by
 obtain⟨o,ho,hc,hd⟩:=id hit;obtain⟨ol,hol,_,nl,hdl⟩:=hl;unfold Builtin.SmallTypes.nextOf;refine Jg (Lq (name:=Str.ofString "__next__") hit.typeIs Lk
  (Ls Lk hit.typeIs MR ?_ (ML _)))
 show Of _ _ (field (.ref it) 0 >>= _) _ _ s;refine Jg (Lw ho hd (x:=.ref l) rfl ?_);show Of _ _ (if (NO.ref l == NO.none)=true then _ else _) _ _ s;rw[Jo (show ¬((NO.ref l == NO.none)=true) from JI)];show Of _ _ (field (.ref it) 1 >>= _) _ _ s;refine Jg (Lw ho hd (x:=.int i 0) rfl ?_);show Of _ _ (seqItems? (.ref l) >>= _) _ _ s;refine Jg (wpAny_seqItems hol hdl ?_);simp only[KN,hx];refine Jg (Md (Jg (wpAny_setField ho hd (by simp) ?_)));show Of _ _ (newExc (.type "StopIteration") [] >>= _) _ _ _;refine Jg ?_;simp only[newExc,newTuple];refine Jg (Km ?_ (by size_fits));refine Jg (m:=firstArgMember _ _) (wpAny_of_eq (a:=NO.none) (by first | rfl | (simp only[firstArgMember];rfl)) ?_);refine Km ?_ (by size_fits);simp only[raiseNew];refine Jg (wpAny_handled ?_);first | rw[show A.in1.handled=none from hh] | rw[hh]
 refine Jg (Jx (wpAny_throw ?_));exact hE _ _ (((Lh ..).extBut.push _).push _) ⟨_,JK _ rfl,rfl⟩
end
def nR (b:Bool)(h:NY)(it l:NP)(i:Nat):Prop:=if b then h.IsListIter it l i else h.IsTupleIter it l i
def tL (b:Bool)(h:NY)(l:NP)(items:Array NO):Prop:=if b then h.IsList l items else h.IsTuple l items
def nR.at {b:Bool}{h h':NY}{it l:NP}{i:Nat}(x:nR b h it l i)(k:∀o,h.get? it=some o->h'.get? it=some o):nR b h' it l i:=by
 cases b
 .exact NY.IsTupleIter.at (show h.IsTupleIter it l i from x) k
 .exact NY.IsListIter.at (show h.IsListIter it l i from x) k
def tL.at {b:Bool}{h h':NY}{l:NP}{items:Array NO}(x:tL b h l items)(k:∀o,h.get? l=some o->h'.get? l=some o):tL b h' l items:=by
 cases b
 .obtain⟨o,ho,r⟩:=(show h.IsTuple l items from x);exact⟨o,k o ho,r⟩
 .exact NY.IsList.at (show h.IsList l items from x) k
def nR.obj {b:Bool}{h:NY}{it l:NP}{i:Nat}(x:nR b h it l i):∃o,h.get? it=some o/\∀v,o.data ≠ .cell v:=by
 cases b
 .obtain⟨o,e,c,d⟩:=(show h.IsTupleIter it l i from x);exact⟨o,e,λv z=>by rw[d]at z;cases z⟩
 .obtain⟨o,e,c,d⟩:=(show h.IsListIter it l i from x);exact⟨o,e,λv z=>by rw[d]at z;cases z⟩
def nH {prog:NR}{w:NS}{A:NT}(b:Bool)(hh:A.handled=none)(it l:NP)(hne:l≠it)(items:Array NO) :
  Draws prog w A it [it,l] items.size (λi v=>items[i]? = some v) (λi h=>nR b h it l i/\tL b h l items) where
 live:=λ_ _ st=>let ⟨o,ho,_⟩:=st.1.obj;⟨o,ho⟩
 frame:=λ_ _ _ st hk=>⟨st.1.at λo e=>hk it (by simp) o e,st.2.at λo e=>hk l (by simp) o e⟩
 item:=λi s Q E hi st hQ=>by
  cases b
  .refine dz (show s.heap.IsTupleIter it l i from st.1) (show s.heap.IsTuple l items from st.2) (x:=items[i]) (by simp[hi]) λh' hit' hs'=>?_
   exact hQ _ h' s.toks (by simp[hi]) ⟨hit',st.2.at λo e=>hs'.extBut l o hne e⟩ hs'
  .refine wpAny_nextOf_list_item (show s.heap.IsListIter it l i from st.1) (show s.heap.IsList l items from st.2) (x:=items[i]) (by simp[hi]) λh' hit' hs'=>?_
   exact hQ _ h' s.toks (by simp[hi]) ⟨hit',st.2.at λo e=>hs'.extBut l o hne e⟩ hs'
 done:=λs Q E st hE=>by
  cases b
  .exact fh hh (show s.heap.IsTupleIter it l items.size from st.1) (show s.heap.IsTuple l items from st.2) (by simp) hE
  .exact wpAny_nextOf_list_end hh (show s.heap.IsListIter it l items.size from st.1) (show s.heap.IsList l items from st.2) (by simp) hE
open AutoSeq1 (wpAny_loadPart') in
def aY (l:NP)(items:Array NO)(n:Nat)(dct:Option NP)(sl:Array (Option NO)) :
  Meets (Builtin.«enumerate.__new__» ⟨[.type "enumerate",.ref l],[]⟩) (λ_ R s=>s.heap.get? l=some { cls:=.type "tuple",dict:=dct,data:=.seq items n,slots:=sl } /\
   R (.ok (.ret (.ref (s.heap.push { cls:=.type "tuple_iterator",data:=.fields #[.ref l,.int 0 0] }).objs.size)))
    { s with heap:=(s.heap.push { cls:=.type "tuple_iterator",data:=.fields #[.ref l,.int 0 0] }).push { cls:=.type "enumerate",data:=.fields #[.none,.bool false,.ref s.heap.objs.size,rawInt 0,.none,.none] } }) :=
 .of_wp λprog w A R s h=>by
  obtain⟨hp,g,d,tk,os⟩:=s;obtain⟨hl,h⟩:=h;have hsub:=sub_enumerate;have hL:NY.IsTuple (NQ.heap ⟨hp,g,d,tk,os⟩) l items:=⟨_,hl,rfl,n,rfl⟩;wp_walk using wpAny_loadPart' hl;refine wpAny_stack_any λst=>Jx ?_
  split
  .rename_i c _ _ _ _ _;cases(c == NO.type "enumerate")
   .wp_walk using wpAny_loadPart' hl,Lz hL;exact⟨_,rfl,h⟩
   .wp_walk using wpAny_loadPart' hl,Lz hL;exact⟨_,rfl,h⟩
  .wp_walk using wpAny_loadPart' hl,Lz hL;exact⟨_,rfl,h⟩
section
variable {prog:NR}{w:NS}{A:NT}{E:NO->NQ->Prop}{s:NQ}
def aI {l:NP}{items:Array NO}{Q:NO->NQ->Prop}(hL:s.heap.IsTuple l items)
  (h:∀h',IsEnum h' (s.heap.objs.size+1) s.heap.objs.size 0 .none->h'.IsTupleIter s.heap.objs.size l 0->h'.objs.size=s.heap.objs.size+2 ->
   (∀b o,s.heap.get? b=some o->h'.get? b=some o)->Q (.ref (s.heap.objs.size+1)) { s with heap:=h' }) :
  Of (model prog w) A (call (.type "enumerate") [.ref l]) Q E s:=by
 obtain⟨⟨c,dct,dt,sl⟩,hl,hc,n,hd⟩:=hL;replace hc:c = .type "tuple":=hc;replace hd:dt = .seq items n:=hd;subst hc hd;refine callType_new PySem.F.called_enumerate (by decide) (PySem.F.typeCall_enumerate_1 _) (PySem.F.newCall_enumerate_1 _) (λobj=>PySem.F.args_object_init_2 obj _) PySem.F.entry_enumerate_new
  (aY l items n dct sl) ⟨hl,?_⟩
 have hz:(s.heap.push { cls:=.type "tuple_iterator",data:=.fields #[.ref l,.int 0 0] }).objs.size=s.heap.objs.size+1:=MD ..;show _/\_;rw[hz];have he:IsEnum ((s.heap.push { cls:=.type "tuple_iterator",data:=.fields #[.ref l,.int 0 0] }).push
   { cls:=.type "enumerate",data:=.fields #[.none,.bool false,.ref s.heap.objs.size,rawInt 0,.none,.none] }) (s.heap.objs.size+1) s.heap.objs.size 0 .none:=by
  have:=JK (s.heap.push { cls:=.type "tuple_iterator",data:=.fields #[.ref l,.int 0 0] })
   (o:={ cls:=.type "enumerate",data:=.fields #[.none,.bool false,.ref s.heap.objs.size,rawInt 0,.none,.none] }) rfl
  rw[hz]at this;exact this
 refine⟨⟨_,he,rfl⟩,h _ he ⟨_,Jn _ (JK _ rfl),rfl,rfl⟩ (by rw[MD,hz]) λb o x=>Jn _ (Jn _ x)⟩
def sY {b:Bool}{l:NP}{items:Array NO}{Q:NO->NQ->Prop}(hL:tL b s.heap l items)
  (h:∀h',IsEnum h' (s.heap.objs.size+1) s.heap.objs.size 0 .none->nR b h' s.heap.objs.size l 0->h'.objs.size=s.heap.objs.size+2 ->
   (∀b o,s.heap.get? b=some o->h'.get? b=some o)->Q (.ref (s.heap.objs.size+1)) { s with heap:=h' }) :
  Of (model prog w) A (call (.type "enumerate") [.ref l]) Q E s:=by
 cases b
 .exact aI (show s.heap.IsTuple l items from hL) h
 .exact call_enumerate_list (show s.heap.IsList l items from hL) h
end
def SqA (b:Bool)(K:Fg)(H:Hp)(a:NP)(xs:List V):Prop:=if b then SqL K H a xs else SqT K H a xs
def Ite (b:Bool)(K:Fg)(a:NP):It :=
 ⟨λi H=>∃xs x,SqA b K H a xs/\xs[i]? = some x,λi H v H'=>∃t x,v = .ref t/\H t=none/\H'=upd H t (.tup [.int i,x])/\∀xs,SqA b K H a xs->xs[i]? = some x,λi H=>∃xs,SqA b K H a xs/\xs.length=i⟩
def SqA.get {b:Bool}{X:Cx}{pins:List (NP×Ob)}{σ:St}{H:Hp}{s:NQ}{a:NP}{xs:List V}(I:Inv X pins σ H s)(h:SqA b X.K H a xs):∃its:List NO,l0 xs its/\tL b s.heap a its.toArray:=by
 cases b
 .obtain⟨its,rv,p,_⟩:=I.tuple (show SqT X.K H a xs from h);exact⟨its,rv,p⟩
 .obtain⟨its,rv,p,_⟩:=I.list (show SqL X.K H a xs from h);exact⟨its,rv,p.isList⟩
def SqA.inj {b:Bool}{X:Cx}{pins:List (NP×Ob)}{σ:St}{H:Hp}{s:NQ}{a:NP}{xs ys:List V}(I:Inv X pins σ H s)(h:SqA b X.K H a xs)(h':SqA b X.K H a ys):ys=xs:=by
 cases b
 .exact I.tuple_inj (show SqT X.K H a ys from h') (show SqT X.K H a xs from h)
 .exact I.list_inj (show SqL X.K H a ys from h') (show SqL X.K H a xs from h)
end
section
def wM {h:NY}{c:NP}{o o':Ob}(hl:c<h.objs.size)(e:(h.push o).get? c=some o'):h.get? c=some o':=by
 obtain⟨e1,e2⟩:=NY.get?_some_iff.1 e;refine NY.get?_some_iff.2 ⟨?_,e2⟩;have:=JG hl;cases h;simpa [NY.push,Array.getElem?_push,this] using e1
def ig {X:Cx}{pins:List (NP×Ob)}{σ:St}{H:Hp}{s:NQ}{h':NY}{t':Nat}{fp:List NP}(I:Inv X pins σ H s)(hf:∀b∈fp,gp X pins H b)(k:∀b o,b ∉ fp->s.heap.get? b=some o->h'.get? b=some o):Inv X pins σ H { s with heap:=h',toks:=t' }:=by
 have nit:∀b u,H b=some u->b ∉ fp:=λb u e z=>by rw[(hf b z).1]at e;cases e
 refine I.step (g':=s.gens) (d':=s.drawn) (ch:=fp) (λb hb=>?_) (λb o _ _ hc e _=>k b o hc e) (λb o _ _ hc e _=>⟨o.slots,k b o hc e⟩) (λ_ _ _ _ n=>n)
  (λb o hc e=>⟨o,k b o hc e⟩) (λ_ _ e=>e) (λ_ _ _ e=>e) (λb ps e=>⟨#[],by rw[e];simp⟩) (λm hm=>?_) (λb u e=>?_) I.bare
 .obtain⟨_,f1,f2,f3,f4,f5⟩:=hf b hb;exact⟨f3,f1,f4,f5⟩
 .obtain⟨o,es,ep,ho,r⟩:=hm;exact⟨o,es,ep,k _ o (λz=>(hf _ z).2.1 rfl) ho,r⟩
 .refine(I.hok b u e).stay (λc v hc q=>k c v ?_ q) (λ_ q=>q) λ_ _ q=>q
  rcases hc with z | z
  .rw[z];exact nit b u e
  .exact nit c _ z
def sy {P:NR}{w:NS}{K:Fg}{es:List NX}{k:Nat}{pos:Pos}(b:Bool)(a e it:NP):Turn P w K (.Tuple es k pos) (Ite b K a) [e,it] e (λi h=>(e≠it/\a≠e/\a≠it)/\(∃old,IsEnum h e it i old)/\nR b h it a i) where
 mem:=by simp
 obj:=λi h st c hb=>by
  obtain⟨_,⟨old,he⟩,hit⟩:=st;rcases Jl.1 hb with rfl | hb
  .exact⟨_,he,λv z=>by cases(show Data.fields _=Data.cell v from z)⟩
  .rw[Ko.1 hb];exact hit.obj
 keep:=λi h h' st kk=>by
  obtain⟨n,⟨old,he⟩,hit⟩:=st;exact⟨n,⟨old,kk e (by simp) _ he⟩,hit.at λo z=>kk it (by simp) o z⟩
 item:=by
  intro X hP hw hK hc i pins s σ H E I hf st hg;subst hP hw hK;obtain⟨⟨n1,n2,n3⟩,⟨old,he⟩,hit⟩:=st;obtain⟨xs,x,hq,hx⟩:=hg;obtain⟨its,rv,p⟩:=SqA.get I hq;obtain⟨u,hu,ru⟩:=rv.get hx;have hlt:i<its.toArray.size:=by
   have:=(Jm.1 hu).1;simpa using this
  have hel:e<s.heap.objs.size:=Jz he;have hil:it<s.heap.objs.size:=by obtain⟨o,z,_⟩:=hit.obj;exact Jz z
  refine wpAny_pyNext_enum_itemD (nH b (A:=X.A.in1) (I.ok.hd hc) it a n3 its.toArray) he ⟨hit,p⟩ hlt n1 (by simp[n1,JV n2]) λy h' tk hy ho hst' ht hz hk=>?_
  have hyu:y=u:=by
   have hy:its.toArray[i]? = some y:=hy;rw[List.getElem?_toArray,hu]at hy;exact(Jt hy).symm
  subst hyu;refine⟨_,rfl,wpAny_letOwnedTupleGo_enum ho λh2 he2 hs2=>?_⟩;have hs2:NY.SameBut e h' h2:=hs2;have hf0:H s.heap.objs.size=none:=I.hok.fresh (Jq _);have I1:Inv X pins σ (upd H s.heap.objs.size (.tup [.int i,x])) { s with heap:=s.heap.push { cls:=.type "tuple",data:=.seq #[.int i tk,y] },toks:=tk }:=by
   refine I.laid (t':=tk) (λb u e=>Jn _ e) (Jq _) ?_;exact⟨JM (show 2<=10000 by decide) (by rw[JQ];decide),[.int i tk,y],.cons ⟨tk,rfl⟩ (.cons ru .nil),⟨_,JK _ rfl,rfl,_,rfl⟩⟩
  have hfp:∀c∈[e,it],gp X pins (upd H s.heap.objs.size (.tup [.int i,x])) c:=λc hcm=>by
   obtain⟨f0,f⟩:=hf c hcm;have hne:c≠s.heap.objs.size:=by
    rcases Jl.1 hcm with rfl | hcm
    .exact JG hel
    .rw[Ko.1 hcm];exact JG hil
   exact⟨by rw[a8 hne];exact f0,f⟩
  have hT2:h2.get? s.heap.objs.size=some { cls:=.type "tuple",data:=.seq #[.int i tk,y] }:=hs2.extBut _ _ (NC hel) ht;have I2:Inv X pins σ (upd H s.heap.objs.size (.tup [.int i,x])) { s with heap:=h2,toks:=tk+1 }:=by
   refine ig (s:={ s with heap:=s.heap.push { cls:=.type "tuple",data:=.seq #[.int i tk,y] },toks:=tk }) I1 hfp λc o hcn ec=>?_
   have c1:c≠e:=λz=>hcn (by simp[z])
   have c2:c≠it:=λz=>hcn (by simp[z])
   by_cases hcT:c=s.heap.objs.size
   .subst hcT;have:(s.heap.push { cls:=.type "tuple",data:=.seq #[.int i tk,y] }).get? s.heap.objs.size=some o:=ec;rw[JK _ rfl]at this;rw[hT2];exact this
   .have hlc:c<s.heap.objs.size:=by
     have h1:c<(s.heap.push { cls:=.type "tuple",data:=.seq #[.int i tk,y] }).objs.size:=Jz ec;rw[MD]at h1;exact Nat.lt_of_le_of_ne (Nat.le_of_lt_succ h1) hcT
    have ec':s.heap.get? c=some o:=by
     have ec:(s.heap.push { cls:=.type "tuple",data:=.seq #[.int i tk,y] }).get? c=some o:=ec;exact wM hlc ec
    exact hs2.extBut c o c1 (hk c o c1 c2 ec')
  refine⟨.ref s.heap.objs.size,upd H s.heap.objs.size (.tup [.int i,x]),I2,rfl,⟨_,x,rfl,hf0,rfl,λys hy=>by rw[SqA.inj I hq hy];exact hx⟩,⟨⟨n1,n2,n3⟩,⟨y,by simpa using he2⟩,hst'.1.at λo z=>hs2.extBut it o (JV n1) z⟩,λc hcm=>(hfp c hcm).1⟩
 done:=by
  intro X hP hw hK hc i pins s σ H E I hf st hg;subst hP hw hK;obtain⟨⟨n1,n2,n3⟩,⟨old,he⟩,hit⟩:=st;obtain⟨xs,hq,hx⟩:=hg;obtain⟨its,rv,p⟩:=SqA.get I hq;have hl:its.toArray.size=i:=by rw[Jw,<-rv.length];exact hx
  refine wpAny_pyNext_enum_endD (nH b (A:=X.A.in1) (I.ok.hd hc) it a n3 its.toArray) he (by rw[hl];exact⟨hit,p⟩) λh' eb=>⟨rfl,ig (t':=s.toks) I hf λc o hc ec=>eb c o (λz=>hc (by simp[z])) ec⟩
 self:=λ_ _ _ _ _ st h=>by
  obtain⟨_,⟨old,he⟩,_⟩:=st;exact wpAny_pyIter_enum he h
section
variable [Feeds]{K:Fg}{X:Cx}{tg iter e:NX}{te:TE}{m:DE->M My}{pos p tp:Pos}{es:List NX}{tk:Nat}
def O9:Nat->List My->List My
 | _,[]=>[]
 | k,d::r=>.tuple [.int k,d]::O9 (k+1) r
theorem jF:∀{ds:List My} {k:Nat},(O9 k ds).length=ds.length
 | [],k=>rfl
 | d::r,k=>by rw[O9,JB,JB,jF]
theorem jP:∀{ds:List My} {k i:Nat} {z:My},(O9 k ds)[i]? = some z->∃d,ds[i]? = some d/\z = .tuple [.int ((k+i:Nat)),d]
 | [],k,i,z,h=>by simp[O9]at h
 | d::r,k,0,z,h=>by simp[O9]at h;exact⟨d,by simp,by simp[h]⟩
 | d::r,k,i+1,z,h=>by
  rw[O9,LN]at h;obtain⟨d',h1,h2⟩:=jP h;refine⟨d',by simpa using h1,?_⟩;rw[h2,show k+1+i=k+(i+1) by omega]
def gI (a:DE->M My):DE->M (List My):=λE F=>(a E F).bind λp=>(jM p.1).bind λds=>some (O9 0 ds,p.2)
def uU (K:Fg)(tl:TA):TI:=λσ H R=>tl σ H λxs H1=>∃a,xs=[.ref a]/\∃b ys,SqA b K H1 a ys/\R (Ite b K a) H1
def qQ {l:NX}{tl:TA}(hK:X.K=K)(hg:Gl X "enumerate")(hm:X.mg "enumerate" = none)(ha:PA X [l] tl)(hs:Oa [l] X.env=[(false,eval l X.env)]:=by rfl):PI X (.Tuple es tk tp) (.Call (.Name "enumerate" p) [l] [] pos) (uU K tl):=by
 subst hK;intro pins s σ H R I h;refine Call_ (aK I hg hm boot_enumerate (KR (thn (ha pos pins s σ H _ I h) λus s1 ⟨vs,H1,I1,r1,q1⟩=>?_) hs rfl));obtain⟨a,e,b,ys,hq,q⟩:=q1;subst e;cases r1 with
 | cons r rr =>
  cases rr;cases r;obtain⟨its,rv,p⟩:=SqA.get I1 hq;refine sY p λh' he hit hz hk=>?_
  have I2:Inv X pins σ H1 { s1 with heap:=h' }:=I1.kept (t':=s1.toks) hk;have hal:a<s1.heap.objs.size:=by
   cases b
   .obtain⟨o,z,_⟩:=(show s1.heap.IsTuple a its.toArray from p);exact Jz z
   .obtain⟨o,z,_⟩:=(show s1.heap.IsList a its.toArray from p);exact Jz z
  refine wpAny_pyIter_enum he ⟨s1.heap.objs.size+1,[s1.heap.objs.size+1,s1.heap.objs.size],_,_,H1,rfl,I2,sy b a _ _,⟨⟨Nat.succ_ne_self _,JG (Lf hal),JG hal⟩,⟨_,he⟩,hit⟩,λc hc=>?_,q⟩;have hle:s1.heap.objs.size<=c:=by
   rcases Jl.1 hc with rfl | hc
   .exact LI _
   .rw[Ko.1 hc];exact Jq _
  exact I1.fpOk hle (I1.hok.fresh hle)
def gx {P:Hp->List NP->Prop}{b:Bool}{a:NP}{ds:List My}{xs:List V}(h:∀H B,P H B->SqA b K H a xs/\a6 K (hid H B) ds xs):eX K P (Ite b K a) (O9 0 ds):=λH B hp=>by
 obtain⟨h1,h2⟩:=h H B hp;refine⟨λi d e=>?_,⟨xs,h1,by rw[jF,h2.length]⟩⟩;obtain⟨d',hd',rfl⟩:=jP e;obtain⟨v,e1,e2⟩:=a6.item h2 hd';refine⟨⟨xs,v,h1,e1⟩,λx H2 y=>?_⟩;obtain⟨t,x',rfl,ht,rfl,y⟩:=y;have:=y xs h1;rw[e1]at this;cases this;refine⟨d8.upd ht,λbk=>?_⟩;rw[JZ];exact U4 bk ht ⟨_,_,rfl,a7.int,_,_,rfl,e2,rfl⟩
def rN (h:Ev K X e te m)(hm:X.mg "enumerate" = none)(hK:X.K=K:=by rfl)(hg:Gl X "enumerate":=by rfl)(hs:Oa [e] X.env=[(false,eval e X.env)]:=by rfl):Ei K X (.Tuple es tk tp) (.Call (.Name "enumerate" p) [e] [] pos) (uU K (v6 te F0)) (gI m):=⟨qQ hK hg hm (i8 h.pe l6 hs) hs,λG B E F σ H R ds F' I e q=>by
 obtain⟨⟨y,F1⟩,e1,e⟩:=bS9 e;obtain⟨z,e2,e⟩:=bS9 e;cases e;refine h.ok G B E F σ H _ y F1 I e1 λv H1 k1 f1 h1=>?_
 cases y with
 | list ys =>
  cases e2;simp only[a7]at h1;obtain⟨a,xs,rfl,ha,hd⟩:=h1;exact⟨a,rfl,true,xs,SqL.of (d6 _ _ ha),q _ H1 k1 f1 (gx λH2 B2 s=>⟨SqL.of (d6 _ _ (s _ _ ha)),hd.same s⟩)⟩
 | tuple ys =>
  cases e2;simp only[a7]at h1;obtain⟨a,xs,rfl,ha,hd⟩:=h1;exact⟨a,rfl,false,xs,ha.same d6,q _ H1 k1 f1 (gx λH2 B2 s=>⟨(ha.same s).same d6,hd.same s⟩)⟩
 | _=>cases e2⟩
def vh (h:Eb K X e te m)(hm:X.mg "enumerate" = none)(hK:X.K=K:=by rfl)(hg:Gl X "enumerate":=by rfl)(hs:Oa [e] X.env=[(false,eval e X.env)]:=by rfl):Eib K X (.Tuple es tk tp) (.Call (.Name "enumerate" p) [e] [] pos) (uU K (v6 te F0)) (gI m):=⟨qQ hK hg hm (i8 h.pe l6 hs) hs,λG B E F σ H R ds F' I e q=>by
 obtain⟨⟨y,F1⟩,e1,e⟩:=bS9 e;obtain⟨z,e2,e⟩:=bS9 e;cases e;refine h.ok G B E F σ H _ y F1 I e1 λv H1 k1 f1 h1=>?_
 cases y with
 | list ys =>
  cases e2;obtain⟨a,xs,rfl,ha,hd⟩:=h1;exact⟨a,rfl,true,xs,SqL.of (d6 _ _ ha),q _ H1 k1 f1 (gx λH2 B2 k=>⟨SqL.of (d6 _ _ (k.1.hid (B:=n6 K G) (λ_ z=>z) _ _ ha)),hd.same k.2⟩)⟩
 | tuple ys =>
  cases e2;obtain⟨a,xs,rfl,ha,hd⟩:=h1;exact⟨a,rfl,false,xs,ha.same d6,q _ H1 k1 f1 (gx λH2 B2 k=>⟨(ha.same k.2).same d6,hd.same k.2⟩)⟩
 | _=>cases e2⟩
end
end
section
section
variable [Feeds]{K:Fg}{X:Cx}{a b c e tg iter:NX}{es:List NX}{ta tb tc te:TE}{ma mb mc m:DE->M My}{pos pos' p p2:Pos}{t u:TS}{mt mu:DE->M Out}
def sD (f:Int->Int->Int)(i:Nat)(a:DE->M My):DE->M Out:=λE F=>match E[i]? with
 | some (some (.dat (.int x)))=>(a E F).bind λp=>(dO p.1).bind λy=>(bN i (.int (f x y)) E).bind λE1=>some (.nx E1,p.2)
 | _=>none
def CT {f:Int->Int->Int}{i:Nat}(he:TEd K te m):TSd K (vI i te (ipI f)) (sD f i m):=λG B0 H0 E F σ H D r F' S e q=>by
 unfold sD at e;split at e
 .rename_i x hx;obtain⟨⟨d,F1⟩,e1,e⟩:=bS9 e;obtain⟨y,e2,e⟩:=bS9 e;obtain⟨E1,e3,e⟩:=bS9 e;cases e;obtain⟨B,s,sn,I⟩:=S.ex;obtain⟨v,v1,v2⟩:=I.loc i _ hx;have v2:a7 K (hid H B) (.int x) v:=v2;simp only[a7]at v2;subst v2;refine⟨_,v1,he G B E F σ H _ d F1 I e1 λv H1 k1 f1 h1=>?_⟩;have:=cA e2;simp only at this;subst this;simp only[a7]at h1;subst h1;refine⟨x,y,rfl,rfl,?_⟩;have S1:=S.step k1 f1;exact lO i G B E F1 σ H1 (.int (f x y)) _ E1 (λσ' H'=>D.nx σ' H') (I.step k1 f1) a7.int e3 λσ' I' fr=>q σ' H1 (S1.bind s sn I' fr)
 .cases e
def yH (i:Nat){x:Str}(hN:X.N.Nodup)(he:Ev K X e te m)(hi:X.N[i]? = some x:=by rfl)(hx:Loc X.env.scope x:=by first | exact Or.inl rfl | exact Or.inr rfl)(hf:X.fn x=true\/X.env.scope.names.lookup x=some .local:=by first | exact .inl rfl | exact .inr rfl | assumption) :
  Ss K X (.AugAssign (.Name x pos') .Add e pos) (vI i te (ipI λi j=>i+j)) (sD (λi j=>i+j) i m):=⟨vy hN hi hx he.pe BJ hf,CT he.ok⟩
def tQ (i:Nat)(v:DE->M My):DE->M Out:=λE F=>(v E F).bind λp=>(av E i).bind λds=>match p.1 with
 | .list zs=>if ds.length+zs.length<=NZ then some (.nx (E.set i (some (.own (ds++zs)))),p.2) else none
 | _=>none
end
end
section
section
variable [Feeds]{K:Fg}{X:Cx}{a b c e tg iter:NX}{es:List NX}{ta tb tc te:TE}{ma mb mc m:DE->M My}{pos pos' p p2:Pos}
end
end
section
section
variable {X:Cx}
end
section
variable [Feeds]{K:Fg}{X:Cx}{a b c e tg iter:NX}{es:List NX}{ta tb tc te:TE}{ma mb mc m:DE->M My}{pos pos' p p2 pos2:Pos}
def zS (ta:TA):TE:=λσ H Q=>ta σ H λvs H1=>∃i j:Int,vs=[.int i,.int j]/\∀p,H1 p=none->Q (.ref p) (upd H1 p (.rng i j))
def tJ {ta:TA}(hg:Gl X "range")(hm:X.mg "range" = none)(ha:PA X [a,b] ta)(hs:Oa [a,b] X.env=[(false,eval a X.env),(false,eval b X.env)]:=by rfl)(hs2:Oa [b] X.env=[(false,eval b X.env)]:=by rfl):PE X (.Call (.Name "range" p) [a,b] [] pos) (zS ta):=by
 intro pins s σ H Q I h;refine Call_ (aK I hg hm boot_range (KR (thn (ha pos pins s σ H _ I h) λus s1 ⟨vs,H1,I1,r1,q1⟩=>?_) (by rw[hs,hs2]) (by rw[hs2];rfl)));obtain⟨i,j,e,q⟩:=q1;subst e;cases r1 with
 | cons r rr =>
  cases rr with
  | cons r2 rr =>
   cases rr;obtain⟨t,rfl⟩:=r;obtain⟨t2,rfl⟩:=r2;refine call_range_2 ?_;exact⟨.ref s1.heap.objs.size,_,I1.laid (a:=s1.heap.objs.size) (o:=.rng i j) (λb o e=>Jn _ e) (Jq _) ⟨_,_,_,JK _ rfl⟩,rfl,q _ (I1.hok.fresh (Jq _))⟩
def uo {lo:Int}{n:Nat}{acc:Array NO}(h:ItemsOf (λi v=>∃t,v=NO.int (lo+i*1) t) acc n):l0 ((List.range n).map λ(i:Nat)=>V.int (lo+(i:Int))) acc.toList:=by
 obtain⟨h1,h2⟩:=h;refine W5 (by rw[Jf,JD,KY,h1]) λi x u hx hu=>?_
 rw[Js]at hx;obtain⟨j,hj,rfl⟩:=JJ.1 hx;obtain⟨hlt,e⟩:=Jm.1 hj;rw[LA]at e;subst e;obtain⟨t,rfl⟩:=h2 i u (by rw[<-Ks];exact hu);exact⟨t,by congr 1;omega⟩
def uJ:List V->Hp->VK->Prop:=λxs H Q=>∃(p:NP) (i j:Int),xs=[.ref p]/\H p=some (.rng i j) /\ -(2 ^ 62)<=i/\i<2 ^ 62 /\ -(2 ^ 62)<=j/\j<2 ^ 62/\(j-i).toNat<=1000/\∀l,H l=none->Q (.ref l) (upd H l (.lst ((List.range (j-i).toNat).map λ(k:Nat)=>V.int (i+(k:Int)))))
def aL (hc:X.calm=true):D1 X (.type "list") uJ:=by
 intro pins s σ H xs us Q I r h;obtain⟨p,i,j,rfl,hp,i0,i1,j0,j1,hz,q⟩:=h;obtain⟨u,rfl,ru⟩:=P5 r;cases ru;obtain⟨t,u,v,hr⟩:=(show L9 X.prog X.w H s.heap p (.rng i j) from I.hok p _ hp);have hn:Builtin.Range.rangeSize i j 1=((j-i).toNat:Int):=by rw[rangeSize_one];split <;> omega
 refine call_list_range (n:=(j-i).toNat) (I.ok.hd hc) hr (small_one (by omega) (by omega) (by omega) (by omega)) hn (by omega) λh' tk acc c' hk hS hit=>?_
 have I1:Inv X pins σ (upd H s.heap.objs.size (.lst ((List.range (j-i).toNat).map λ(k:Nat)=>V.int (i+(k:Int))))) { s with heap:=h',toks:=tk } :=
  I.laid (a:=s.heap.objs.size) hk (Jq _) ⟨by rw[Jf,JD];exact KA (Q8 (by omega)),acc.toList,c',uo hit,by rw[hS]⟩
 exact⟨.ref s.heap.objs.size,_,I1,rfl,q _ (I.hok.fresh (Jq _))⟩
theorem iD {H:Hp}{lo:Int}:∀{ns:List Nat},a6 K H (ns.map λ(i:Nat)=>My.int (lo+i)) (ns.map λ(k:Nat)=>V.int (lo+(k:Int)))
 | []=>a6.nil
 | n::r=>⟨_,_,rfl,a7.int,iD (ns:=r)⟩
def lE (a:DE->M (List My)):DE->M My:=λE F=>(a E F).bind λp=>(T1 p.1).bind λds=>if ds.length<=1000 then some (.list ds,p.2) else none
def kM (a:DE->M (List My)):DE->M My:=λE F=>(a E F).bind λp=>(cK p.1).bind λds=>if ds.length<=1000 then some (.list ds,p.2) else none
def xk {ta:TA}{ms:DE->M (List My)}(h:Ea K X [a] ta ms)(hc:X.calm=true)(hm:X.mg "range" = none)(hml:X.mg "list" = none)(hbt:Oj "list" = some (.type "list"))(hg:Gl X "range":=by rfl)(hgl:Gl X "list":=by rfl)(hs:Oa [a] X.env=[(false,eval a X.env)]:=by rfl)
  (he:Oa [.Call (.Name "range" p2) [a] [] pos2] X.env=(false,eval (.Call (.Name "range" p2) [a] [] pos2) X.env)::Oa [] X.env:=by rfl) (hpl:(Od pos (Oa [] X.env)).any (·.1)=false:=by rfl) :
  Ev K X (.Call (.Name "list" p) [.Call (.Name "range" p2) [a] [] pos2] [] pos) (tCB uJ (v6 (DK ta) F0)) (lE ms) :=
 ⟨bK (aL hc) hgl hml hbt (i8 (vQ hg hm h.pa hs) l6 he) (by decide) (by decide) he hpl,λG B E F σ H Q d F' I e q=>by
  obtain⟨⟨ys,F1⟩,e1,e⟩:=bS9 e;obtain⟨z,e2,e⟩:=bS9 e;split at e
  .rename_i hz;cases e;refine h.ok G B E F σ H _ ys F1 I e1 λvs H1 k1 f1 h1=>?_
   unfold T1 at e2;split at e2
   .rename_i j hj;split at e2
    .rename_i hc;cases e2;have hj:ys=[.int j]:=hj;subst hj;simp only[a6]at h1;obtain⟨x,r,rfl,h2,rfl⟩:=h1;simp only[a7]at h2;subst h2;have hz:(af 0 j.toNat).length<=1000:=hz;simp[af]at hz;refine⟨j,rfl,λp hp=>⟨p,0,j,rfl,c7,by omega,by omega,hc.1,hc.2,by omega,λl hl=>?_⟩⟩;have bk1:=A3 I.bk k1 f1;have bk2:BOk (upd H1 p (.rng 0 j)) B:=λb hb=>by
      obtain⟨o,eo⟩:=bk1 b hb;exact⟨o,by rw[a8 (e8 eo hp)];exact eo⟩
     rw[Int.sub_zero];exact q _ _ ((k1.trans (Kp.upd hp)).trans (Kp.upd hl)) ((f1.same (d8.upd hp)).same (d8.upd hl)) (O2 bk2 hl iD)
    .cases e2
   .cases e2
  .cases e⟩
def wL {ta:TA}{ms:DE->M (List My)}(h:Ea K X [a,b] ta ms)(hc:X.calm=true)(hm:X.mg "range" = none)(hml:X.mg "list" = none)(hbt:Oj "list" = some (.type "list"))(hg:Gl X "range":=by rfl)(hgl:Gl X "list":=by rfl)(hs:Oa [a,b] X.env=[(false,eval a X.env),(false,eval b X.env)]:=by rfl)(hs2:Oa [b] X.env=[(false,eval b X.env)]:=by rfl)
  (he:Oa [.Call (.Name "range" p2) [a,b] [] pos2] X.env=(false,eval (.Call (.Name "range" p2) [a,b] [] pos2) X.env)::Oa [] X.env:=by rfl) (hpl:(Od pos (Oa [] X.env)).any (·.1)=false:=by rfl) :
  Ev K X (.Call (.Name "list" p) [.Call (.Name "range" p2) [a,b] [] pos2] [] pos) (tCB uJ (v6 (zS ta) F0)) (kM ms) :=
 ⟨bK (aL hc) hgl hml hbt (i8 (tJ hg hm h.pa hs hs2) l6 he) (by decide) (by decide) he hpl,λG B E F σ H Q d F' I e q=>by
  obtain⟨⟨ys,F1⟩,e1,e⟩:=bS9 e;obtain⟨z,e2,e⟩:=bS9 e;split at e
  .rename_i hz;cases e;refine h.ok G B E F σ H _ ys F1 I e1 λvs H1 k1 f1 h1=>?_
   unfold cK at e2;split at e2
   .rename_i i j hj;split at e2
    .rename_i hc;cases e2;have hj:ys=[.int i,.int j]:=hj;subst hj;simp only[a6]at h1;obtain⟨x,r,rfl,h2,y,r2,rfl,h3,rfl⟩:=h1;simp only[a7]at h2 h3;subst h2 h3;have hz:(af i (j-i).toNat).length<=1000:=hz;simp[af]at hz;refine⟨i,j,rfl,λp hp=>⟨p,i,j,rfl,c7,by omega,by omega,by omega,by omega,by omega,λl hl=>?_⟩⟩;have bk1:=A3 I.bk k1 f1;have bk2:BOk (upd H1 p (.rng i j)) B:=λb hb=>by
      obtain⟨o,eo⟩:=bk1 b hb;exact⟨o,by rw[a8 (e8 eo hp)];exact eo⟩
     exact q _ _ ((k1.trans (Kp.upd hp)).trans (Kp.upd hl)) ((f1.same (d8.upd hp)).same (d8.upd hl)) (O2 bk2 hl iD)
    .cases e2
   .cases e2
  .cases e⟩
end
end
section
section
variable {prog:NR}{w:NS}{A:NT}{E:NO->NQ->Prop}{s:NQ}
end
section
variable {X:Cx}{K:Fg}{p p2 pos pos2:Pos}
end
section
variable {prog:NR}{w:NS}{A:NT}{E:NO->NQ->Prop}{s:NQ}
def ky {l:NP}{xs:Array (Int×Tok)}{Q:NO->NQ->Prop}(hh:A.handled=none)(hl:s.heap.IsTuple l (intItems xs))
  (h:∀h' tk t',(∀b o,s.heap.get? b=some o->h'.get? b=some o)->Q (.int (preSum (numAt xs) xs.size) t') { s with heap:=h',toks:=tk }) :
  Of (model prog w) A (call (.builtin "sum") [.ref l]) Q E s:=by
 have hlt:l<s.heap.objs.size:=by obtain⟨_,e,_⟩:=hl;exact Jz e
 refine call_sum_walkG (Lz hl ?_);refine⟨s.heap.objs.size,[s.heap.objs.size,l],[s.heap.objs.size],_,_,_,numAt xs,rfl,Walks.tuple (A:=A.in1) hh _ l (JG hlt) (intItems xs),⟨⟨_,JK _ rfl,rfl,rfl⟩,hl.push _⟩,λb hb=>?_,(λ_ _=>intItems_at),λh' tk t' hk=>?_⟩
 .show b<(s.heap.push _).objs.size;rw[MD];rcases Jl.1 hb with rfl | hb
  .exact Lu _
  .rw[Ko.1 hb];exact Lf hlt
 .have:=h h' tk t' λb o e=>hk b o (λhm=>by rw[Ko.1 hm]at e;exact absurd (Jz e) (KD _)) (Jn _ e)
  simpa [intItems] using this
end
section
variable {X:Cx}{K:Fg}{p p2 pos pos2:Pos}
def tG (hc:X.calm=true):D1 X (.builtin "sum") (λxs H Q=>∃(a:NP) (ns:List Int),xs=[.ref a]/\SqT X.K H a (ns.map V.int)/\Q (.int ns.sum) H):=by
 intro pins s σ H xs us Q I r h;obtain⟨a,ns,rfl,hq,q⟩:=h;obtain⟨u,rfl,ru⟩:=P5 r;cases ru;obtain⟨its,rv,p,hz⟩:=I.tuple hq;have hi:=cm rv;obtain⟨zs,hzs⟩:=hi.allInts.items;have hl:s.heap.IsTuple a (intItems zs):=hzs▸p;refine ky (I.ok.hd hc) hl λh' tk t' hk=>⟨.int ns.sum,H,I.kept hk,⟨t',?_⟩,q⟩
 have hn:=hi.numsOf;have e:numsOf (intItems zs).toList=ns:=by rw[<-hzs];exact hn
 rw[nums_intItems]at e;rw[preSum_eq,Kw (by simp),e]
def Y3:List My->Option My
 | [.list ds]=>(Q4 ds).map λns=>.int ns.sum
 | [.tuple ds]=>(Q4 ds).map λns=>.int ns.sum
 | _=>none
def W9 (hK:X.K=K)(hc:X.calm=true):D1 X (.builtin "sum") (rDN K Y3):=by
 subst hK;intro pins s σ H xs us Q I r h;obtain⟨fp,B,ds,z,bk,h1,hf,q⟩:=h;unfold Y3 at hf;split at hf <;> try cases hf
 .obtain⟨ns,e,rfl⟩:=JJ.1 hf;cases S9 e;obtain⟨v,rfl,a,xs,rfl,ha,hd⟩:=eU h1 rfl;cases iK hd;exact uR hc pins s σ H _ us Q I r ⟨a,ns,rfl,SqL.of (d6 _ _ ha),q _ H (d8.refl H) a7.int⟩
 .obtain⟨ns,e,rfl⟩:=JJ.1 hf;cases S9 e;obtain⟨v,rfl,a,xs,rfl,ha,hd⟩:=eU h1 rfl;cases iK hd;exact tG hc pins s σ H _ us Q I r ⟨a,ns,rfl,ha.same d6,q _ H (d8.refl H) a7.int⟩
variable [Feeds]
end
end
section
section
variable {X:Cx}{K:Fg}
variable {mg:Str->Option NO}
end
section
variable [Feeds]{X:Cx}{K:Fg}
def wg (i:Nat)(m:DE->M Out):DE->M Out:=λE F=>(av E i).bind λds=>m (E.set i (some (.dat (.list ds)))) F
def DU {i:Nat}{ts:TS}{m:DE->M Out}(h:TSd K ts m):TSd K ts (wg i m):=λG B0 H0 E F σ H D r F' S e q=>by
 obtain⟨ds,e4,e⟩:=bS9 e;obtain⟨B,s,sn,I⟩:=S.ex;have eo:=V7 e4;have hil:i<E.length:=(Jm.1 eo).1;obtain⟨w,w1,a,xs,rfl,hB,hf,hx,hdx⟩:=I.loc i _ eo;have ha:=S.own i ds a eo w1;have sub:∀b∈B.filter (λb=>decide (b≠a)),b∈B:=λb hb=>(JP.1 hb).1
 have inB:∀b∈B,b≠a->b∈B.filter (λb=>decide (b≠a)):=λb hb hn=>JP.2 ⟨hb,Kn hn⟩
 have ng:a ∉ B.filter (λb=>decide (b≠a)):=λhb=>absurd rfl (JT (JP.1 hb).2)
 have sm:d8 (hid H B) (hid H (B.filter (λb=>decide (b≠a)))):=M7 sub;have get:∀j,j≠i->(E.set i (some (.dat (.list ds))))[j]? = E[j]?:=λj hj=>by rw[Jp (JV hj)]
 have geti:(E.set i (some (.dat (.list ds))))[i]? = some (some (.dat (.list ds))):=by rw[Ju hil]
 refine h G B0 H0 (E.set i (some (.dat (.list ds)))) F σ H D r F' ⟨⟨_,λb hb=>inB b (s b hb) λz=>ha.2 (z▸hb),λb hb=>sn b (sub b hb),⟨I.fd,λb hb=>inB b (I.fB b hb) λz=>hf (z▸hb),λb hb=>I.bk b (sub b hb),by rw[Kh];exact I.ln,λj x ej=>?_⟩⟩,S.fB,S.kp,λj es b ej=>?_,λj k es fs b ej ek=>?_⟩ e q
 .by_cases hj:j=i
  .subst hj;rw[geti]at ej;cases ej;refine⟨_,w1,a7.lst (by rw[e9 ng];exact hx) (hdx.same sm)⟩
  .rw[get j hj]at ej;obtain⟨v,v1,hv⟩:=I.loc j x ej;refine⟨v,v1,?_⟩;cases x with
   | dat d=>exact a7.same (hv:a7 _ _ _ _) sm
   | feed=>exact hv
   | fn _=>exact hv
   | adr _=>exact hv
   | own es =>
    obtain⟨b,ys,e1,hb1,hb2,hb3,hb4⟩:=hv;subst e1;exact⟨b,ys,rfl,inB b hb1 λz=>hj (S.inj j i es ds a ej eo (z▸v1) w1),hb2,hb3,hb4.same sm⟩
 .by_cases hj:j=i
  .subst hj;rw[geti]at ej;cases ej
  .rw[get j hj]at ej;exact S.own j es b ej
 .by_cases hj:j=i
  .subst hj;rw[geti]at ej;cases ej
  .by_cases hk:k=i
   .subst hk;rw[geti]at ek;cases ek
   .rw[get j hj]at ej;rw[get k hk]at ek;exact S.inj j k es fs b ej ek
def Ce (i:Nat){st:NW}{ts:TS}{m:DE->M Out}(h:Ss K X st ts m):Ss K X st ts (wg i m):=⟨h.ps,DU h.ok⟩
end
end
section
section
variable {X:Cx}
end
section
variable [Feeds]{X:Cx}{K:Fg}{e:NX}{te:TE}{m:DE->M My}{pos pos':Pos}
end
end
section
section
variable {prog:NR}{w:NS}{A:NT}{E:NO->NQ->Prop}{s:NQ}
end
section
variable [Feeds]{K:Fg}{X:Cx}{pos:Pos}
end
end
section
section
variable [Feeds]{X:Cx}{K:Fg}{e:NX}{te:TE}{m:DE->M My}{pos:Pos}
end
end
section
section
variable [Feeds]{X:Cx}{K:Fg}{e:NX}{te:TE}{m:DE->M My}{pos p2:Pos}
end
end
section
def len_1 {us:List NO}(h:us.length=1):∃a,us=[a]:=List.length_eq_one_iff.1 h
def wO {us:List NO}{n:Nat}(h:us.length=n+1):∃a r,us=a::r/\r.length=n:=by
 cases us with
 | nil=>cases h
 | cons a r=>exact⟨a,r,rfl,Nat.succ.inj h⟩
def len_2 {us:List NO}(h:us.length=2):∃a b,us=[a,b]:=by
 obtain⟨a,r,rfl,h2⟩:=wO h;obtain⟨b,rfl⟩:=len_1 h2;exact⟨a,b,rfl⟩
def len_3 {us:List NO}(h:us.length=3):∃a b c,us=[a,b,c]:=by
 obtain⟨a,r,rfl,h2⟩:=wO h;obtain⟨b,c,rfl⟩:=len_2 h2;exact⟨a,b,c,rfl⟩
def len_4 {us:List NO}(h:us.length=4):∃a b c d,us=[a,b,c,d]:=by
 obtain⟨a,r,rfl,h2⟩:=wO h;obtain⟨b,c,d,rfl⟩:=len_3 h2;exact⟨a,b,c,d,rfl⟩
def wo (B A:List NP):List NP:=B.filter λb=>decide (b ∉ A)
def iG {B A:List NP}{b:NP}:b∈wo B A↔b∈B/\b ∉ A:=by unfold wo;rw[JP];simp
section
variable {K:Fg}{H:Hp}{B A:List NP}
end
section
variable [Feeds]
variable {K:Fg}{X:Cx}{e:NX}{es:List NX}{te:TE}{m:DE->M My}{tl:TA}{ms:DE->M (List DV)}{pos p:Pos}
end
end
section
def lT?:My->Option Int
 | .int i=>some i
 | _=>none
def fJ?:My->Option Int
 | .bool b=>some (if b then 1 else 0)
 | _=>none
def fR (ks:List My):Option (List Int):=match ks.mapM lT? with
 | some r=>some r
 | none=>ks.mapM fJ?
def vOf:My->V
 | .int i=>.int i
 | .bool b=>.bl b
 | _=>.non
theorem nq:∀{ks:List My} {ns:List Int},ks.mapM lT? = some ns->ks=ns.map .int
 | [],ns,h=>by simp at h;subst h;rfl
 | k::ks,ns,h=>by
  rw[Ll]at h;obtain⟨a,e1,h⟩:=bS9 h;obtain⟨r,e2,h⟩:=bS9 h;cases h;rw[nq e2];cases k <;> cases e1;rfl
theorem ju:∀{ks:List My} {ns:List Int},ks.mapM fJ? = some ns->∃bs:List Bool,ks=bs.map .bool/\ns=bs.map λb=>if b then 1 else 0
 | [],ns,h=>by simp at h;subst h;exact⟨[],rfl,rfl⟩
 | k::ks,ns,h=>by
  rw[Ll]at h;obtain⟨a,e1,h⟩:=bS9 h;obtain⟨r,e2,h⟩:=bS9 h;cases h;obtain⟨bs,rfl,rfl⟩:=ju e2;cases k with
  | bool b=>cases e1;exact⟨b::bs,rfl,rfl⟩
  | _=>cases e1
def xC {ks:List My}{ns:List Int}(h:fR ks=some ns):fY (ks.map vOf)/\(ks.map vOf).map jr=ns/\∀k∈ks,∀(K:Fg) (H:Hp) (v:V),a7 K H k v->v=vOf k:=by
 unfold fR at h;split at h
 .rename_i r e;cases h;rw[nq e];refine⟨.inl λk hk=>?_,?_,λk hk K H v hv=>?_⟩
  .simp only[JF,JS]at hk;obtain⟨n,_,rfl⟩:=hk;exact⟨n,rfl⟩
  .rw[JF,JF];exact(JU λn _=>rfl).trans (List.map_id _)
  .obtain⟨n,_,rfl⟩:=JS.1 hk;simp only[a7]at hv;exact hv
 .obtain⟨bs,rfl,rfl⟩:=ju h;refine⟨.inr λk hk=>?_,?_,λk hk K H v hv=>?_⟩
  .simp only[JF,JS]at hk;obtain⟨n,_,rfl⟩:=hk;exact⟨n,rfl⟩
  .rw[JF,JF];exact JU λn _=>rfl
  .obtain⟨n,_,rfl⟩:=JS.1 hk;simp only[a7]at hv;exact hv
inductive Al (K:Fg) (H:Hp):List (Int×My)->List (Int×V)->Prop
 | nil:Al K H [] []
 | cons {k:Int} {d:My} {v:V} {l m}:a7 K H d v->Al K H l m->Al K H ((k,d)::l) ((k,v)::m)
theorem Al.ins {K:Fg}{H:Hp}{k:Int}{d:My}{v:V}(h:a7 K H d v):∀{l m},Al K H l m->Al K H (ao (k,d) l) (ao (k,v) m)
 | _,_,.nil=>.cons h .nil
 | _,_,.cons (k:=k') h' r=>by
  simp only[ao];split
  .exact .cons h (.cons h' r)
  .exact .cons h' (Al.ins h r)
theorem Al.sort {K:Fg}{H:Hp}:∀{l m},Al K H l m->Al K H (x8 l) (x8 m)
 | _,_,.nil=>.nil
 | _,_,.cons h r=>Al.ins h r.sort
theorem Al.dats {K:Fg}{H:Hp}:∀{l m},Al K H l m->a6 K H (l.map Prod.snd) (m.map Prod.snd)
 | _,_,.nil=>a6.nil
 | _,_,.cons h r=>a6.cons h r.dats
theorem pD {K:Fg}{H:Hp}:∀{ns:List Int} {ds:List My} {xs:List V},a6 K H ds xs->Al K H (ns.zip ds) (ns.zip xs)
 | [],_,_,_=>.nil
 | n::ns,[],xs,h=>by
  have e:xs=[]:=KS.1 (by rw[h.length];rfl);subst e;exact .nil
 | n::ns,d::ds,xs,h=>by
  cases xs with
  | nil=>have:=h.length;simp at this
  | cons x xs =>
   simp only[a6]at h;obtain⟨y,ys,e,h1,h2⟩:=h;cases e;exact .cons h1 (pD h2)
section
variable [Feeds]{K:Fg}{X:Cx}
structure LamB (K:Fg) (mg:Str->Option NO) (base:NY) (x:Str) (fd:NV) (c P:NP):Prop where
 mem:(x,c,P)∈tabsK Feeds.lam K
 code:fd.code = .ref c
 hd:PySem.W.CodeHd base c P
 bm:BMd base mg
 nd:(tabP K).Nodup
def gb (me:DE->M My)(E0:DE):List My->M (List My)
 | []=>λF=>some ([],F)
 | d::r=>λF=>(me (some (.dat d)::E0) F).bind λp=>(gb me E0 r p.2).bind λq=>some (p.1::q.1,q.2)
def sSK (ma:DE->M (List My))(cap:List Nat)(me:DE->M My):DE->M My:=λE F=>(ma E F).bind λp=>match p.1 with
 | [.list ds]=>if ds.length<64 then(gb me (cap.map λj=>(E[j]?).join) ds p.2).bind λq=>(fR q.1).bind λns=>some (.list ((x8 (ns.zip ds)).map Prod.snd),q.2) else none
 | _=>none
theorem fb {me:DE->M My}{E0:DE}:∀{ds:List My} {F:FS} {ks:List My} {F':FS},gb me E0 ds F=some (ks,F')->ks.length=ds.length
 | [],F,ks,F',h=>by cases h;rfl
 | d::r,F,ks,F',h=>by
  obtain⟨p,_,h⟩:=bS9 h;obtain⟨q,e,h⟩:=bS9 h;cases h;simp[fb (F:=p.2) (ks:=q.1) (F':=q.2) e]
theorem bU {α β:Type}{f:α->β}:∀{l:List α},(l.map f).Nodup->∀{a b},a∈l->b∈l->f a=f b->a=b
 | [],_,_,_,h,_,_=>by simp at h
 | x::l,h,a,b,ha,hb,e=>by
  rw[Jy,Kt]at h;rcases Jl.1 ha with e1 | ha1
  .rcases Jl.1 hb with e2 | hb1
   .rw[e1,e2]
   .exact absurd (by rw[<-e1,e];exact KZ hb1) h.1
  .rcases Jl.1 hb with e2 | hb1
   .exact absurd (by rw[<-e2,<-e];exact KZ ha1) h.1
   .exact bU h.2 ha1 hb1 e
def zf {G:GF}{H H2:Hp}{F:FS}{x:Str}{c P:NP}(hm:(x,c,P)∈tabsK Feeds.lam K)(nd:(tabP K).Nodup)(f:FAt K G H F)(g:CI P (lS x) H H2)(hT:jy H2 P (lS x)):Kp (n6 K G) H H2/\FAt K G H2 F:=by
 rcases g with rfl | ⟨ps,more,c',hP,hc',hcP,rfl⟩
 .exact⟨Kp.refl,f⟩
 .have hPf:P∈tabP K:=KZ (f:=λt:Str×NP×NP=>t.2.2) hm;have stay:∀b o,H b=some o->b≠P->upd (upd H P (.tbl (ps++more))) c' (cdO c' (lS x)) b=some o:=λb o e hb=>by
   rw[a8 (e8 e hc'),a8 hb];exact e
  have ne:∀{b o},H b=some o->NoT o->b≠P:=λ{b o} e h z=>by
   rw[z,hP]at e;exact h.1 _ (Jt e).symm
  refine⟨λb o e hb=>stay b o e λz=>hb (z▸lr hPf),?_,λt ht=>?_⟩
  .cases G with
   | none=>trivial
   | some p =>
    obtain⟨d,c0⟩:=p
    obtain⟨o1,a1,b1⟩:=Feeds.some1 f.1
    obtain⟨o2,a2,b2⟩:=Feeds.some2 f.1
    exact Feeds.congr f.1 (by rw[a1];exact stay _ _ a1 (ne a1 b1)) (by rw[a2];exact stay _ _ a2 (ne a2 b2))
  .by_cases htP:t.2.2=P
   .have e:t=(x,c,P):=bU (f:=λt:Str×NP×NP=>t.2.2) nd ht hm htP;rw[e];exact hT
   .obtain⟨qs,h1,h2,h3⟩:=f.2 t ht;refine⟨qs,stay _ _ h1 htP,h2,λpos cv q=>?_⟩;obtain⟨c2,r1,r2⟩:=h3 pos cv q;exact⟨c2,r1,stay _ _ r2 λz=>by rw[z,hP]at r2;cases r2⟩
def xh {G:GF}{H:Hp}{F:FS}{c:NP}{q:Str}(f:FAt K G H F)(h:H c=some (cdO c q)):c ∉ n6 K G:=λz=>by
 have tb:c∈tabP K->False:=λz=>by
  obtain⟨t,ht,e⟩:=JS.1 z;obtain⟨ps,h1,_⟩:=f.2 t ht;rw[e,h]at h1;cases h1
 cases G with
 | none=>exact tb z
 | some p =>
  obtain⟨d,c0⟩:=p;simp only[n6,Jl]at z;rcases z with rfl | rfl | z
  .obtain⟨o,e,hn⟩:=Feeds.some1 f.1;rw[h]at e;exact hn.2 _ (Jt e).symm
  .obtain⟨o,e,hn⟩:=Feeds.some2 f.1;rw[h]at e;exact hn.2 _ (Jt e).symm
  .exact tb z
def SitE.lamS {G:GF}{B:List NP}{E:DE}{F F':FS}{σ:St}{H H':Hp}{d:My}{v:V}(I:SitE K G B E F σ H)(k:Kp (n6 K G) H H')(f:FAt K G H' F')(h:a7 K (hid H' B) d v)(cap:List Nat) :
  SitE K G B (some (.dat d)::cap.map λj=>(E[j]?).join) F' (cL v cap σ) H':=by
 have J:=(I.step k f).cap 0 cap;refine⟨f,I.fB,J.bk,by simp[cL],λi x e=>?_⟩;cases i with
 | zero =>
  have e:some (some (DV.dat d))=some (some x):=e;cases e;exact⟨v,rfl,h⟩
 | succ i=>exact J.loc i x e
def vC {e:NX}{params:Arguments}{body:NX}{scope osc:NU}{p pos lpos kp:Pos}{c P:NP}{x y:Str}{N:List Str}{cap:List Nat}{ta:TA}{ma:DE->M (List My)}{te:TE}{me:DE->M My}{k:Nat}{fd:NV}
  (LB:LamB K X.mg X.base x fd c P) (hK:X.K=K) (hm:X.mg "sorted" = none) (hr:Room k X.A) (hc:X.calm=true) (ha:Ea K X [e] ta ma) (hosc:X.env.scope=osc) (L:LamOk X.N osc y N cap scope)
  (hcode:X.env.code = .ref c) (hq:X.env.qual ++ "<lambda>" = lS x)
  (hE:∀cl f c' Y s H,Ev K (cxL X N (lS x) scope cl f c' Y s H) body te me)
  (hdef:defaultsOf params X.env=([],[]):=by rfl)
  (hbind:∀(cl:List (Str×NP)) (pm:NO) (c':NP) (ctv u:NO),bindArgs (PySem.W.kla_fn "<lambda>" (lS x) params body scope cl pm (.ref c') ctv) ⟨[u],[]⟩=pure [(y,u)]:=by intros;rfl)
  (hg:Gl X "sorted":=by rfl) (hs:Oa [e] X.env=[(false,eval e X.env)]:=by rfl) :
  Ev K X (.Call (.Name "sorted" p) [e] [⟨some "key",.Lambda params body scope lpos,kp⟩] pos) (tSK K P (lS x) cap ta te) (sSK ma cap me):=by
 subst hK;refine⟨Ee hg hm hr hc ha.pa hdef hosc L hcode LB.hd LB.bm hq hbind (λcl f c' Y s H=>(hE cl f c' Y s H).pe) hs,λG B E F σ H Q d F' I e q=>?_⟩;obtain⟨⟨as,F1⟩,e1,e⟩:=bS9 e;refine ha.ok G B E F σ H _ as F1 I e1 λvs H1 k1 f1 h1=>?_
 dsimp only at e;split at e;case h_2=>cases e
 rename_i ds;split at e;case isFalse=>cases e
 rename_i h64;obtain⟨⟨kds,F2⟩,e2,e⟩:=bS9 e;obtain⟨ns,e3,e⟩:=bS9 e;cases e;obtain⟨hko,hnum,hv⟩:=xC e3;obtain⟨l,xs,rfl,hl,hd⟩:∃l xs,vs=[.ref l]/\hid H1 B l=some (.lst xs)/\a6 X.K (hid H1 B) ds xs:=by
  simp only[a6]at h1;obtain⟨v,r,rfl,h2,rfl⟩:=h1;simp only[a7]at h2;obtain⟨l,xs,rfl,h3,h4⟩:=h2;exact⟨l,xs,rfl,h3,h4⟩
 have xl:=hd.length;refine⟨l,xs,rfl,SqL.of (d6 _ _ hl),by omega,f1.2 _ LB.mem,λH2 gr hT2 c' hc'=>?_⟩;obtain⟨k2,f2⟩:=zf LB.mem LB.nd f1 gr hT2;have hlB:l ∉ n6 X.K G:=λz=>by
  rw[z9 (I.fB l z)]at hl;cases hl
 refine⟨λi H'=>∃Fi rest,Kp (n6 X.K G) H2 H'/\FAt X.K G H' Fi/\gb me (cap.map λj=>(E[j]?).join) (ds.drop i) Fi=some (rest,F2)/\kds.drop i=rest,kds.map vOf,by rw[Jf,fb e2,xl],hko,
  SqL.of (k2 l _ (d6 _ _ hl) hlB),⟨F1,kds,Kp.refl,f2,e2,rfl⟩,λi H' ⟨Fi,rest,a1,a2,_⟩=>a1 _ _ hc' (xh f2 hc'),λi v H' hx ⟨Fi,rest,a1,a2,a3,a4⟩=>?_,λa H' ys ⟨Fi,rest,a1,a2,a3,a4⟩ Ha o=>?_⟩
 .have hd':=hd.same ((k2.trans a1).hid I.fB);obtain⟨dd,hdd,hdv⟩:=hd'.get hx;have edr:ds.drop i=dd::ds.drop (i+1):=by
   have hi:=(Jm.1 hdd);obtain⟨hi,e⟩:=hi;rw[Ln hi,e]
  rw[edr]at a3;obtain⟨⟨kk,Fk⟩,g1,g⟩:=bS9 a3;obtain⟨⟨kr,Fr'⟩,g2,g⟩:=bS9 g;cases g;have hki:kds[i]? = some kk:=by
   have:=Kk (λl=>l[0]?) a4;simpa using this
  refine(hE [] 0 0 X.A X.s₀ H').ok G B _ Fi _ H' _ kk Fk (I.lamS ((k1.trans k2).trans a1) a2 hdv cap) g1 λw H3 k3 f3 h3=>?_
  refine⟨?_,Fk,kr,a1.trans k3,f3,g2,?_⟩
  .rw[Js,hki,hv kk (JW hki) _ _ _ h3];rfl
  .have:=Kk List.tail a4;simpa using this
 .have hend:gb me (cap.map λj=>(E[j]?).join) (ds.drop xs.length) Fi=some ([],Fi):=by rw[xl,Mh];rfl
  rw[hend]at a3;cases a3;have ey:=lY o (by rw[Jf,fb e2,xl]);rw[hnum]at ey;subst ey;have bk':=A3 I.bk ((k1.trans k2).trans a1) a2;have hdz:=(pD (ns:=ns) (hd.same ((k2.trans a1).hid I.fB))).sort.dats;exact q _ _ (((k1.trans k2).trans a1).trans (Kp.upd Ha)) (a2.same (d8.upd Ha)) (O2 bk' Ha hdz)
end
end
section
def kC (p:Int):List Int->List Int
 | []=>[p]
 | q::r=>if p<=q then p::q::r else q::kC p r
def jQ:List Int->List Int
 | []=>[]
 | p::r=>kC p (jQ r)
theorem eu (p:Int):∀l:List Int,(kC p l).Perm (p::l)
 | []=>.refl _
 | q::r=>by
  rw[kC];split
  .exact .refl _
  .exact((eu p r).cons q).trans (.swap p q r)
theorem cx:∀l:List Int,(jQ l).Perm l
 | []=>.refl _
 | p::r=>(eu p _).trans ((cx r).cons p)
theorem sd {p:Int}:∀{l:List Int},l.Pairwise (· <= ·)->(kC p l).Pairwise (· <= ·)
 | [],_=>by simp[kC]
 | q::r,h=>by
  rw[JO]at h;rw[kC];split
  .rename_i hle;refine JO.2 ⟨λz hz=>?_,JO.2 h⟩;rcases Jl.1 hz with rfl | hz
   .exact hle
   .have:=h.1 z hz;omega
  .rename_i hgt;refine JO.2 ⟨λz hz=>?_,sd h.2⟩;rcases Jl.1 ((eu p r).mem_iff.mp hz) with rfl | hz
   .omega
   .exact h.1 z hz
theorem gT:∀l:List Int,(jQ l).Pairwise (· <= ·)
 | []=>.nil
 | p::r=>sd (gT r)
theorem eR:∀{l₁ l₂:List Int},l₁.Perm l₂->l₁.Pairwise (· <= ·)->l₂.Pairwise (· <= ·)->l₁=l₂
 | [],l₂,p,_,_=>p.nil_eq
 | a::r,[],p,_,_=>by have:=p.length_eq;simp at this
 | a::r,b::t,p,h1,h2=>by
  rw[JO]at h1 h2;have ab:a=b:=by
   rcases Jl.1 (p.mem_iff.1 (Jv (a:=a) (l:=r))) with e | e
   .exact e
   .rcases Jl.1 (p.mem_iff.2 (Jv (a:=b) (l:=t))) with e2 | e2
    .exact e2.symm
    .have q1:=h2.1 a e;have q2:=h1.1 b e2;omega
  subst ab;rw[eR (p.cons_inv) h1.2 h2.2]
def lh:My->Option Int
 | .tuple (.int n::_)=>some n
 | _=>none
def ax:List My->Option My
 | [.list ds]=>match Q4 ds with
  | some ns=>if ns.length<64 then some (.list ((jQ ns).map .int)) else none
  | none=>(ds.mapM lh).bind λns=>if ns.Nodup/\ns.length<64 then some (.list ((x8 (ns.zip ds)).map Prod.snd)) else none
 | _=>none
theorem rz {K:Fg}{H H':Hp}(s:d8 H H'):∀{ds:List My} {ns:List Int} {zs:List V},ds.mapM lh=some ns->a6 K H ds zs->mG K H' ns zs
 | [],ns,zs,e,h=>by
  simp at e;subst e;exact KS.1 (by rw[h.length];rfl)
 | d::ds,ns,zs,e,h=>by
  rw[Ll]at e;obtain⟨n,e1,e⟩:=bS9 e;obtain⟨ns',e2,e⟩:=bS9 e;cases e;simp only[a6]at h;obtain⟨z,zs',rfl,h1,h2⟩:=h;unfold lh at e1;split at e1
  .cases e1;obtain⟨t,xs,rfl,hq,hd⟩:=h1.ofTup;simp only[a6]at hd;obtain⟨v,r,rfl,hv,_⟩:=hd;simp only[a7]at hv;subst hv;exact⟨t,r,zs',rfl,hq.same s,rz s e2 h2⟩
  .cases e1
theorem mD {α β:Type}{f:α->Option β}:∀{l:List α} {m:List β},l.mapM f=some m->m.length=l.length
 | [],m,e=>by simp at e;subst e;rfl
 | a::l,m,e=>by
  rw[Ll]at e;obtain⟨b,_,e⟩:=bS9 e;obtain⟨m',e2,e⟩:=bS9 e;cases e;simp[mD e2]
theorem jV {K:Fg}{H:Hp}:∀ns:List Int,a6 K H (ns.map .int) (ns.map V.int)
 | []=>a6.nil
 | n::ns=>a6.cons a7.int (jV ns)
section
variable [Feeds]{K:Fg}{X:Cx}
def fC (hK:X.K=K):D1 X (.builtin "sorted") (rDN K ax):=by
 intro pins s σ H xs us Q I r h;obtain⟨fp,B,ds,z,bk,h1,hf,q⟩:=h;unfold ax at hf;split at hf <;> try cases hf
 split at hf
 .rename_i ns e;split at hf;case isFalse=>cases hf
  rename_i h64;cases hf;cases S9 e;obtain⟨v,rfl,a,xs,rfl,ha,hd⟩:=eU h1 rfl;cases iK hd;refine oC hK pins s σ H _ us Q I r ⟨a,ns,rfl,SqL.of (d6 _ _ ha),h64,λp ns' hp pm pw=>?_⟩;cases eR (pm.trans (cx ns).symm) pw (gT ns);exact q _ _ (d8.upd hp) (O2 bk hp (jV _))
 .obtain⟨ns,e,hf⟩:=bS9 hf;split at hf;case isFalse=>cases hf
  rename_i hc;cases hf;obtain⟨v,rfl,a,xs,rfl,ha,hd⟩:=eU h1 rfl;refine pJ hK pins s σ H _ us Q I r ⟨a,xs,ns,rfl,SqL.of (d6 _ _ ha),rz d6 e hd,hc.1,hc.2,λp ys hp o=>?_⟩;have ey:=lY o (by rw[Jf,mD e,hd.length]);rw[JF,show(jr ∘ V.int)=id from rfl,List.map_id]at ey;subst ey;exact q _ _ (d8.upd hp) (O2 bk hp (pD (ns:=ns) hd).sort.dats)
end
end
end L3
namespace L2
open PySem PySem.Spec PyProof.Rows
section
variable {P:NR}{w:NS}{K:Fg}{mg:Str->Option NO}{base:NY}
def Fun.okC {x qual:Str}{st:NW}{f:NP}{fd:NV}{N ps:List Str}{k:Nat}{sp:Sp}(F:Fun K x qual st f fd)(S:FnScope N ps (defScope st))(len:∀vs H Q E,sp vs H Q E->vs.length=ps.length)
  (hbody:∀(cdv:NO) (A:NT) (outer:List Oc) (s:NQ) (H:Hp) (vs:List V) (Q:VK) (E:XK),fd.code=cdv->Room k (A.deeper (envOfC qual (defScope st) s.heap.objs.size f cdv))->sp vs H Q E ->
   ∃t,PSs (O6 CX0 P w K mg base N qual (defScope st) f cdv A outer s H E).nox (defBody st) t/\t { nx:=λ_ H'=>Q .non H',rt:=Q } (E8 N vs) H):FnOk P w K mg base CX0 (k+1) f fd ps sp:=by
 obtain⟨oc,od,kV,doc,pm,an,cdv,ct,osl,rfl,lk,hcd⟩:=F.ex;refine Ar lk hcd S len λA outer s H vs Q E hr hsp=>?_
 obtain⟨t,h,q⟩:=hbody cdv A outer s H vs Q E rfl hr hsp;exact⟨t,h.nox,q⟩
end
end L2
namespace L3
open PySem PySem.Spec PyProof.Rows L2
section
section
variable [Feeds]{P:NR}{w:NS}{K:Fg}{mg:Str->Option NO}{base:NY}
def rZ {x qual:Str}{st:NW}{f:NP}{fd:NV}{N ps:List Str}{k:Nat}{m:DE->M Out}(Fn:Fun K x qual st f fd)(S:FnScope N ps (defScope st))
  (hbody:∀(cdv:NO) (A:NT) (outer:List Oc) (s:NQ) (H:Hp) (E:XK),fd.code=cdv->Room k (A.deeper (envOfC qual (defScope st) s.heap.objs.size f cdv)) ->
   ∃ts,Sss K (O6 CX0 P w K mg base N qual (defScope st) f cdv A outer s H E).nox (defBody st) ts m):FnOk P w K mg base CX0 (k+1) f fd ps (spD K ps.length (Z1 N m)):=by
 refine Fn.okC S (λvs H Q E h=>?_) (λcdv A outer s H vs Q E hcd hr h=>?_)
 .obtain⟨G,B,F,args,d,F',hl,_⟩:=h;exact hl
 .obtain⟨G,B,F,args,d,F',hl,fB,bk,fa,ha,hm,q⟩:=h;obtain⟨ts,hts⟩:=hbody cdv A outer s H E hcd hr;refine⟨ts,hts.ps,?_⟩;obtain⟨⟨o,F1⟩,e1,e⟩:=bS9 hm;refine hts.ok G B H (x4 N args) F (L2.E8 N vs) H _ o F1 (jB fB bk fa ha) e1 ?_;cases o with
  | rt d'=>cases e;exact λv H' k1 f1 h1=>q v H' k1 f1 h1
  | nx E'=>cases e;exact λσ' H' S'=>q _ H' S'.kp (by obtain⟨B,_,_,I⟩:=S'.ex;exact I.fd) a7.non
  | bk E'=>cases e
  | ct E'=>cases e
end
end
section
abbrev Dp:=List (Str×NP×NP)
def Be (ts:Dp)(h:NY):Prop:=∀t∈ts,PySem.W.CodeHd h t.2.1 t.2.2/\h.get? t.2.2=some (PySem.W.tabObj #[])
def uz {P:NR}{w:NS}{K:Fg}{mg mb:Str->Option NO}{CX:CXT}{k:Nat}{fa a:NP}{fd:NV}{x:Str}{sp:Sp}{s₁:NQ}{vs:List NO}{ns:List Int}{ts:Dp}
  (KX:K.In s₁.heap) (hns:s₁.heap.Ns Og mg) (hb:s₁.heap.Ns builtinsNs mb) (hbb:∀x:Str,x ≠ "__name__"->mb x=Oj x) (hlim:s₁.heap.NoLimit) (hg:s₁.gens = #[])
  (ha:s₁.heap.get? a=some { cls:=.type "list",data:=.seq vs.toArray }) (hi:IntsAre vs ns) (hl:ns.length<=NZ) (hr:Room k callerA)
  (hT:Be ts s₁.heap) (hnt:PySem.W.noTabs K=true) (BM:BMd s₁.heap mg)
  (F:∀base:NY,K.In base->base.Ns Og mg->BMd base mg->(∀t∈ts,PySem.W.CodeHd base t.2.1 t.2.2)->FnOk P w K mg base CX k fa fd [x] sp) (hbind:∀(s:NQ) (u:NO),BindsTo s fd ⟨[u],[]⟩ [(x,u)])
  (hsp:∀H:Hp,SqL K H a (ns.map V.int)->D3 ts H->sp [.ref a] H (λv _=>v = .bl true) λ_ _ _=>False)
  (hCX:∀H e s',CX [] H s₁ (λ_ _ _=>False) e s'->False) :
  codeAny (model P w) callerA (.call (.ref fa) ⟨[.ref a],[]⟩) (λr s'=>r = .ok (.ret (.bool true))/\OldK s₁.heap s'.heap/\s'.os=s₁.os/\AllBare s'.gens) s₁:=by
 have rv:=fE hi;have lenV:=hi.length;have aP:∀t∈ts,t.2.2≠a:=λt ht e=>by
  have:=(hT t ht).2;rw[e,ha]at this;cases this
 have core:∀H:Hp,(∀b,H b=none\/(b=a/\H b=some (.frz { cls:=.type "list",data:=.seq vs.toArray } (.lst (ns.map V.int))))\/(b∈ts.map (·.2.2)/\H b=some (.tbl #[])))->(∀t∈ts,H t.2.2=some (.tbl #[]))->SqL K H a (ns.map V.int)->(H a≠none->K.lookup a=none) ->
   codeAny (model P w) callerA (.call (.ref fa) ⟨[.ref a],[]⟩) (λr s'=>r = .ok (.ret (.bool true))/\OldK s₁.heap s'.heap/\s'.os=s₁.os/\AllBare s'.gens) s₁:=by
  intro H hO hTH hS hK;have tabO:∀{b:NP},b∈ts.map (·.2.2)->s₁.heap.get? b=some (PySem.W.tabObj #[]):=λ{b} hb=>by
   obtain⟨t,ht,rfl⟩:=JS.1 hb;exact(hT t ht).2
  have hok:HOk P w H s₁.heap:=λb u e=>by
   rcases hO b with z | ⟨rfl,z⟩ | ⟨hb,z⟩
   .rw[z]at e;cases e
   .rw[z]at e;cases e;exact⟨ha,by rw[Jf];exact hl,vs,_,rv,ha⟩
   .rw[z]at e;cases e;exact tabO hb
  have base_of:∀{b:NP} {o:Ob},s₁.heap.get? b=some o->H b=none->(jb s₁.heap H).get? b=some o:=λe n=>wa e n
  have other:∀{b:NP} {o:Ob},s₁.heap.get? b=some o->o≠{ cls:=.type "list",data:=.seq vs.toArray }->o≠PySem.W.tabObj #[]->H b=none:=λ{b o} e h1 h2=>by
   rcases hO b with z | ⟨rfl,z⟩ | ⟨hb,z⟩
   .exact z
   .rw[ha]at e;exact absurd (Jt e).symm h1
   .rw[tabO hb]at e;exact absurd (Jt e).symm h2
  have nsK:∀{b:NP} {m:Str->Option NO},s₁.heap.Ns b m->(jb s₁.heap H).Ns b m:=λ{b m} ⟨o,es,ep,e,d,r⟩=>⟨o,es,ep,base_of e (other e (λz=>by rw[z]at d;cases d) λz=>by rw[z]at d;cases d),d,r⟩
  have hKb:K.In (jb s₁.heap H):=λb o e=>base_of (KX b o e) (by
   rcases hO b with z | ⟨rfl,z⟩ | ⟨hb,z⟩
   .exact z
   .rw[hK (by rw[z];simp)]at e;cases e
   .have e2:=KX b o e;rw[tabO hb]at e2;cases e2;have h2:=MW.1 hnt _ (PySem.W.mem_of_lookupK e);exact absurd (show false=true from h2) JI)
  have hM:Mod K mg (jb s₁.heap H):=⟨hKb,nsK hns,⟨mb,nsK hb,hbb⟩,let ⟨mc,h1,h2⟩:=hlim;⟨mc,nsK h1,h2⟩⟩;have hBM:BMd (jb s₁.heap H) mg:=by
   obtain⟨bm,ob,b1,b2,b3,b4,b5,b6⟩:=BM;exact⟨bm,ob,b1,b2,base_of b3 (other b3 (λz=>by rw[z]at b4;have b4:NO.type "list" = NO.type "module":=b4;exact absurd b4 (by decide)) λz=>by rw[z]at b4;have b4:NO.none=NO.type "module":=b4;exact absurd b4 (by decide)),b4,b5,b6⟩
  have hCd:∀t∈ts,PySem.W.CodeHd (jb s₁.heap H) t.2.1 t.2.2:=λt ht=>by
   obtain⟨o,vs',file,tf,flags,tg,inF,text,tt,e1,r1,r2⟩:=(hT t ht).1;exact⟨o,vs',file,tf,flags,tg,inF,text,tt,base_of e1 (other e1 (λz=>by rw[z]at r1;have r1:NO.type "list" = NO.type "code":=r1;exact absurd r1 (by decide)) λz=>by rw[z]at r1;have r1:NO.none=NO.type "code":=r1;exact absurd r1 (by decide)),r1,r2⟩
  have e0:Env0 P w K mg (jb s₁.heap H) callerA [] s₁ H:=⟨rfl,hM,λb o e=>zo e,Nat.le_of_eq (uk _ _),trivial,λb hb=>absurd (show b∈([]:List NP) from hb) (by simp),hok,.of_eq hg⟩;have hTO:D3 ts H:=λt ht=>⟨#[],hTH t ht,trivial,λpos cv e=>by cases e⟩
  refine codeAny_mono ((F _ hKb (nsK hns) hBM hCd).run callerA [] s₁ H ⟨[.ref a],[]⟩ [.ref a] [.ref a] _ _ hr e0 (hbind s₁ (.ref a)) (.cons rfl .nil) (hsp H hS hTO)) λr s' h=>?_
  cases r with
  | error e=>exact(hCX H e s' h).elim
  | ok fl =>
   cases fl with
   | next=>exact False.elim h
   | brk=>exact False.elim h
   | cont=>exact False.elim h
   | ret u =>
    obtain⟨v,H',os,bare,un,hok',r',q⟩:=h;have q':v = .bl true:=q;subst q';obtain rfl:u=NO.bool true:=r';have kept:∀b o,s₁.heap.get? b=some o->H b=none->s'.heap.get? b=some o:=λb o e q=>un.keep b o e q (by intro z;exact absurd (show b∈([]:List NP) from z) (by simp)) (by simp)
    have scr:∀b o,s₁.heap.get? b=some o->b=a->H b=some (.frz { cls:=.type "list",data:=.seq vs.toArray } (.lst (ns.map V.int)))->s'.heap.get? b=some o:=λb o e hb z=>by
     have z2:=un.frzs b _ _ z;obtain⟨e1,_⟩:=hok b _ z;obtain⟨e2,_⟩:=hok' b _ z2;rw[e]at e1;cases e1;exact e2
    have tab:∀b,H b=some (.tbl #[])->∃more,s'.heap.get? b=some (PySem.W.tabObj more):=λb z=>by
     obtain⟨more,z2⟩:=un.tbls b _ z;exact⟨_,hok' b _ z2⟩
    refine⟨rfl,⟨λb o e=>?_,λb o e=>?_⟩,os,bare⟩
    .rcases hO b with z | ⟨hb,z⟩ | ⟨hb,z⟩
     .exact .inl (kept b o e z)
     .exact .inl (scr b o e hb z)
     .obtain⟨more,e2⟩:=tab b z;have e3:=tabO hb;rw[e]at e3;cases e3;obtain⟨t,ht,rfl⟩:=JS.1 hb;refine .inr (.inl ⟨((hT t ht).1.tab (hT t ht).2).isCodeTable,rfl,#[],more,rfl,by rw[Array.empty_append];exact e2⟩)
    .rcases hO b with z | ⟨hb,z⟩ | ⟨hb,z⟩
     .exact⟨o,kept b o e z⟩
     .exact⟨o,scr b o e hb z⟩
     .obtain⟨more,e2⟩:=tab b z;exact⟨_,e2⟩
 cases hk:K.lookup a with
 | some o =>
  have e:=KX a o hk;rw[ha]at e;cases e;have haT:a ∉ ts.map (·.2.2):=λz=>by
   obtain⟨t,ht,e⟩:=JS.1 z;exact aP t ht e
  refine core (λb=>if b∈ts.map (·.2.2) then some (.tbl #[]) else none) (λb=>?_) (λt ht=>Jk (KZ ht)) (.inr ⟨_,vs.toArray,_,hk,rfl,rfl,rfl,by rw[Jw,lenV];exact hl,by simpa using rv⟩) λz=>absurd (Jo haT) z
  by_cases hb:b∈ts.map (·.2.2)
  .exact .inr (.inr ⟨hb,Jk hb⟩)
  .exact .inl (Jo hb)
 | none =>
  refine core (λb=>if b=a then some (.frz { cls:=.type "list",data:=.seq vs.toArray } (.lst (ns.map V.int))) else if b∈ts.map (·.2.2) then some (.tbl #[]) else none) (λb=>?_) (λt ht=>?_) (.inl (.inr ⟨{ cls:=.type "list",data:=.seq vs.toArray },Jk rfl⟩)) λ_=>hk
  .by_cases hb:b=a
   .exact .inr (.inl ⟨hb,Jk hb⟩)
   .by_cases hb2:b∈ts.map (·.2.2)
    .exact .inr (.inr ⟨hb2,by rw[Jo hb,Jk hb2]⟩)
    .exact .inl (by rw[Jo hb,Jo hb2])
  .rw[Jo (aP t ht)];exact Jk (KZ (f:=λt:Str×NP×NP=>t.2.2) ht)
def walk_ofT {l:PySem.W.OpenLaw}{n k:Nat}{q:NR}{loose:List Str}{XP:(Str->Option NO)->NY->Prop}{YP:NS->NY->Prop}{d:DefRec}{K:Params->Fg}{CX:NS->CXT}{sp:NS->Sp}{x:Str}(lam:List Str)
  (hn:l.most=some n) (hn2:n<=NZ) (hdf:d.params.defaults=[]) (hr:Room k callerA)
  (hrec:(lam.all λx=>((recsOf q).find? λe=>e.name == x).isSome)=true) (hnt:∀w:NS,PySem.W.noTabs (K w.params)=true)
  (hY:∀(w:NS) (h:NY),YP w h->(K w.params).In h)
  (F:∀(w:NS) (mg:Str->Option NO) (fa:NP) (h:NY),(K w.params).In h->h.Ns Og mg->mg d.name=some (.ref fa) ->
   ∃fd:NV,(∀(s:NQ) (u:NO),BindsTo s fd ⟨[u],[]⟩ [(x,u)]) /\
    ∀base:NY,(K w.params).In base->base.Ns Og mg->BMd base mg->(∀t∈tabsK lam (K w.params),PySem.W.CodeHd base t.2.1 t.2.2)->FnOk l.prog w (K w.params) mg base (CX w) k fa fd [x] (sp w))
  (hsp:∀(w:NS) (H:Hp) (a:NP) (ns:List Int),ns.length<=n->SqL (K w.params) H a (ns.map V.int)->D3 (tabsK lam (K w.params)) H->sp w [.ref a] H (λv _=>v = .bl true) λ_ _ _=>False)
  (hCX:∀(w:NS) (H:Hp) (s:NQ) (e:NO) (s':NQ),CX w [] H s (λ_ _ _=>False) e s'->False) :
  PySem.W.WalkO q loose XP YP l.row.toRowW d [] (λf vs=>PySem.call f vs):=by
 refine Att.attach_call hn hdf λw s₀ s₁ mg mb fa o pm cd doc a vs ns G Y ho hd hcd hmg hobj hints hlen hg=>?_
 have KX:=hY w _ Y;obtain⟨fd,hb,hF⟩:=F w mg fa _ KX G.T.g hmg;refine uz (ts:=tabsK lam (K w.params)) KX G.T.g G.T.b G.T.builtins G.T.nolimit hg hobj hints (JM hlen hn2) hr (λt ht=>?_) (hnt w) G.T.bmain hF hb (λH hS hT=>hsp w H a ns hlen hS hT) λH e s'=>hCX w H s₁ e s'
 obtain⟨x,hx,e⟩:=Mq.1 ht;obtain⟨⟨c,P⟩,e1,e2⟩:=JJ.1 e;cases e2;obtain⟨dr,hdr⟩:=Mr.1 (MW.1 hrec x hx);exact PySem.W.tab_of G.T KX hdr e1
def lamB_mk [Feeds]{K:Fg}{mg:Str->Option NO}{base:NY}{x:Str}{f:NP}{oc:NO}{od:Option NP}{fd:NV}{osl:Array (Option NO)}(ga:PySem.W.nsIn K Og x=some (some (.ref f)))(gl:K.lookup f=some ⟨oc,od,.func fd,osl⟩)
  (hx:x∈(Feeds.lam:List Str)) (hs:(PySem.W.tabIn K x).isSome=true) (nd:(tabP K).Nodup) (BM:BMd base mg) (hC:∀t∈tabsK Feeds.lam K,PySem.W.CodeHd base t.2.1 t.2.2):∃c P,LamB K mg base x fd c P:=by
 obtain⟨⟨c,P⟩,e⟩:=Mr.1 hs;have hm:(x,c,P)∈tabsK Feeds.lam K:=Mq.2 ⟨x,hx,by rw[e];rfl⟩;refine⟨c,P,hm,?_,hC _ hm,BM,nd⟩;unfold PySem.W.tabIn at e;rw[ga]at e;simp only[gl]at e;split at e
 .rename_i c2 hc;split at e
  .split at e
   .cases e;exact hc
   .cases e
  .cases e
 .cases e
end
section
section
variable [Feeds]{K:Fg}{X:Cx}{e a b c:NX}{te:TE}{pos:Pos}
def zB (K:Fg)(B:List NP)(H H':Hp):DV->V->Prop
 | .dat d,v=>a7 K (hid H' B) d v
 | .own ds,v=>∃a vs,v = .ref a/\H a=none/\H' a=some (.lst vs)/\a6 K (hid H' (a::B)) ds vs
 | .feed,_=>False
 | .fn _,_=>False
 | .adr _,_=>False
def jg (B:List NP):DV->V->List NP
 | .own _,.ref a=>a::B
 | _,_=>B
def TCd (K:Fg)(te:TE)(mc:DE->M DV):Prop:=∀(G:GF) (B:List NP) (E:DE) (F:FS) (σ:St) (H:Hp) (Q:VK) (dv:DV) (F':FS),SitE K G B E F σ H->mc E F=some (dv,F') ->
 (∀v H',Kp (n6 K G) H H'->FAt K G H' F'->zB K B H H' dv v->Q v H')->te σ H Q
structure Ec (K:Fg) (X:Cx) (e:NX) (te:TE) (m:DE->M DV):Prop where
 pe:PE X e te
 ok:TCd K te m
def cD (m:DE->M My):DE->M DV:=λE F=>(m E F).bind λp=>some (.dat p.1,p.2)
def cO (m:DE->M (List My)):DE->M DV:=λE F=>(m E F).bind λp=>some (.own p.1,p.2)
def Ca {m:DE->M My}(h:Ev K X e te m):Ec K X e te (cD m):=⟨h.pe,λG B E F σ H Q dv F' I e q=>by
 obtain⟨⟨d,F1⟩,e1,e⟩:=bS9 e;cases e;exact h.ok G B E F σ H _ d F1 I e1 λv H' k f r=>q v H' k f r⟩
def uy {m:DE->M (List My)}(h:Ef K X e te m):Ec K X e te (cO m):=⟨h.pe,λG B E F σ H Q dv F' I e q=>by
 obtain⟨⟨d,F1⟩,e1,e⟩:=bS9 e;cases e;exact h.ok G B E F σ H _ d F1 I e1 λa vs H' h1 h2 k f r=>q _ H' k f ⟨a,vs,rfl,h1,h2,r⟩⟩
section
variable {G:GF}{B B0:List NP}{E:DE}{F F1:FS}{σ:St}{H H1 H0:Hp}{dv:DV}{v:V}{i:Nat}
def AZ (I:SitE K G B E F σ H)(k1:Kp (n6 K G) H H1)(r:zB K B H H1 dv v):d8 (hid H B) (hid H1 (jg B dv v)):=by
 cases dv with
 | dat d=>exact k1.hid I.fB
 | feed=>exact r.elim
 | fn _=>exact r.elim
 | adr _=>exact r.elim
 | own ds =>
  obtain⟨a,vs,rfl,hn,ha,h1⟩:=r;intro b o eb;by_cases hb:b∈B
  .rw[z9 hb]at eb;cases eb
  .rw[e9 hb]at eb;have hne:=e8 eb hn;show hid H1 (a::B) b=some o;rw[e9 (by simp[hne,hb])];exact k1 b o eb λz=>hb (I.fB b z)
def ie:∀b∈B,b∈jg B dv v:=λb hb=>by
 cases dv <;> cases v <;> first | exact hb | exact Jh _ hb
def SitE.moreC (I:SitE K G B E F σ H)(k1:Kp (n6 K G) H H1)(f1:FAt K G H1 F1)(r:zB K B H H1 dv v):SitE K G (jg B dv v) E F1 σ H1:=by
 have sm:=AZ I k1 r;refine⟨f1,λb hb=>ie b (I.fB b hb),λb hb=>?_,I.ln,λj x ej=>?_⟩
 .have old:b∈B->∃o,H1 b=some o:=λhb=>(I.step k1 f1).bk b hb
  cases dv with
  | dat d=>cases v <;> exact old hb
  | feed=>exact r.elim
  | fn _=>exact r.elim
  | adr _=>exact r.elim
  | own ds =>
   obtain⟨a,vs,rfl,hn,ha,h1⟩:=r;rcases Jl.1 hb with rfl | hb
   .exact⟨_,ha⟩
   .exact old hb
 .obtain⟨w,v1,v2⟩:=I.loc j x ej;refine⟨w,v1,?_⟩;cases x with
  | dat d=>exact a7.same (show a7 K (hid H B) d w from v2) sm
  | feed=>exact v2
  | fn _=>exact v2
  | adr _=>exact v2
  | own es =>
   obtain⟨a',xs',rfl,hB',hf',ha',hd'⟩:=v2;exact⟨a',xs',rfl,ie _ hB',hf',k1 _ _ ha' hf',hd'.same sm⟩
def Sit.putC (S:Sit K G B0 H0 E F σ H)(s:∀b∈B0,b∈B)(sn:∀b∈B,b∈B0\/H0 b=none)(I:SitE K G B E F σ H)(k1:Kp (n6 K G) H H1)(f1:FAt K G H1 F1)(r:zB K B H H1 dv v)(hl:i<E.length) :
  Sit K G B0 H0 (E.set i (some dv)) F1 (σ.set i (some v)) H1/\(∀b∈B0,b∈jg B dv v)/\(∀b∈jg B dv v,b∈B0\/H0 b=none)/\SitE K G (jg B dv v) (E.set i (some dv)) F1 (σ.set i (some v)) H1:=by
 have hsl:i < σ.length:=by rw[<-I.ln];exact hl
 have s':∀b∈B0,b∈jg B dv v:=λb hb=>ie b (s b hb)
 have newB:∀ds,dv = .own ds->∃a vs,v = .ref a/\H1 a=some (.lst vs)/\a6 K (hid H1 (a::B)) ds vs/\a ∉ B/\a ∉ n6 K G/\H0 a=none:=λds e=>by
  subst e;obtain⟨a,vs,rfl,hn,ha,h1⟩:=r;have haB:a ∉ B:=I.bk.nin hn;have haf:a ∉ n6 K G:=λz=>haB (I.fB a z)
  exact⟨a,vs,rfl,ha,h1,haB,haf,S.kp.none hn haf⟩
 have sn':∀b∈jg B dv v,b∈B0\/H0 b=none:=λb hb=>by
  cases dv with
  | dat d=>cases v <;> exact sn b hb
  | feed=>exact r.elim
  | fn _=>exact r.elim
  | adr _=>exact r.elim
  | own ds =>
   obtain⟨a,vs,rfl,ha,h1,haB,haf,h0⟩:=newB ds rfl;rcases Jl.1 hb with rfl | hb
   .exact .inr h0
   .exact sn b hb
 have IC:=I.moreC k1 f1 r;have I':SitE K G (jg B dv v) (E.set i (some dv)) F1 (σ.set i (some v)) H1:=by
  refine⟨IC.fd,IC.fB,IC.bk,by rw[Kh,Kh];exact I.ln,λj x ej=>?_⟩;by_cases hj:i=j
  .subst hj;rw[Ju hl]at ej;cases ej;refine⟨v,by rw[Ju hsl],?_⟩;cases dv with
   | dat d=>cases v <;> exact r
   | feed=>exact r.elim
   | fn _=>exact r.elim
   | adr _=>exact r.elim
   | own ds =>
    obtain⟨a,vs,rfl,ha,h1,haB,haf,h0⟩:=newB ds rfl;exact⟨a,vs,rfl,Jv,haf,ha,h1⟩
  .rw[Jp hj]at ej;obtain⟨w,v1,v2⟩:=IC.loc j x ej;exact⟨w,by rw[Jp hj];exact v1,v2⟩
 have other:∀(ds:List My) (j:Nat) (es:List My) (a:NP),dv = .own ds->v = .ref a->E[j]? = some (some (DV.own es))->σ[j]? ≠ some (some (V.ref a)):=λds j es a e ev ej z=>by
  obtain⟨a1,vs,ev1,ha,h1,haB,haf,h0⟩:=newB ds e;rw[ev]at ev1;cases ev1;obtain⟨w,v1,a',xs',rfl,hB',_⟩:=I.loc j _ ej;rw[v1]at z;cases z;exact haB hB'
 refine⟨⟨⟨jg B dv v,s',sn',I'⟩,S.fB,S.kp.trans k1,λj es a' ej sj=>?_,λj k es es' a' ej ek sj sk=>?_⟩,s',sn',I'⟩
 .by_cases hj:i=j
  .subst hj;rw[Ju hl]at ej;rw[Ju hsl]at sj;have e1:dv = .own es:=Jt (Jt ej);have e2:v = .ref a':=Jt (Jt sj);obtain⟨a,vs,ev,ha,h1,haB,haf,h0⟩:=newB es e1;rw[e2]at ev;cases ev;exact⟨h0,λz=>haB (s _ z)⟩
  .rw[Jp hj]at ej sj;exact S.own j es a' ej sj
 .by_cases hj:i=j
  .by_cases hk:i=k
   .rw[<-hj,<-hk]
   .subst hj;rw[Ju hl]at ej;rw[Ju hsl]at sj;rw[Jp hk]at ek sk;have e1:dv = .own es:=Jt (Jt ej);have e2:v = .ref a':=Jt (Jt sj);exact absurd sk (other es k es' a' e1 e2 ek)
  .by_cases hk:i=k
   .subst hk;rw[Ju hl]at ek;rw[Ju hsl]at sk;rw[Jp hj]at ej sj;have e1:dv = .own es':=Jt (Jt ek);have e2:v = .ref a':=Jt (Jt sk);exact absurd sj (other es' j es a' e1 e2 ej)
   .rw[Jp hj]at ej sj;rw[Jp hk]at ek sk;exact S.inj j k es es' a' ej ek sj sk
end
def iP (i j:Nat)(c1 c2:DE->M DV):DE->M Out:=λE F=>(c1 E F).bind λp=>(c2 E p.2).bind λq=>if i<E.length/\j<E.length then some (.nx ((E.set i (some p.1)).set j (some q.1)),q.2) else none
def yx (i j:Nat){x y:Str}{t1 t2:TE}{c1 c2:DE->M DV}{px py pt:Pos}{kt k2 pt2}(hc:X.calm=true)(hN:X.N.Nodup)(h1:Ec K X a t1 c1)(h2:Ec K X b t2 c2)(hi:X.N[i]? = some x:=by rfl)(hj:X.N[j]? = some y:=by rfl)(hij:i≠j:=by decide)
  (hx:X.env.scope.names.lookup x=some .local:=by rfl) (hy:X.env.scope.names.lookup y=some .local:=by rfl)
  (hw:swappedStores [.Tuple [.Name x px,.Name y py] kt pt] (.Tuple [a,b] k2 pt2) X.env=pure (some [x,y]):=by rfl)
  (hs:swapsWithSole [.Tuple [.Name x px,.Name y py] kt pt] (.Tuple [a,b] k2 pt2) pos.line X.env=pure false:=by rfl)
  (hs1:Oa [a,b] X.env=(false,eval a X.env)::Oa [b] X.env:=by rfl) (hs2:Oa [b] X.env=(false,eval b X.env)::Oa [] X.env:=by rfl) :
  Ss K X (.Assign [.Tuple [.Name x px,.Name y py] kt pt] (.Tuple [a,b] k2 pt2) pos) (DG i j (v6 t1 (v6 t2 F0))) (iP i j c1 c2):=⟨Cj hc hN hi hj hij hx hy (i8 h1.pe (i8 h2.pe l6 hs2) hs1) hw hs,λG B0 H0 E F σ H D r F' S e q=>by
 obtain⟨⟨d1,F1⟩,e1,e⟩:=bS9 e;obtain⟨⟨d2,F2⟩,e2,e⟩:=bS9 e;split at e;case isFalse=>cases e
 rename_i hl;cases e;obtain⟨B,s,sn,I⟩:=S.ex;refine h1.ok G B E F σ H _ d1 F1 I e1 λv H1 k1 f1 r1=>?_
 obtain⟨S1,s1,sn1,I1⟩:=S.putC s sn I k1 f1 r1 hl.1;refine h2.ok G _ E F1 σ H1 _ d2 F2 (I.moreC k1 f1 r1) e2 λw H2 k2' f2 r2=>?_
 obtain⟨S2,_⟩:=S1.putC s1 sn1 I1 k2' f2 r2 (i:=j) (by rw[Kh];exact hl.2);exact⟨v,w,rfl,q _ _ S2⟩⟩
def kx (i j k:Nat)(c1 c2 c3:DE->M DV):DE->M Out:=λE F=>(c1 E F).bind λp=>(c2 E p.2).bind λq=>(c3 E q.2).bind λr=>if i<E.length/\j<E.length/\k<E.length then some (.nx (((E.set i (some p.1)).set j (some q.1)).set k (some r.1)),r.2) else none
def wj (i j k:Nat){x y z:Str}{t1 t2 t3:TE}{c1 c2 c3:DE->M DV}{px py pz pt:Pos}{kt k2 pt2}(hc:X.calm=true)(hN:X.N.Nodup)(h1:Ec K X a t1 c1)(h2:Ec K X b t2 c2)(h3:Ec K X c t3 c3)(hi:X.N[i]? = some x:=by rfl)(hj:X.N[j]? = some y:=by rfl)(hk:X.N[k]? = some z:=by rfl)(hij:i≠j:=by decide)(hik:i≠k:=by decide)(hjk:j≠k:=by decide)
  (hx:X.env.scope.names.lookup x=some .local:=by rfl) (hy:X.env.scope.names.lookup y=some .local:=by rfl) (hz:X.env.scope.names.lookup z=some .local:=by rfl)
  (hw:swappedStores [.Tuple [.Name x px,.Name y py,.Name z pz] kt pt] (.Tuple [a,b,c] k2 pt2) X.env=pure (some [x,y,z]):=by rfl)
  (hs:swapsWithSole [.Tuple [.Name x px,.Name y py,.Name z pz] kt pt] (.Tuple [a,b,c] k2 pt2) pos.line X.env=pure false:=by rfl)
  (hs1:Oa [a,b,c] X.env=(false,eval a X.env)::Oa [b,c] X.env:=by rfl) (hs2:Oa [b,c] X.env=(false,eval b X.env)::Oa [c] X.env:=by rfl) (hs3:Oa [c] X.env=(false,eval c X.env)::Oa [] X.env:=by rfl) :
  Ss K X (.Assign [.Tuple [.Name x px,.Name y py,.Name z pz] kt pt] (.Tuple [a,b,c] k2 pt2) pos) (zX i j k (v6 t1 (v6 t2 (v6 t3 F0)))) (kx i j k c1 c2 c3):=⟨yL hc hN hi hj hk hij hik hjk hx hy hz (i8 h1.pe (i8 h2.pe (i8 h3.pe l6 hs3) hs2) hs1) hw hs,λG B0 H0 E F σ H D r F' S e q=>by
 obtain⟨⟨d1,F1⟩,e1,e⟩:=bS9 e;obtain⟨⟨d2,F2⟩,e2,e⟩:=bS9 e;obtain⟨⟨d3,F3⟩,e3,e⟩:=bS9 e;split at e;case isFalse=>cases e
 rename_i hl;cases e;obtain⟨B,s,sn,I⟩:=S.ex;refine h1.ok G B E F σ H _ d1 F1 I e1 λv H1 k1 f1 r1=>?_
 obtain⟨S1,s1,sn1,I1⟩:=S.putC s sn I k1 f1 r1 hl.1;refine h2.ok G _ E F1 σ H1 _ d2 F2 (I.moreC k1 f1 r1) e2 λw H2 k2' f2 r2=>?_
 obtain⟨S2,s2,sn2,I2⟩:=S1.putC s1 sn1 I1 k2' f2 r2 (i:=j) (by rw[Kh];exact hl.2.1);refine h3.ok G _ E F2 σ H2 _ d3 F3 ((I.moreC k1 f1 r1).moreC k2' f2 r2) e3 λu H3 k3 f3 r3=>?_
 obtain⟨S3,_⟩:=S2.putC s2 sn2 I2 k3 f3 r3 (i:=k) (by rw[Kh,Kh];exact hl.2.2);exact⟨v,w,u,rfl,q _ _ S3⟩⟩
end
end
section
section
variable {K:Fg}{X0:Cx}{tg iter:NX}{te:TE}{pos:Pos}
end
section
variable {K:Fg}{X:Cx}[Feeds]
def vH:List My->Option My
 | [.int i,.int j]=>some (.int (if j > i then j else i))
 | _=>none
def yy (hK:X.K=K)(hc:X.calm=true):D1 X (.builtin "max") (rDN K vH):=by
 intro pins s σ H xs us Q I r h;obtain⟨fp,B,ds,z,bk,h1,hf,q⟩:=h;unfold vH at hf;split at hf <;> try cases hf
 rename_i i j;obtain⟨v,w,rfl,hv,hw⟩:=Dg h1 rfl;cases(show v = .int i from hv);cases(show w = .int j from hw);exact uw hc pins s σ H _ us Q I r ⟨i,j,rfl,q _ H (d8.refl H) a7.int⟩
end
def FdS.fstN (F:FdS):Int:=(F.cellL % 1000003+37*F.a*F.a+13*F.a+5)*48271 % 999983
def FdS.mixN (F:FdS):Int:=((F.fstN*F.fstN+7919*F.a+11) % 2097143)*69621 % 2147483629 / 7
def fP (m:Int)(F:FdS):Option (Int×FdS):=if 0<m/\m<1073741824/\F.t<199999 then
  some (if 0<F.l then(F.l % m,⟨F.ns,F.a,F.l / m,F.t+1⟩)
   else if 10 ^ 18<=F.cellL/\F.a<F.ns.length then(F.cellL % m,⟨F.ns,F.a+1,F.cellL / m,F.t+1⟩)
   else(F.mixN % m,⟨F.ns,F.a+1,F.l,F.t+1⟩))
 else none
def pV {m:Int}{F:FdS}(h0:0<m)(h1:m<1073741824)(h2:F.t<199999):∃r F',fP m F=some (r,F')/\0<=r/\r<m/\F'.t=F.t+1:=by
 have b:∀x:Int,0<=x % m/\x % m<m:=λx=>⟨Int.emod_nonneg _ (by omega),Int.emod_lt_of_pos _ h0⟩
 unfold fP;rw[Jk ⟨h0,h1,h2⟩];by_cases hl:0<F.l
 .rw[Jk hl];exact⟨_,_,rfl,(b _).1,(b _).2,rfl⟩
 .rw[Jo hl];by_cases hc:10 ^ 18<=F.cellL/\F.a<F.ns.length
  .rw[Jk hc];exact⟨_,_,rfl,(b _).1,(b _).2,rfl⟩
  .rw[Jo hc];exact⟨_,_,rfl,(b _).1,(b _).2,rfl⟩
@[reducible] def EC (l:List Str):Fam where
 At:=λd c H F=>H d=some (.lst [.ref c,.int F.a,.int F.l])/\H c=some (.lst (F.ns.map V.int))/\F.ns.length<=63/\0<=F.a/\F.a<=F.t/\d≠c
 some1:=λh=>⟨_,h.1,⟨λ_ z=>(by cases z),λ_ z=>(by cases z)⟩⟩
 some2:=λh=>⟨_,h.2.1,⟨λ_ z=>(by cases z),λ_ z=>(by cases z)⟩⟩
 lam:=l
 congr:=λh e1 e2=>⟨e1.trans h.1,e2.trans h.2.1,h.2.2⟩
 drawF:=fP
 draw_some:=pV
end
section
end
section
section
variable {K:Fg}{X:Cx}[Feeds]
end
end
section
section
variable {M:Lang}{A:NT}{E:NO->NQ->Prop}{s:NQ}
def jo:seqSlot? (.type "list") (dunderI "add")=pure (some (.builtin "list.__iadd__")):=PySem.seqSlot_of MS.lookup (by decide +kernel)
def iV:fillsInplaceSlot (.type "list") "add" (Operator.Add == .Add)=pure false:=by
 unfold fillsInplaceSlot;show(typeLookup (.type "list") (dunderI "add") >>= λfi=>pure (fi.isSome && !isSeqSlot fi))=pure false;rw[MS.lookup];show(pure ((some (NO.builtin "list.__iadd__")).isSome && !isSeqSlotId "list.__iadd__"):Sem Bool)=pure false;have:isSeqSlotId "list.__iadd__" = true:=by decide +kernel
 rw[this];rfl
end
section
variable {prog:NR}{w:NS}{A:NT}{E:NO->NQ->Prop}{s:NQ}
def uq {a b:NO}{Q:NO->NQ->Prop}(ha:s.TypeIs a "list")(hb:s.TypeIs b "list")(hc:Of (model prog w) A (call (.builtin "list.__iadd__") [a,b]) Q E s):Of (model prog w) A (inplaceOp .Add a b) Q E s:=by
 unfold inplaceOp;refine Ld ?_;refine Jg (MY ha (Jg (wpAny_of_eq iV ?_)));show Of _ A (if false=true then _ else _) Q E s;rw[Jo JI];refine Jg (binaryOp1_none (nm:="add") ha hb noFill_list_add ?_);refine Jg (wpAny_of_eq jo ?_);exact Jg (Md hc)
end
section
variable {K:Fg}{X:Cx}[Feeds]
def ipE:TIp:=λx y H Q=>∃l b xs zs,x = .ref l/\y = .ref b/\H l=some (.lst xs)/\H b=some (.lst zs)/\xs.length+zs.length<=NZ/\Q (.ref l) (upd H l (.lst (xs++zs)))
def BZ:PIp X .Add ipE:=by
 intro pins s σ H x y v u Q I rx ry h;obtain⟨l,b,xs,zs,rfl,rfl,hH,hB,hz,q⟩:=h;cases rx;cases ry;obtain⟨z,its,n,r,hl,e⟩:=I.lstM hH;obtain⟨z2,its2,n2,r2,hl2,e2⟩:=I.lstM hB;have hsz:its.toArray.size+its2.toArray.size<=NZ:=by rw[Jw,Jw];omega
 have hlong:¬(!its.toArray.isEmpty&&Builtin.List.listTooLong (its.toArray.size+its2.toArray.size))=true:=by
  rw[nc hsz,ME];exact JI
 refine uq ⟨_,e,rfl⟩ ⟨_,e2,rfl⟩ ?_;refine Me MS ⟨_,e,rfl⟩ PySem.F.entry_list_iadd (PySem.F.args_list_iadd_2 _ _)
  (AutoSeq1.list___iadd___list_list_0 l its.toArray n b its2.toArray n2 hlong (by rw[Jw];omega) (by omega)) ⟨e,e2,?_⟩
 refine⟨.ref l,_,I.lset (its':=its++its2) hH e (by simp) (r.append r2) ?_,rfl,q⟩;rw[JX];omega
def xa {v w:V}:[v,w].length<=NZ:=by show 2<=NZ;rw[JQ];decide
theorem lV {α:Type}:∀{l:List α} {i:Nat} {a:α},l[i]? = some a->l.set i a=l
 | [],_,_,h=>by simp at h
 | x::l,0,a,h=>by simp at h;simp[h]
 | x::l,i+1,a,h=>by simp at h;simp[lV h]
variable {e:NX}{te:TE}{m:DE->M My}{pos:Pos}
def Bn {i:Nat}(hv:TEs K te m):TSd K (vI i te ipE) (tQ i m):=λG B0 H0 E F σ H D r F' S e q=>by
 obtain⟨⟨d,F1⟩,e1,e⟩:=bS9 e;obtain⟨ds,e4,e⟩:=bS9 e;dsimp only at e;split at e
 .split at e
  .rename_i hl;cases e;obtain⟨B,s,sn,I⟩:=S.ex;have eo:=V7 e4;obtain⟨w,w1,a,xs,rfl,hB,hf,hx,hdx⟩:=I.loc i _ eo;refine⟨_,w1,hv G B E F σ H _ (.list _) _ I e1 λu H2 k2 f2 h2=>?_⟩;obtain⟨b,ys,rfl,hb,hdb⟩:=h2;have hd2:=hdx.same (k2.hid I.fB);refine⟨a,b,xs,ys,rfl,rfl,k2 a _ hx hf,d6 _ _ hb,by rw[hdx.length,hdb.length];exact hl,?_⟩;show D.nx (List.set σ i (some (V.ref a))) _;rw[lV w1];exact q σ _ ((S.step k2 f2).write s sn (I.step k2 f2) eo w1 (a6.append hdb hd2))
  .cases e
 .cases e
def rF (i:Nat){x:Str}{pos':Pos}(hN:X.N.Nodup)(he:Eb K X e te m)(hi:X.N[i]? = some x:=by rfl)(hx:Loc X.env.scope x:=by first | exact Or.inl rfl | exact Or.inr rfl)(hf:X.fn x=true\/X.env.scope.names.lookup x=some .local:=by first | exact .inl rfl | exact .inr rfl | assumption) :
  Ss K X (.AugAssign (.Name x pos') .Add e pos) (vI i te ipE) (tQ i m):=⟨vy hN hi hx he.pe BZ hf,Bn he.ok⟩
variable {a b:NX}
def oz (i j:Nat){x y:Str}{t1 t2:TE}{c1 c2:DE->M DV}{px py pt:Pos}{kt k2 pt2}(hK:X.K=K)(hc:X.calm=true)(hN:X.N.Nodup)(h1:Ec K X a t1 c1)(h2:Ec K X b t2 c2)(hi:X.N[i]? = some x:=by rfl)(hj:X.N[j]? = some y:=by rfl)
  (hx:Loc X.env.scope x:=by first | exact Or.inl rfl | exact Or.inr rfl) (hy:Loc X.env.scope y:=by first | exact Or.inl rfl | exact Or.inr rfl)
  (hfx:X.fn x=true\/X.env.scope.names.lookup x=some .local:=by first | exact .inl rfl | exact .inr rfl | assumption) (hfy:X.fn y=true\/X.env.scope.names.lookup y=some .local:=by first | exact .inl rfl | exact .inr rfl | assumption)
  (hw:swappedStores [.Tuple [.Name x px,.Name y py] kt pt] (.Tuple [a,b] k2 pt2) X.env=pure none:=by rfl)
  (hs:swapsWithSole [.Tuple [.Name x px,.Name y py] kt pt] (.Tuple [a,b] k2 pt2) pos.line X.env=pure false:=by rfl)
  (ha1:(Om [.Tuple [.Name x px,.Name y py] kt pt] X.env).map (·.2)=[assign (.Tuple [.Name x px,.Name y py] kt pt) X.env]:=by rfl)
  (hs1:Oa [a,b] X.env=(false,eval a X.env)::Oa [b] X.env:=by rfl) (hs2:Oa [b] X.env=(false,eval b X.env)::Oa [] X.env:=by rfl) :
  Ss K X (.Assign [.Tuple [.Name x px,.Name y py] kt pt] (.Tuple [a,b] k2 pt2) pos) (N0 (sF (v6 t1 (v6 t2 F0))) (zD K 2 (rK (K0 i) (rK (K0 j) CA)))) (iP i j c1 c2) :=
 ⟨T7 (gY (i8 h1.pe (i8 h2.pe l6 hs2) hs1)) (rM hK hc (gR (gz hN hi hx hfx) (gR (gz hN hj hy hfy) qN))) hs hw ha1,λG B0 H0 E F σ H D r F' S e q=>by
 obtain⟨⟨d1,F1⟩,e1,e⟩:=bS9 e
 obtain⟨⟨d2,F2⟩,e2,e⟩:=bS9 e
 split at e
 case isFalse=>cases e
 rename_i hl
 cases e
 obtain⟨B,s,sn,I⟩:=S.ex
 refine h1.ok G B E F σ H _ d1 F1 I e1 λv H1 k1 f1 r1=>?_
 obtain⟨S1,s1,sn1,I1⟩:=S.putC s sn I k1 f1 r1 hl.1
 refine h2.ok G _ E F1 σ H1 _ d2 F2 (I.moreC k1 f1 r1) e2 λw H2 k2' f2 r2=>?_
 obtain⟨S2,_⟩:=S1.putC s1 sn1 I1 k2' f2 r2 (i:=j) (by rw[Kh];exact hl.2)
 refine⟨xa,λp hp=>⟨p,[v,w],rfl,SqT.of c7,rfl,v,[w],rfl,w,[],rfl,rfl,?_⟩⟩
 exact q _ _ (S2.step (Kp.upd hp) (f2.same (d8.upd hp)))⟩
def CV {tg iter elt:NX}{ifs:List NX}{scope osc:NU}{N:List Str}{k:Nat}{cap:List Nat}{wi:TI}{g:TG}{tt:TT}{mi:DE->M (List My)}{bd:My->DE->Option DE}{mt:DE->M Bool}{me:DE->M My}
  (hc:X.calm=true) (hosc:X.env.scope=osc) (hcap:Caps X.N osc N k cap scope) (hi:Eib K X tg iter wi mi)
  (hg:∀cl C ex pins s H,Eg K (cxC X N scope cl C ex pins s H) tg g bd)
  (ht:∀cl C ex pins s H,Ets K (cxC X N scope cl C ex pins s H) ifs tt mt)
  (he:∀cl C ex pins s H,Ev K (cxC X N scope cl C ex pins s H) elt te me)
  (hs:∀x,Ol iter X.env x=pure x:=by intro _;rfl) :
  Ef K X (.ListComp elt [⟨tg,iter,ifs,0⟩] scope pos) (tLC wi k cap g tt te) (fLC mi k cap bd mt me) :=
 ⟨Ab hc hosc hcap hi.pi (λcl C ex pins s H=>(hg cl C ex pins s H).pg) (λcl C ex pins s H=>(ht cl C ex pins s H).pts) (λcl C ex pins s H=>(he cl C ex pins s H).pe) hs,
  DM hi.ok (hg [] 0 [] [] X.s₀ X.H₀).ok (ht [] 0 [] [] X.s₀ X.H₀).ok (he [] 0 [] [] X.s₀ X.H₀).ok⟩
end
end
section
section
variable [Feeds]
variable {K:Fg}{X:Cx}{e i v1 v2 v3:NX}{es:List NX}{te t1 t2 t3 ti:TE}{m1 m2 m3 mi:DE->M My}{p pos p1 p2 p3:Pos}
variable {P:NR}{w:NS}{mg:Str->Option NO}{base:NY}
end
end
section
section
variable {prog:NR}{w:NS}{A:NT}{E:NO->NQ->Prop}{s:NQ}
variable {b1 b2:Bool}{z TI TO i1 i2 l1 l2:NP}{k:Nat}{xs ys:Array NO}{x y a b:NO}
end
end
section
section
variable {prog:NR}{w:NS}{A:NT}{E:NO->NQ->Prop}{s:NQ}
end
section
variable [Feeds]{K:Fg}{X:Cx}{tg e1 e2:NX}{te1 te2:TE}{m1 m2:DE->M My}{pos p tp:Pos}{es:List NX}{tk:Nat}
end
end
end L3
namespace L2
open PySem PySem.Spec PyProof.Rows
section
section
variable {prog:NR}{w:NS}{A:NT}{R:Result->NQ->Prop}{s:NQ}
end
end
section
end
end L2
namespace L3
open PySem PySem.Spec PyProof.Rows L2
section
section
variable [Feeds]
variable {K:Fg}{X:Cx}{tg iter tg1 iter1 elt:NX}{te:TE}{pos:Pos}
end
end
section
section
variable [Feeds]
variable {K:Fg}{X:Cx}{st:NW}{rest:List NW}{t u:TS}{mt:DE->M Out}{mu:DE->M (List My)}{p pos:Pos}
variable {P:NR}{w:NS}{mg:Str->Option NO}{base:NY}
def gSq (a:DE->M Out)(b:DE->M (List My)):DE->M (List My):=λE F=>(a E F).bind λp=>match p.1 with
 | .nx E1=>b E1 p.2
 | _=>none
def BL (i:Nat):DE->M (List My):=λE F=>match E[i]? with
 | some (some (.own ds))=>some (ds,F)
 | _=>none
structure SsG (K:Fg) (X:Cx) (sts:List NW) (ts:TS) (m:DE->M (List My)):Prop where
 ps:PSs X sts ts
 ok:∀(G:GF) (B0:List NP) (H0:Hp) (E:DE) (F:FS) (σ:St) (H:Hp) (D:Ends) (ds:List My) (F':FS),Sit K G B0 H0 E F σ H->m E F=some (ds,F') ->
  (∀a ws H',H0 a=none->H' a=some (.lst ws)->Kp (n6 K G) H0 H'->FAt K G H' F'->a6 K (hid H' (a::B0)) ds ws->D.rt (.ref a) H')->ts D σ H
def Bl (i:Nat){x:Str}(hN:X.N[i]? = some x:=by rfl)(hv:Vis X.env.scope x:=by first | exact Or.inl rfl | exact Or.inr (Or.inl rfl) | exact Or.inr (Or.inr rfl))(hd:(x == ("__debug__":Str))=false:=by decide)
  (hcd:(x == ("__classdict__":Str))=false:=by decide):SsG K X [.Return (some (.Name x p)) pos] (oK (t9 i)) (BL i):=⟨C6 (X7 (D4 hN hv hd hcd)),λG B0 H0 E F σ H D ds F' S e q=>by
 obtain⟨B,s,sn,I⟩:=S.ex;unfold BL at e;split at e
 .rename_i x hx;cases e;obtain⟨v,h1,p,xs,rfl,hB,hf,hp,hd⟩:=I.loc i _ hx;obtain⟨n1,n2⟩:=S.own i _ p hx h1;exact⟨_,h1,q p xs H n1 hp S.kp I.fd (hd.same (M7 λb hb=>by
   rcases Jl.1 hb with rfl | hb
   .exact hB
   .exact s b hb))⟩
 .cases e⟩
def rQ (h1:Ss K X st t mt)(h2:SsG K X rest u mu):SsG K X (st::rest) (T5 t u) (gSq mt mu):=⟨l3 h1.ps h2.ps,λG B0 H0 E F σ H D ds F' S e q=>by
 obtain⟨⟨o,F1⟩,e1,e⟩:=bS9 e;refine h1.ok G B0 H0 E F σ H _ o F1 S e1 ?_;cases o with
 | nx E1=>exact λσ' H' S'=>h2.ok G B0 H0 E1 F1 σ' H' D ds F' S' e q
 | rt d=>cases e
 | bk E1=>cases e
 | ct E1=>cases e⟩
end
end
end L3
namespace L2
open PySem PySem.Spec PyProof.Rows
section
variable {X:Cx}{K:Fg}
end
end L2
namespace L3
open PySem PySem.Spec PyProof.Rows L2
section
section
variable [Feeds]{K:Fg}{X:Cx}
end
end
section
section
variable [Feeds]
variable {K:Fg}{X:Cx}{e:NX}{es:List NX}{p pos:Pos}
end
end
section
section
variable [Feeds]
variable {K:Fg}{X:Cx}{e:NX}{te:TE}{m:DE->M My}{p pos:Pos}
end
end
end L3
namespace L3
open PySem PySem.Spec PyProof.Rows L2 PySem.SeqAt
section
variable [Feeds]{K:Fg}{X:Cx}
end
end L3
namespace L3
open PySem PySem.Spec PyProof.Rows L2
section
section
variable {prog:NR}{w:NS}{A:NT}{E:NO->NQ->Prop}{s:NQ}
variable {b1 b2 f:Bool}{z TI TO T0 i1 i2 l1 l2:NP}{k:Nat}{xs ys:Array NO}{x y a b:NO}{oT:Ob}
end
end
section
section
variable {X:Cx}{K:Fg}{p p2 pos pos2:Pos}
end
section
variable [Feeds]{X:Cx}{K:Fg}{p p2 pos pos2:Pos}{e1 e2:NX}{te1 te2:TE}{m1 m2:DE->M My}
end
end
section
section
variable {prog:NR}{w:NS}{A:NT}{E:NO->NQ->Prop}{s:NQ}
end
section
variable [Feeds]{K:Fg}{X:Cx}{tg e1 e2:NX}{te1 te2:TE}{m1 m2:DE->M My}{pos p tp:Pos}{es:List NX}{tk:Nat}
end
end
section
variable [Fam]
def wp {α σ:Type}(m:Option (α × σ))(Q:α->σ->Prop):Prop:=∃a F',m=some (a,F')/\Q a F'
section
variable {α β γ σ τ:Type}{Q:α->σ->Prop}
def b7 {a:α}{F:σ}:wp (some (a,F)) Q↔Q a F:=⟨λ⟨_,_,e,q⟩=>by cases e;exact q,λq=>⟨_,_,rfl,q⟩⟩
def A9:wp (none:Option (α × σ)) Q↔False:=⟨λ⟨_,_,e,_⟩=>(by cases e),False.elim⟩
def b8 {x:Option (β × τ)}{f:β × τ->Option (α × σ)}:wp (x.bind f) Q↔wp x λa F'=>wp (f (a,F')) Q:=by
 constructor
 .rintro ⟨a,F',e,q⟩;obtain⟨⟨b,F1⟩,e1,e2⟩:=bS9 e;exact⟨b,F1,e1,a,F',e2,q⟩
 .rintro ⟨b,F1,e1,a,F',e2,q⟩;exact⟨a,F',by rw[e1];exact e2,q⟩
def A5 {o:Option γ}{f:γ->Option (α × σ)}:wp (o.bind f) Q↔∃z,o=some z/\wp (f z) Q:=by
 constructor
 .rintro ⟨a,F',e,q⟩;obtain⟨z,e1,e2⟩:=bS9 e;exact⟨z,e1,a,F',e2,q⟩
 .rintro ⟨z,e1,a,F',e2,q⟩;exact⟨a,F',by rw[e1];exact e2,q⟩
def iX {c:Prop}[Decidable c]{a b:Option (α × σ)}:wp (if c then a else b) Q↔if c then wp a Q else wp b Q:=by
 split <;> rfl
def i4 {m:Option (α × σ)}{Q':α->σ->Prop}(h:wp m Q)(hq:∀a F,Q a F->Q' a F):wp m Q':=by
 obtain⟨a,F,e,q⟩:=h;exact⟨a,F,e,hq a F q⟩
def A7 {m:Option (α × σ)}{Q':α->σ->Prop}(h:∀a F,Q a F↔Q' a F):wp m Q↔wp m Q':=⟨λz=>i4 z λa F q=>(h a F).1 q,λz=>i4 z λa F q=>(h a F).2 q⟩
def se {z:γ}{P:γ->Prop}:(∃y,some z=some y/\P y)↔P z:=⟨λ⟨_,e,p⟩=>by cases e;exact p,λp=>⟨_,rfl,p⟩⟩
def G9 {m:Int}{F:FdS}{Q:My->FdS->Prop}(h0:0<m)(h1:m<1073741824)(h2:F.t<199999)(q:∀r F',0<=r->r<m->F'.t=F.t+1->Q (.int r) F'):wp (G2 [.feed,.dat (.int m)] F) Q:=by
 obtain⟨r,F',e,r0,r1,ht⟩:=Fam.draw_some h0 h1 h2;exact⟨.int r,F',by show(Fam.drawF m F).bind _=_;rw[e];rfl,q r F' r0 r1 ht⟩
end
def gD (o:Option (Option DV))(P:My->Prop):Prop:=match o with
 | some (some (.dat d))=>P d
 | _=>False
def gW (o:Option (Option DV))(P:My->Prop):Prop:=match o with
 | some (some (.dat d))=>P d
 | some (some (.own ds))=>P (.list ds)
 | _=>False
def gF (o:Option (Option DV))(P:Prop):Prop:=match o with
 | some (some .feed)=>P
 | _=>False
def oB {γ:Type}(o:Option γ)(P:γ->Prop):Prop:=∃z,o=some z/\P z
def cIf (c:Bool)(A B:Prop):Prop:=if c=true then A else B
def fK {A B:Prop}:cIf true A B↔A:=by simp[cIf]
def fI {A B:Prop}:cIf false A B↔B:=by simp[cIf]
def P6 {c:Bool}{A B:Prop}(h1:c=true->A)(h2:c=false->B):cIf c A B:=by
 cases c
 .exact fI.2 (h2 rfl)
 .exact fK.2 (h1 rfl)
section
variable [Feeds]{E:DE}{F:FS}
def u7 {d:My}{Q:My->FS->Prop}:wp (sC d E F) Q↔Q d F:=b7
def l9 {i:Nat}{Q:My->FS->Prop}:wp (sV i E F) Q↔gD E[i]? λd=>Q d F:=by
 unfold sV gD;generalize E[i]? = o;rcases o with _ | _ | x
 .exact A9
 .exact A9
 .cases x <;> first | exact b7 | exact A9
def g9 {i:Nat}{Q:My->FS->Prop}:wp (sW i E F) Q↔gW E[i]? λd=>Q d F:=by
 unfold sW gW;generalize E[i]? = o;rcases o with _ | _ | x
 .exact A9
 .exact A9
 .cases x <;> first | exact b7 | exact A9
def Bk {f:My->Option My}{a:DE->M My}{Q:My->FS->Prop}:wp (s1 f a E F) Q↔wp (a E F) λx F1=>oB (f x) λz=>Q z F1:=by
 unfold s1;rw[b8];simp only[A5,b7,oB]
def n9 {f:My->My->Option My}{a b:DE->M My}{Q:My->FS->Prop}:wp (s2 f a b E F) Q↔wp (a E F) λx F1=>wp (b E F1) λy F2=>oB (f x y) λz=>Q z F2:=by
 unfold s2;rw[b8];refine A7 λx F1=>?_;rw[b8];refine A7 λy F2=>?_;simp only[A5,b7,oB]
def E5 {f:List My->Option My}{a:DE->M (List My)}{Q:My->FS->Prop}:wp (sN f a E F) Q↔wp (a E F) λx F1=>oB (f x) λz=>Q z F1:=by
 unfold sN;rw[b8];simp only[A5,b7,oB]
def d7 {Q:List My->FS->Prop}:wp (i5 E F) Q↔Q [] F:=b7
def a9 {a:DE->M My}{r:DE->M (List My)}{Q:List My->FS->Prop}:wp (b9 a r E F) Q↔wp (a E F) λx F1=>wp (r E F1) λxs F2=>Q (x::xs) F2:=by
 unfold b9;rw[b8];simp only[b8,b7]
def R1 {a:DE->M (List My)}{Q:My->FS->Prop}:wp (V6 a E F) Q↔wp (a E F) λxs F1=>xs.length<=NZ/\Q (.tuple xs) F1:=by
 unfold V6;rw[b8];constructor
 .exact λh=>i4 h λxs F1 h=>by
   split at h
   .rename_i hl;exact⟨hl,b7.1 h⟩
   .exact(A9.1 h).elim
 .exact λh=>i4 h λxs F1 h=>by rw[Jk h.1];exact b7.2 h.2
def lI {a:DE->M (List My)}{Q:My->FS->Prop}:wp (ug a E F) Q↔wp (a E F) λxs F1=>xs.length<=NZ/\Q (.list xs) F1:=by
 unfold ug;rw[b8];constructor
 .exact λh=>i4 h λxs F1 h=>by
   split at h
   .rename_i hl;exact⟨hl,b7.1 h⟩
   .exact(A9.1 h).elim
 .exact λh=>i4 h λxs F1 h=>by rw[Jk h.1];exact b7.2 h.2
def C3 {Q:List DV->FS->Prop}:wp (E9 E F) Q↔Q [] F:=b7
def G5 {a:DE->M My}{r:DE->M (List DV)}{Q:List DV->FS->Prop}:wp (vD a r E F) Q↔wp (a E F) λx F1=>wp (r E F1) λxs F2=>Q (.dat x::xs) F2:=by
 unfold vD;rw[b8];simp only[b8,b7]
def oy {i:Nat}{r:DE->M (List DV)}{Q:List DV->FS->Prop}:wp (vF i r E F) Q↔gF E[i]? (wp (r E F) λxs F2=>Q (.feed::xs) F2):=by
 unfold vF gF;generalize E[i]? = o;rcases o with _ | _ | x
 .exact A9
 .exact A9
 .cases x with
  | feed=>exact b8.trans (A7 λ_ _=>b7)
  | _=>exact A9
def x6 {f:List DV->M My}{ms:DE->M (List DV)}{Q:My->FS->Prop}:wp (v7 f ms E F) Q↔wp (ms E F) λxs F1=>wp (f xs F1) Q:=by
 unfold v7;rw[b8]
def md {a:DE->M My}{l u:DE->M (Option Int)}{Q:My->FS->Prop}:wp (kN a l u E F) Q↔wp (a E F) λx F1=>wp (l E F1) λlo F2=>wp (u E F2) λhi F3=>oB (ub lo hi x) λz=>Q z F3:=by
 unfold kN;rw[b8];refine A7 λx F1=>?_;rw[b8];refine A7 λy F2=>?_;rw[b8];refine A7 λy F2=>?_;simp only[A5,b7,oB]
def qJ {Q:Option Int->FS->Prop}:wp (oNo E F) Q↔Q none F:=b7
def sg {a:DE->M My}{Q:Option Int->FS->Prop}:wp (oI a E F) Q↔wp (a E F) λx F1=>oB (dO x) λi=>Q (some i) F1:=by
 unfold oI;rw[b8];simp only[A5,b7,oB]
def oH {a b:DE->M My}{Q:My->FS->Prop}:wp (pF a b E F) Q↔wp (a E F) λx F1=>oB (Z6 x) λc=>cIf c (wp (b E F1) Q) (Q (.bool false) F1):=by
 unfold pF;rw[b8];simp only[A5,iX,b7,oB,cIf]
def iB {c:DE->M Bool}{a b:DE->M My}{Q:My->FS->Prop}:wp (sIf c a b E F) Q↔wp (c E F) λx F1=>cIf x (wp (a E F1) Q) (wp (b E F1) Q):=by
 unfold sIf;rw[b8];simp only[iX,cIf]
def Y1 {a:DE->M My}{Q:Bool->FS->Prop}:wp (uB a E F) Q↔wp (a E F) λx F1=>oB (Z6 x) λc=>Q c F1:=by
 unfold uB;rw[b8];simp only[A5,b7,oB]
def ui {a:DE->M My}{Q:Bool->FS->Prop}:wp (uT a E F) Q↔wp (a E F) λx F1=>oB (zd x) λc=>Q c F1:=by
 unfold uT;rw[b8];simp only[A5,b7,oB]
def qg {a b:DE->M Bool}{Q:Bool->FS->Prop}:wp (vX a b E F) Q↔wp (a E F) λx F1=>cIf x (wp (b E F1) Q) (Q false F1):=by
 unfold vX;rw[b8];simp only[iX,b7,cIf]
def xj {a b:DE->M Bool}{Q:Bool->FS->Prop}:wp (uOr a b E F) Q↔wp (a E F) λx F1=>cIf x (Q true F1) (wp (b E F1) Q):=by
 unfold uOr;rw[b8];simp only[iX,b7,cIf]
def vR {a:DE->M Bool}{Q:Bool->FS->Prop}:wp (zp a E F) Q↔wp (a E F) λx F1=>Q (!x) F1:=by
 unfold zp;rw[b8];simp only[b7]
def gM {Q:Bool->FS->Prop}:wp (U2 E F) Q↔Q true F:=b7
def bW {Q:Out->FS->Prop}:wp (mNx E F) Q↔Q (.nx E) F:=b7
def sqK (b:DE->M Out)(Q:Out->FS->Prop)(o:Out)(F1:FS):Prop:=match o with
  | .nx E1=>wp (b E1 F1) Q
  | o=>Q o F1
def h9 {b:DE->M Out}{Q:Out->FS->Prop}{E1:DE}(h:wp (b E1 F) Q):sqK b Q (.nx E1) F:=h
def wW {b:DE->M Out}{Q:Out->FS->Prop}{d:My}(h:Q (.rt d) F):sqK b Q (.rt d) F:=h
def CO {b:DE->M Out}{Q:Out->FS->Prop}{d:DE}(h:Q (.ct d) F):sqK b Q (.ct d) F:=h
def i9 {a b:DE->M Out}{Q:Out->FS->Prop}:wp (mSq a b E F) Q↔wp (a E F) (sqK b Q):=by
 unfold mSq;rw[b8];refine A7 λo F1=>?_
 cases o with
 | nx E1=>exact Iff.rfl
 | rt d=>exact b7
 | bk d=>exact b7
 | ct d=>exact b7
def aT {a:DE->M My}{Q:Out->FS->Prop}:wp (mRt a E F) Q↔wp (a E F) λx F1=>Q (.rt x) F1:=by
 unfold mRt;rw[b8];simp only[b7]
def l7 {i:Nat}{a:DE->M My}{Q:Out->FS->Prop}:wp (A8 i a E F) Q↔wp (a E F) λx F1=>i<E.length/\Q (.nx (E.set i (some (.dat x)))) F1:=by
 unfold A8;rw[b8];refine A7 λx F1=>?_
 unfold bN;by_cases h:i<E.length
 .rw[Jk h];simp only[A5,b7,se,h,true_and]
 .rw[Jo h];simp only[A5,h,false_and];exact⟨λ⟨_,e,_⟩=>(by cases e),False.elim⟩
def X2 {bd:My->DE->Option DE}{a:DE->M My}{Q:Out->FS->Prop}:wp (bR bd a E F) Q↔wp (a E F) λx F1=>oB (bd x E) λE1=>Q (.nx E1) F1:=by
 unfold bR;rw[b8];simp only[A5,b7,oB]
def W2 {c:DE->M Bool}{a b:DE->M Out}{Q:Out->FS->Prop}:wp (mIf c a b E F) Q↔wp (c E F) λx F1=>cIf x (wp (a E F1) Q) (wp (b E F1) Q):=by
 unfold mIf;rw[b8];simp only[iX,cIf]
def dZ {i:Nat}{a:DE->M (List My)}{Q:Out->FS->Prop}:wp (ic i a E F) Q↔wp (a E F) λx F1=>i<E.length/\Q (.nx (E.set i (some (.own x)))) F1:=by
 unfold ic;rw[b8];refine A7 λx F1=>?_
 by_cases h:i<E.length
 .rw[Jk h];simp only[b7,h,true_and]
 .rw[Jo h];simp only[h,false_and];exact A9
def AS {i:Nat}{v k:DE->M My}{ds:List My}{Q:Out->FS->Prop}(h:E[i]? = some (some (.own ds))):wp (yn i v k E F) Q↔wp (v E F) λx F1=>wp (k E F1) λy F2=>oB (dO y) λn=>oB (ixN ds.length n) λj=>Q (.nx (E.set i (some (.own (ds.set j x))))) F2:=by
 unfold yn;rw[b8];have e:av E i=some ds:=by unfold av;rw[h]
 refine A7 λx F1=>?_;rw[b8];refine A7 λy F2=>?_
 simp only[A5,b7,e,se,oB]
def ar {mi:DE->M (List My)}{bd:My->DE->Option DE}{body:DE->M Out}{Q:Out->FS->Prop}:wp (du mi bd body E F) Q↔wp (mi E F) λds F1=>wp (M4 bd body ds E F1) Q:=by
 unfold du;rw[b8]
def dS {a:DE->M (List My)}{Q:List My->FS->Prop}:wp (df a E F) Q↔wp (a E F) λx F1=>oB (T1 x) λds=>Q ds F1:=by
 unfold df;rw[b8];simp only[A5,b7,oB]
def D8 {a:DE->M My}{Q:List My->FS->Prop}:wp (U3 a E F) Q↔wp (a E F) λx F1=>oB (jM x) λds=>Q ds F1:=by
 unfold U3;rw[b8];simp only[A5,b7,oB]
def V5 {a:DE->M (List My)}{Q:List My->FS->Prop}:wp (cB a E F) Q↔wp (a E F) λx F1=>x.length<=NZ/\Q x F1:=by
 unfold cB;rw[b8];constructor
 .exact λh=>i4 h λxs F1 h=>by
   split at h
   .rename_i hl;exact⟨hl,b7.1 h⟩
   .exact(A9.1 h).elim
 .exact λh=>i4 h λxs F1 h=>by rw[Jk h.1];exact b7.2 h.2
def S8 {mi:DE->M (List My)}{k:Nat}{cap:List Nat}{bd:My->DE->Option DE}{mt:DE->M Bool}{me:DE->M My}{Q:My->FS->Prop}:wp (sLC mi k cap bd mt me E F) Q↔wp (mi E F) λds F1=>ds.length<=NZ/\wp (Q6 bd mt me ds (lp k cap E) F1) λzs F2=>Q (.list zs) F2:=by
 unfold sLC;rw[b8];constructor
 .refine λh=>i4 h λds F1 h=>?_
  dsimp only at h;split at h
  .rename_i hl;rw[b8]at h;exact⟨hl,i4 h λzs F2 h=>b7.1 h⟩
  .exact(A9.1 h).elim
 .refine λh=>i4 h λds F1 h=>?_
  dsimp only;rw[Jk h.1,b8];exact i4 h.2 λzs F2 h=>b7.2 h
def xf (Q:My->FS->Prop)(o:Out)(F1:FS):Prop:=match o with
  | .rt d=>Q d F1
  | .nx _=>Q .none F1
  | _=>False
def ft {Q:My->FS->Prop}{d:My}(h:Q d F):xf Q (.rt d) F:=h
def fZ {N:List Str}{m:DE->M Out}{args:List DV}{Q:My->FS->Prop}:wp (Z1 N m args F) Q↔wp (m (x4 N args) F) (xf Q):=by
 unfold Z1;rw[b8];refine A7 λo F1=>?_
 cases o with
 | nx E1=>exact b7
 | rt d=>exact b7
 | bk d=>exact A9
 | ct d=>exact A9
def l8 {o:Option (Option DV)}{d:My}{P:My->Prop}(h:o=some (some (.dat d)))(q:P d):gD o P:=by rw[h];exact q
def i6 {o:Option (Option DV)}{d:My}{P:My->Prop}(h:o=some (some (.dat d)))(q:P d):gW o P:=by rw[h];exact q
def dy {o:Option (Option DV)}{ds:List My}{P:My->Prop}(h:o=some (some (.own ds)))(q:P (.list ds)):gW o P:=by rw[h];exact q
def mv {o:Option (Option DV)}{P:Prop}(h:o=some (some .feed))(q:P):gF o P:=by rw[h];exact q
def c6 {γ:Type}{o:Option γ}{z:γ}{P:γ->Prop}(h:o=some z)(q:P z):oB o P:=⟨z,h,q⟩
def T3 {c:Bool}{A B:Prop}(h:c=true)(q:A):cIf c A B:=by rw[h];exact fK.2 q
def u9 {c:Bool}{A B:Prop}(h:c=false)(q:B):cIf c A B:=by rw[h];exact fI.2 q
def B3 {n:Nat}(h:Nat.ble n 10000=true):n<=NZ:=JM (Nat.le_of_ble_eq_true h) (by rw[JQ];decide)
def h8 {i n:Nat}(h:Nat.ble (i+1) n=true):i<n:=Nat.le_of_ble_eq_true h
end
def Tr (f:List DV->M My)(args:List DV)(c:Int)(P:My->Prop):Prop:=∀F:FdS,F.t+c<=199999->∃d F',f args F=some (d,F')/\F'.t<=F.t+c/\P d
def Tr.wp {f:List DV->M My}{args:List DV}{c:Int}{P:My->Prop}{F:FdS}{Q:My->FdS->Prop}(h:Tr f args c P)(hF:F.t+c<=199999)(q:∀d F',F'.t<=F.t+c->P d->Q d F'):wp (f args F) Q:=by
 obtain⟨d,F',e,ht,p⟩:=h F hF;exact⟨d,F',e,q d F' ht p⟩
def Tr.of {f:List DV->M My}{args:List DV}{c:Int}{P:My->Prop}(h:∀F:FdS,F.t+c<=199999->L3.wp (f args F) λd F'=>F'.t<=F.t+c/\P d):Tr f args c P:=λF hF=>by
 obtain⟨d,F',e,q⟩:=h F hF;exact⟨d,F',e,q⟩
mutual
def cnt:My->Nat
 | .tuple ds=>1+eP ds
 | .list ds=>1+eP ds
 | _=>1
def eP:List My->Nat
 | []=>0
 | d::ds=>cnt d+eP ds
end
def asc (x:Str):Prop:=∀c∈x.cps.toList,c<128
mutual
def scs (n:Nat):My->Prop
 | .none=>True
 | .bool _=>True
 | .int i=>i.natAbs<10 ^ 300+n
 | .str x=>x.length<=600+n/\asc x
 | .tuple ds=>tU n ds
 | .list ds=>tU n ds
 | .dict _=>False
def tU (n:Nat):List My->Prop
 | []=>True
 | d::ds=>scs n d/\tU n ds
end
theorem dc {n:Nat}:∀{ds:List My},tU n ds↔∀d∈ds,scs n d
 | []=>by simp[tU]
 | d::ds=>by simp[tU,dc (ds:=ds)]
structure Gd (n N k:Nat) (d:My):Prop where
 sc:scs n d
 dp:d.depth<=k
 ct:cnt d<=N
theorem aZ {k:Nat}:∀{ds:List My},My.depthAll ds<=k↔∀d∈ds,d.depth<=k
 | []=>by simp[My.depthAll]
 | d::ds=>by
  have:=aZ (k:=k) (ds:=ds);simp only[My.depthAll,Jl,forall_eq_or_imp];rw[<-this];omega
def Gd.tup {n N k M:Nat}{ds:List My}(h:∀d∈ds,Gd n M k d)(hc:1+eP ds<=N):Gd n N (k+1) (.tuple ds):=by
 refine⟨?_,?_,?_⟩
 .simp only[scs];rw[dc];exact λd hd=>(h d hd).sc
 .simp only[My.depth];have:My.depthAll ds<=k:=aZ.2 λd hd=>(h d hd).dp
  omega
 .simp only[cnt];exact hc
end
section
variable [Fam]
structure Nod (d:My):Prop where
 sh:d.showable=true
 nd:d.hasDict=false
 cl:d.canLay0=true
 ln:d.shown.length+2<=7100*cnt d
def zq:(10:Nat) ^ 300<=2 ^ 1000:=by
 have h:((10:Nat) ^ 3) ^ 100<=(2 ^ 10) ^ 100:=Nat.pow_le_pow_left (by decide) 100;rwa [<-Nat.pow_mul,<-Nat.pow_mul]at h
def BP {n:Nat}(hn:n<=100):10 ^ 300+n<=2 ^ 1001:=by
 have h0:=zq;have h1:(2:Nat) ^ 1001=2 ^ 1000+2 ^ 1000:=by rw[Nat.pow_succ,Nat.mul_two]
 have h2:(2:Nat) ^ 7<=2 ^ 1000:=Nat.pow_le_pow_right (by decide) (by decide);have h3:(2:Nat) ^ 7=128:=by decide
 rw[h1];generalize (10:Nat) ^ 300=A at *;generalize (2:Nat) ^ 1000=B at *;omega
def Dj {ds:List My}:(∀d∈ds,Nod d)->My.showableAll ds=true/\My.hasDictAll ds=false/\My.canLayAll0 ds=true/\((My.shownAll ds).map (·.length)).sum+2*ds.length<=7100*eP ds:=by
 induction ds with
 | nil=>intro _;exact⟨by simp[My.showableAll],by simp[My.hasDictAll],by simp[My.canLayAll0],by simp[My.shownAll,eP]⟩
 | cons d ds ih =>
  intro h;obtain⟨a,b,c,e⟩:=ih λx hx=>h x (Jh _ hx)
  have hd:=h d Jv;refine⟨by simp[My.showableAll,hd.sh,a],by simp[My.hasDictAll,hd.nd,b],by simp[My.canLayAll0,hd.cl,c],?_⟩;simp only[My.shownAll,Jy,Ny,JB,eP];have:=hd.ln;omega
def CK {n:Nat}(hn:n<=100):∀m:Nat,∀d:My,sizeOf d<m->scs n d->Nod d:=by
 intro m;induction m with
 | zero=>intro d h;exact absurd h (Ng _)
 | succ m ih =>
  intro d hm hs;cases d with
  | none=>exact⟨rfl,rfl,rfl,by decide⟩
  | bool b=>exact⟨rfl,rfl,rfl,by cases b <;> decide⟩
  | int i =>
   simp only[scs]at hs;have hb:i.natAbs<2 ^ 1001:=JH hs (BP hn);have:=Shw.int hb (by decide) (by decide);exact⟨this.sh,this.nd,rfl,by have:=this.ln;simp only[cnt];omega⟩
  | str x =>
   simp only[scs]at hs;refine⟨rfl,rfl,?_,?_⟩
   .simp only[My.canLay0,My.strOk];rw[Array.all_eq_true'];intro c hc;have:=hs.2 c (by simpa using hc);exact Kn (by omega)
   .have h1:=Nz x λc hc=>JH (hs.2 c hc) (by decide)
    simp only[My.shown,cnt];omega
  | tuple ds =>
   simp only[scs]at hs;rw[dc]at hs;obtain⟨a,b,c,e⟩:=Dj λd hd=>ih d (by have:=Mb hd;simp at hm;omega) (hs d hd)
   refine⟨by simpa only[My.showable] using a,by simpa only[My.hasDict] using b,by simpa only[My.canLay0] using c,?_⟩;have h5:=tupleText_len_le (My.shownAll ds);have h6:=LV ds;simp only[My.shown,cnt];omega
  | list ds =>
   simp only[scs]at hs;rw[dc]at hs;obtain⟨a,b,c,e⟩:=Dj λd hd=>ih d (by have:=Mb hd;simp at hm;omega) (hs d hd)
   refine⟨by simpa only[My.showable] using a,by simpa only[My.hasDict] using b,by simpa only[My.canLay0] using c,?_⟩;have h5:=listText_len_le (My.shownAll ds);have h6:=LV ds;simp only[My.shown,cnt];omega
  | dict kvs=>simp only[scs]at hs
section
variable {n N k:Nat}{d:My}
def Gd.nod (h:Gd n N k d)(hn:n<=100):Nod d:=CK hn _ d (Lu _) h.sc
def Gd.shaped (h:Gd n N k d)(hn:n<=100)(hk:k<=50):PySem.SeqAt.shaped d=true:=by
 unfold PySem.SeqAt.shaped;rw[(h.nod hn).cl];have h3:=h.dp;simp;omega
def BR {i:Int}(h:i.natAbs<10 ^ 300+n):Gd n 1 0 (.int i):=⟨h,by simp[My.depth],by simp[cnt]⟩
end
def uj {i:Int}{n:Nat}(h:i.natAbs<=100000000000000000000000000000000000000000):i.natAbs<10 ^ 300+n:=by
 have h1:(10:Nat) ^ 42<=10 ^ 300:=Nat.pow_le_pow_right (by decide) (by decide);have h2:100000000000000000000000000000000000000000<(10:Nat) ^ 42:=by decide
 generalize (10:Nat) ^ 300=A at *;omega
end
section
variable [Fam]
section
variable {ds es:List My}{i j:Int}{x y:Str}{b c:Bool}{d:My}{T:String}
def wA:Z8 (.int i) (.int j)=some (.int (i+j)):=rfl
def X3:fA (.int i) (.int j)=some (.int (i-j)):=rfl
def Ad:gtD (.int i) (.int j)=some (.bool (decide (j<i))):=rfl
def AC:ltD (.int i) (.int j)=some (.bool (decide (i<j))):=rfl
def zJ:leD (.int i) (.int j)=some (.bool (decide (i<=j))):=rfl
def cR:U1 [.tuple ds]=some (.int ds.length):=rfl
def qA:U1 [.list ds]=some (.int ds.length):=rfl
def oN:K6 [.list ds]=some (.tuple ds):=rfl
def xu:dO (.int i)=some i:=rfl
def uV {lo hi:Option Int}:ub lo hi (.tuple ds)=some (.tuple (cM ds lo hi)):=rfl
def xi {lo hi:Option Int}:ub lo hi (.list ds)=some (.list (cM ds lo hi)):=rfl
def fq:jM (.tuple ds)=some ds:=rfl
def P2:jM (.list ds)=some ds:=rfl
end
end
end L3
set_option hygiene false
local macro_rules | `(tactic| walk_at "st")=>`(tactic| first | (with_reducible first | refine L3.h9 ?_ | refine L3.wW ?_ | refine L3.ft ?_ | refine L3.i9.2 ?_ | refine L3.W2.2 ?_ | refine L3.l7.2 ?_ | refine L3.aT.2 ?_ | refine L3.bW.2 ?_ | refine L3.qg.2 ?_ | refine L3.xj.2 ?_ | refine L3.vR.2 ?_ | refine L3.Y1.2 ?_ | refine L3.ui.2 ?_ | refine L3.gM.2 ?_ | refine L3.n9.2 ?_ | refine L3.Bk.2 ?_ | refine L3.E5.2 ?_ | refine L3.u7.2 ?_ | refine L3.l9.2 ?_ | refine L3.g9.2 ?_ | refine L3.d7.2 ?_ | refine L3.a9.2 ?_ | refine L3.R1.2 ?_ | refine L3.lI.2 ?_ | refine L3.C3.2 ?_ | refine L3.G5.2 ?_ | refine L3.oy.2 ?_ | refine L3.x6.2 ?_ | refine L3.md.2 ?_ | refine L3.qJ.2 ?_ | refine L3.sg.2 ?_ | refine L3.oH.2 ?_ | refine r_sOr.2 ?_ | refine r_sNot.2 ?_ | refine L3.iB.2 ?_ | refine L3.X2.2 ?_ | refine L3.dZ.2 ?_ | refine L3.ar.2 ?_ | refine L3.dS.2 ?_ | refine L3.D8.2 ?_ | refine L3.V5.2 ?_ | refine r_fCat.2 ?_ | refine L3.S8.2 ?_) | ((with_reducible refine L3.fZ.2 ?_);try dsimp only[L3.x4,Jy,Kl,JB,KE,List.replicate,KF,Ku,Nat.reduceAdd,Nat.reduceSub]) | ((with_reducible apply L3.l8);exact rfl) | ((with_reducible apply L3.i6);exact rfl) | ((with_reducible apply L3.dy);exact rfl) | ((with_reducible apply L3.mv);exact rfl) | ((with_reducible apply L3.c6);first | exact e_isin | exact rfl) | ((with_reducible refine And.intro (L3.B3 ?_) ?_);exact rfl) | ((with_reducible refine And.intro (L3.h8 ?_) ?_);exact rfl;try dsimp only[List.set_cons_zero,List.set_cons_succ]))
local macro_rules | `(tactic| walk_at "rd")=>`(tactic| (repeat walk_at "st"))
local macro_rules | `(tactic| walk_at "ty")=>`(tactic| first | refine L3.u9 L3.fw ?_ | refine L3.u9 L3.gm ?_ | refine L3.u9 L3.iU ?_ | refine L3.u9 L3.ip ?_ | refine L3.u9 L3.gj ?_ | refine L3.u9 L3.ko ?_ | refine L3.T3 L3.mS ?_ | refine L3.T3 L3.oE ?_ | refine L3.u9 L3.oD ?_ | refine L3.u9 L3.mC ?_ | refine L3.u9 L3.mP ?_ | refine L3.u9 L3.qf ?_ | refine L3.T3 L3.tq ?_ | refine L3.u9 L3.tF ?_ | refine L3.u9 L3.qc ?_ | refine L3.u9 L3.my ?_ | refine L3.u9 L3.pW ?_ | refine L3.u9 L3.tD ?_ | refine L3.T3 L3.tW ?_ | refine L3.u9 L3.pq ?_ | refine L3.u9 L3.kj ?_ | refine L3.u9 L3.oA ?_ | refine L3.u9 L3.qe ?_ | refine L3.u9 L3.pI ?_ | refine L3.T3 L3.mx ?_ | refine L3.T3 L3.jh ?_ | refine L3.u9 L3.kc ?_ | refine L3.u9 L3.nD ?_ | refine L3.u9 L3.ox ?_ | refine L3.u9 L3.kP ?_)
local macro_rules | `(tactic| walk_at "go")=>`(tactic| (repeat first | walk_at "st" | walk_at "ty"))
namespace L3
open PySem PySem.Spec PyProof.Rows L2
variable [Fam]
def fw:isT "NoneType" "tuple" = false:=by decide +kernel
def gm:isT "NoneType" "bool" = false:=by decide +kernel
def iU:isT "NoneType" "int" = false:=by decide +kernel
def ip:isT "NoneType" "str" = false:=by decide +kernel
def gj:isT "NoneType" "list" = false:=by decide +kernel
def ko:isT "bool" "tuple" = false:=by decide +kernel
def mS:isT "bool" "bool" = true:=by decide +kernel
def oE:isT "bool" "int" = true:=by decide +kernel
def oD:isT "bool" "str" = false:=by decide +kernel
def mC:isT "bool" "list" = false:=by decide +kernel
def mP:isT "int" "tuple" = false:=by decide +kernel
def qf:isT "int" "bool" = false:=by decide +kernel
def tq:isT "int" "int" = true:=by decide +kernel
def tF:isT "int" "str" = false:=by decide +kernel
def qc:isT "int" "list" = false:=by decide +kernel
def my:isT "str" "tuple" = false:=by decide +kernel
def pW:isT "str" "bool" = false:=by decide +kernel
def tD:isT "str" "int" = false:=by decide +kernel
def tW:isT "str" "str" = true:=by decide +kernel
def pq:isT "str" "list" = false:=by decide +kernel
def kj:isT "list" "tuple" = false:=by decide +kernel
def oA:isT "list" "bool" = false:=by decide +kernel
def qe:isT "list" "int" = false:=by decide +kernel
def pI:isT "list" "str" = false:=by decide +kernel
def mx:isT "list" "list" = true:=by decide +kernel
def jh:isT "tuple" "tuple" = true:=by decide +kernel
def kc:isT "tuple" "bool" = false:=by decide +kernel
def nD:isT "tuple" "int" = false:=by decide +kernel
def ox:isT "tuple" "str" = false:=by decide +kernel
def kP:isT "tuple" "list" = false:=by decide +kernel
section
variable {s N k:Nat}
end
variable [Fam]
def sz {n:Nat}(h:n<=100000):n<=NZ:=JM h (by rw[JQ];decide)
variable [Fam]
variable [Fam]
def J1 {bd:My->DE->Option DE}{body:DE->M Out}{Q:Out->FdS->Prop}(I:Nat->DE->FdS->Prop):∀(items:List My) (n:Nat) (E:DE) (F:FdS),I n E F ->
  (∀i d,items[i]? = some d->∀E F,I (n+i) E F->∃E1,bd d E=some E1/\wp (body E1 F) λo F'=>∃E2,o = .nx E2/\I (n+i+1) E2 F')->(∀E F,I (n+items.length) E F->Q (.nx E) F)->wp (M4 bd body items E F) Q
 | [],n,E,F,h,_,hq=>b7.2 (hq E F h)
 | d::r,n,E,F,h,st,hq=>by
  obtain⟨E1,e1,h1⟩:=st 0 d rfl E F h;rw[M4,e1,JC,b8];refine i4 h1 λo F1 ⟨E2,e2,h2⟩=>?_
  subst e2;refine J1 I r (n+1) E2 F1 h2 (λi d e E F hI=>?_) (λE F hI=>hq E F (by rw[JB];rw[show n+(r.length+1)=n+1+r.length by omega];exact hI));have:=st (i+1) d (by simpa using e) E F (by rw[show n+(i+1)=n+1+i by omega];exact hI);rw[show n+(i+1)+1=n+1+i+1 by omega]at this;exact this
def da {lo:Int}{n:Nat}:(af lo n).length=n:=by simp[af]
variable [Fam]
section
variable {F:FdS}{Q:My->FdS->Prop}{n:Nat}
def zN {d:My}(h:cG d=true):mW [d]=some (.str d.shown):=Jk h
def Bp {xs ys:List My}(h:xs.length+ys.length<=100000):Z8 (.list xs) (.list ys)=some (.list (xs++ys)):=Jk (sz h)
def Dh {xs ys:List My}(h:xs.length+ys.length<=100000):Z8 (.tuple xs) (.tuple ys)=some (.tuple (xs++ys)):=Jk (sz h)
abbrev W8:List My:=[.str "first",.str "last",.str "short",.str "front",.str "lastoff",.str "shortoff",.str "frontoff",.str "turns"]
def dN:List DV->M My:=Z1 ["rule"] (mRt (s2 (inD false) (sW 0) (sC (.tuple [.str "first",.str "last",.str "short",.str "front"]))))
def Ae {f g:My->My->Option My}{a b c:DE->M My}{E:DE}{F:FdS}{Q:My->FdS->Prop}:wp (sCh f g a b c E F) Q↔wp (a E F) λx F1=>wp (b E F1) λy F2=>oB (f x y) λz=>oB (Z6 z) λt=>cIf t (wp (c E F2) λw F3=>oB (g y w) λv=>Q v F3) (Q (.bool false) F2):=by
 unfold sCh;rw[b8];refine A7 λx F1=>?_;rw[b8];refine A7 λy F2=>?_
 simp only[A5,oB];refine exists_congr λz=>and_congr_right λ_=>exists_congr λt=>and_congr_right λ_=>?_
 cases t
 .simp only[Kc,KH,fI];exact b7
 .simp only[KL,fK];rw[b8];refine A7 λw F3=>?_;simp only[A5,b7]
def kb:My->Bool
 | .str x=>(([.str "first",.str "last",.str "short",.str "front"]:List My)).any λy=>My.eqv y (.str x)
 | _=>false
def in4 {x:Str}(h:SeqAt.shaped (.str x)=true):inD false (.str x) (.tuple [.str "first",.str "last",.str "short",.str "front"])=some (.bool (kb (.str x))):=by
 show(if SeqAt.shaped (.tuple [.str "first",.str "last",.str "short",.str "front"])=true/\SeqAt.shaped (.str x)=true then _ else none)=_;rw[Jk ⟨by decide +kernel,h⟩,Jo (by decide)];rfl
def Q7 {r:My}(h:r∈W8):∃x:Str,r = .str x/\SeqAt.shaped (.str x)=true:=by
 simp only[Jl,Lv,Nm]at h;rcases h with rfl | rfl | rfl | rfl | rfl | rfl | rfl | rfl <;> exact⟨_,rfl,by decide +kernel⟩
def qM {r:My}(h:r∈W8)(q:Q (.bool (kb r)) F):wp (dN [.dat r] F) Q:=by
 obtain⟨x,rfl,hx⟩:=Q7 h;unfold dN;walk_at "go";refine c6 (in4 hx) ?_;walk_at "go";exact q
end
section
variable {F:FdS}{Q:Out->FdS->Prop}{E:DE}{i:Nat}{ds:List My}
def aV {v:DE->M My}(he:av E i=some ds)(hl:ds.length<=100000)(q:wp (v E F) λx F1=>Q (.nx (E.set i (some (.own (ds++[x]))))) F1):wp (aC i v E F) Q:=by
 unfold aC;rw[b8];refine i4 q λx F1 h=>?_
 rw[he,JC,Jk (LS hl (by rw[JQ];decide))];exact b7.2 h
def zK {v:DE->M My}(he:av E i=some ds)(q:wp (v E F) λx F1=>∃zs,x = .list zs/\ds.length+zs.length<=100000/\Q (.nx (E.set i (some (.own (ds++zs))))) F1):wp (tQ i v E F) Q:=by
 unfold tQ;rw[b8];refine i4 q λx F1 h=>?_
 obtain⟨zs,rfl,hl,q⟩:=h;rw[he,JC];dsimp only;rw[Jk (sz hl)];exact b7.2 q
def oQ {a:DE->M My}{Q:List My->FdS->Prop}(q:wp (a E F) λx F1=>oB (jM x) λds=>Q (O9 0 ds) F1):wp (gI a E F) Q:=by
 unfold gI;rw[b8];refine i4 q λx F1 h=>?_
 obtain⟨ds,e,q⟩:=h;dsimp only;rw[e,JC];exact b7.2 q
def Ds {mi:DE->M (List My)}{k:Nat}{cap:List Nat}{bd:My->DE->Option DE}{mt:DE->M Bool}{me:DE->M My}{Q:List My->FdS->Prop}(h:wp (mi E F) λds F1=>ds.length<=NZ/\wp (Q6 bd mt me ds (lp k cap E) F1) λzs F2=>Q zs F2):wp (fLC mi k cap bd mt me E F) Q:=by
 unfold fLC;rw[b8];refine i4 h λds F1 h=>?_
 dsimp only;rw[Jk h.1,b8];exact i4 h.2 λzs F2 h=>b7.2 h
end
variable [Fam]
theorem iT {c:Nat}:∀{ds:List My},(∀d∈ds,cnt d<=c)->eP ds<=c*ds.length
 | [],_=>by simp[eP]
 | d::ds,h=>by
  have h1:=h d Jv;have h2:=iT (c:=c) (ds:=ds) λd hd=>h d (Jh _ hd)
  rw[eP,JB,Nat.mul_add,Nat.mul_one];omega
def Ez {xs:List My}{k:Int}(h:xs.length*k.toNat<=100000)(h1:-(2 ^ 63)<=k)(h2:k<2 ^ 63):dE (.tuple xs) (.int k)=some (.tuple (List.replicate k.toNat xs).flatten):=by
 unfold dE;exact Jk ⟨h1,h2,sz h⟩
variable [Fam]
variable [Fam]
variable [Fam]
variable [Fam]
section
variable {B:Int}
end
section
variable {F:FdS}{E:DE}
end
variable [Fam]
def iE {i:Int}(h0:-(2 ^ 62)<=i)(h1:i<2 ^ 62):T1 [.int i]=some (af 0 i.toNat):=Jk ⟨h0,h1⟩
def CG {n:Nat}(h:n<=100000):T1 [.int (n:Nat)]=some (af 0 n):=by
 have e:=iE (i:=(n:Int)) (by omega) (by omega);rwa [KN]at e
theorem rh:∀ns:List Int,Q4 (ns.map .int)=some ns
 | []=>rfl
 | n::ns=>by rw[Jy,Q4,rh ns];rfl
def CB {ns:List Int}:Y3 [.list (ns.map .int)]=some (.int ns.sum):=by
 simp only[Y3,rh,LD]
end L3
namespace L3
open L2
abbrev Pn:=Int×Int×Bool
def pAt (ps:List Pn)(i:Nat):Pn:=ps.getD i (0,0,false)
def X9 (k:Nat)(ps:List Pn):List Nat :=
 if k=1 then(List.range ps.length).reverse
 else if k=2 then(x8 ((List.range ps.length).map λi=>((pAt ps i).2.1,i))).map Prod.snd
 else if k=3 then(x8 ((List.range ps.length).map λi=>((pAt ps i).1,i))).map Prod.snd
 else List.range ps.length
def bI (b:Bool):Int:=if b then 1 else 0
def order (k:Nat)(kp:Bool)(ps:List Pn):List Nat :=
 if kp then(x8 ((X9 k ps).map λi=>(bI (!(pAt ps i).2.2),i))).map Prod.snd else X9 k ps
def V0 (k:Nat)(ps:List Pn)(i j:Nat):Prop :=
 if k=1 then j<i else if k=2 then(pAt ps i).2.1<(pAt ps j).2.1\/((pAt ps i).2.1=(pAt ps j).2.1/\i<j)
 else if k=3 then(pAt ps i).1<(pAt ps j).1\/((pAt ps i).1=(pAt ps j).1/\i<j) else i<j
def C2 (k:Nat)(kp:Bool)(ps:List Pn)(i j:Nat):Prop :=
 if kp then(bI (!(pAt ps i).2.2)<bI (!(pAt ps j).2.2)\/(bI (!(pAt ps i).2.2)=bI (!(pAt ps j).2.2)/\V0 k ps i j)) else V0 k ps i j
theorem vd {T:Nat->Nat->Prop}{p:Int×Nat}(tr:∀a b c,T a b->T b c->T a c):∀{l:List (Int×Nat)},l.Pairwise (λa b=>a.1<b.1\/(a.1=b.1/\T a.2 b.2))->(∀q∈l,T p.2 q.2)->(ao p l).Pairwise λa b=>a.1<b.1\/(a.1=b.1/\T a.2 b.2)
 | [],_,_=>by simp[ao]
 | q::r,h,hl=>by
  rw[JO]at h;rw[ao];split
  .rename_i hle;refine JO.2 ⟨λz hz=>?_,JO.2 h⟩;have hz':=hl z hz;have hle':p.1<=z.1:=by
    rcases Jl.1 hz with rfl | hz
    .exact hle
    .rcases h.1 z hz with e | e <;> omega
   rcases Mv hle' with e | e
   .exact .inl e
   .exact .inr ⟨e,hz'⟩
  .rename_i hgt;refine JO.2 ⟨λz hz=>?_,vd tr h.2 λz hz=>hl z (Jh _ hz)⟩;rcases Jl.1 ((Z0 p r).mem_iff.mp hz) with rfl | hz
   .exact .inl (by omega)
   .exact h.1 z hz
theorem nv {T:Nat->Nat->Prop}(tr:∀a b c,T a b->T b c->T a c):∀{l:List (Int×Nat)},l.Pairwise (λa b=>T a.2 b.2)->(x8 l).Pairwise λa b=>a.1<b.1\/(a.1=b.1/\T a.2 b.2)
 | [],_=>.nil
 | p::r,h=>by
  rw[JO]at h;exact vd tr (nv tr h.2) λq hq=>h.1 q ((C5 r).mem_iff.mp hq)
def hU {T:Nat->Nat->Prop}(tr:∀a b c,T a b->T b c->T a c)(g:Nat->Int){l:List Nat}(h:l.Pairwise T):((x8 (l.map λi=>(g i,i))).map Prod.snd).Pairwise λi j=>g i<g j\/(g i=g j/\T i j):=by
 have h1:(l.map λi=>(g i,i)).Pairwise (λa b=>T a.2 b.2):=by
  rw[KW];exact h
 have h2:=nv tr h1;rw[KW];refine h2.imp_of_mem λ{a b} ha hb hab=>?_
 have ea:a.1=g a.2:=by
  obtain⟨i,_,rfl⟩:=JS.1 ((C5 _).mem_iff.mp ha);rfl
 have eb:b.1=g b.2:=by
  obtain⟨i,_,rfl⟩:=JS.1 ((C5 _).mem_iff.mp hb);rfl
 rw[<-ea,<-eb];exact hab
def bq (g:Nat->Int)(l:List Nat):((x8 (l.map λi=>(g i,i))).map Prod.snd).Perm l:=by
 have:=(C5 (l.map λi=>(g i,i))).map Prod.snd;rw[JF]at this;exact this.trans (.of_eq ((JU λi _=>rfl).trans (List.map_id _)))
def V3 (n:Nat):(List.range n).Pairwise (· < ·):=by
 rw[KB];intro i j hi hj hij;simpa using hij
def W4 (k:Nat)(ps:List Pn):(X9 k ps).Perm (List.range ps.length):=by
 unfold X9;repeat' split
 .exact List.reverse_perm _
 .exact bq (λi=>(pAt ps i).2.1) _
 .exact bq (λi=>(pAt ps i).1) _
 .exact .refl _
def w6 (k:Nat)(kp:Bool)(ps:List Pn):(order k kp ps).Perm (List.range ps.length):=by
 unfold order;split
 .exact(bq (λi=>bI (!(pAt ps i).2.2)) _).trans (W4 k ps)
 .exact W4 k ps
def dQ (k:Nat)(ps:List Pn):(X9 k ps).Pairwise (V0 k ps):=by
 unfold X9 V0;repeat' split
 .rw[List.pairwise_reverse];exact V3 _
 .exact hU (T:=λa b=>a<b) (λa b c h1 h2=>Nat.lt_trans h1 h2) (λi=>(pAt ps i).2.1) (V3 _)
 .exact hU (T:=λa b=>a<b) (λa b c h1 h2=>Nat.lt_trans h1 h2) (λi=>(pAt ps i).1) (V3 _)
 .exact V3 _
def lW {k:Nat}{ps:List Pn}(a b c:Nat)(h1:V0 k ps a b)(h2:V0 k ps b c):V0 k ps a c:=by
 unfold V0 at *;repeat' split
 all_goals simp_all
 all_goals omega
def gg {k:Nat}{ps:List Pn}(a b:Nat)(h1:V0 k ps a b)(h2:V0 k ps b a):False:=by
 unfold V0 at *;split at h1
 .simp_all;omega
 .split at h1
  .simp_all;omega
  .split at h1
   .simp_all;omega
   .simp_all;omega
def dJ (k:Nat)(kp:Bool)(ps:List Pn):(order k kp ps).Pairwise (C2 k kp ps):=by
 unfold order C2;cases kp with
 | true =>
  simp only[KL];exact hU lW (λi=>bI (!(pAt ps i).2.2)) (dQ k ps)
 | false=>simpa using dQ k ps
def cT {k:Nat}{kp:Bool}{ps:List Pn}(a b:Nat)(h1:C2 k kp ps a b)(h2:C2 k kp ps b a):False:=by
 unfold C2 at *;cases kp with
 | true =>
  simp only[KL]at h1 h2;rcases h1 with h1 | ⟨e1,h1⟩ <;> rcases h2 with h2 | ⟨e2,h2⟩ <;> first | omega | exact gg a b h1 h2
 | false =>
  simp only[Kc,KH]at h1 h2;exact gg a b h1 h2
theorem nK {S:Nat->Nat->Prop}[DecidableRel S](as:∀a b,S a b->S b a->False):∀{L:List Nat} {h i:Nat},L.Pairwise S->L.Nodup->i∈L->(i∈L.take h↔(L.filter λj=>decide (j≠i/\S j i)).length<h)
 | [],h,i,_,_,hi=>by simp at hi
 | a::L,h,i,hp,hn,hi=>by
  rw[JO]at hp;rw[Kt]at hn;cases h with
  | zero=>simp
  | succ h =>
   rw[Ml,Jl];by_cases e:i=a
   .subst e;have z:(List.filter (λj=>decide (j≠i/\S j i)) (i::L))=[]:=by
     rw[List.filter_eq_nil_iff];intro j hj;simp only[Lg];rintro ⟨h1,h2⟩;rcases Jl.1 hj with rfl | hj
     .exact h1 rfl
     .exact as _ _ (hp.1 j hj) h2
    rw[z];simp
   .have hi':i∈L:=(Jl.1 hi).resolve_left e;have c:decide (a≠i/\S a i)=true:=Kn ⟨λz=>e z.symm,hp.1 i hi'⟩;rw[Lr (by simpa using c),JB,nK as hp.2 hn.2 hi'];constructor
    .rintro (z | z)
     .exact absurd z e
     .omega
    .intro z;exact .inr (by omega)
def j5 (h k:Nat)(kp:Bool)(ps:List Pn):List Nat:=(List.range ps.length).filter λi=>decide (i∈(order k kp ps).take h)
def J8 (n:Nat):(List.range n).Nodup:=by
 rw[Kq];exact(V3 n).imp λh=>JG h
def aX (k:Nat)(kp:Bool)(ps:List Pn):(order k kp ps).Nodup:=(w6 k kp ps).nodup_iff.mpr (J8 _)
def iA {l m:List Nat}(h1:l.Nodup)(h2:m.Nodup)(h:∀x,x∈l↔x∈m):l.Perm m:=(List.perm_ext_iff_of_nodup h1 h2).2 h
def gG (h k:Nat)(kp:Bool)(ps:List Pn):(j5 h k kp ps).Perm ((order k kp ps).take h):=by
 refine iA ((J8 _).sublist La) ((aX k kp ps).sublist (List.take_sublist _ _)) λx=>?_
 unfold j5;rw[JP,Lg];exact⟨λz=>z.2,λz=>⟨(w6 k kp ps).mem_iff.mp (Lo z),z⟩⟩
def kZ (h k:Nat)(kp:Bool)(ps:List Pn):(j5 h k kp ps).length=min h ps.length:=by
 rw[(gG h k kp ps).length_eq,Ke,(w6 k kp ps).length_eq,JD]
def vN (h k:Nat)(kp:Bool)(ps:List Pn):(j5 h k kp ps).Pairwise (· < ·):=(V3 _).sublist La
def kD (h k:Nat)(kp:Bool)(ps:List Pn):jQ (((order k kp ps).take h).map Int.ofNat)=(j5 h k kp ps).map Int.ofNat:=by
 refine eR ((cx _).trans ((gG h k kp ps).map Int.ofNat).symm) (gT _) ?_;rw[KW];exact(vN h k kp ps).imp λ{a b} h=>by simp only[Int.ofNat_eq_natCast];omega
instance ahead_dec (k:Nat) (ps:List Pn):DecidableRel (V0 k ps):=λi j=>by unfold V0;infer_instance
instance sooner_dec (k:Nat) (kp:Bool) (ps:List Pn):DecidableRel (C2 k kp ps):=λi j=>by unfold C2;infer_instance
def aH (h k:Nat)(kp:Bool)(ps:List Pn):j5 h k kp ps=(List.range ps.length).filter λi=>decide (((List.range ps.length).filter λj=>decide (j≠i/\C2 k kp ps j i)).length<h):=by
 unfold j5;refine MM λi hi=>?_
 have hm:=(w6 k kp ps).mem_iff.mpr hi;have e:=nK (S:=C2 k kp ps) cT (h:=h) (dJ k kp ps) (aX k kp ps) hm;have e2:=((w6 k kp ps).filter λj=>decide (j≠i/\C2 k kp ps j i)).length_eq;rw[<-e2];exact KJ.2 e
end L3
namespace L3
open PySem PySem.Spec PyProof.Rows L2
abbrev pnD (p:Pn):My:=.tuple [.int p.1,.int p.2.1,.bool p.2.2]
def j3 (l:List Nat):List My:=l.map λi:Nat=>My.int (i:Int)
def kOf:My->Nat
 | .str x=>if x = "last" \/ x = "lastoff" then 1 else if x = "short" \/ x = "shortoff" then 2 else if x = "front" \/ x = "frontoff" then 3 else 0
 | _=>0
def C7 (l:List Nat):(j3 l).length=l.length:=by simp[j3]
def vg (l:List Nat):(j3 l).reverse=j3 l.reverse:=by simp[j3]
def rT (n:Nat):af 0 n=j3 (List.range n):=by
 unfold af j3;exact JU λi _=>by congr 1;omega
theorem jx:∀(l:List Int),(l.map My.int).mapM lT? = some l
 | []=>rfl
 | i::l=>by rw[Jy,Ll,jx l];rfl
theorem gN:∀(l:List Bool),(l.map My.bool).mapM fJ? = some (l.map bI)
 | []=>rfl
 | i::l=>by rw[Jy,Ll,gN l];rfl
def pY (l:List Int):fR (l.map .int)=some l:=by unfold fR;rw[jx]
def mF (l:List Bool):fR (l.map .bool)=some (l.map bI):=by
 unfold fR;cases l with
 | nil=>rfl
 | cons b l=>exact gN (b::l)
theorem ak {α β γ:Type}(f:α->β)(g:α->γ):∀l:List α,(l.map f).zip (l.map g)=l.map λx=>(f x,g x)
 | []=>rfl
 | x::l=>by rw[Jy,Jy,List.zip_cons_cons,ak f g l];rfl
def gZ (g:Nat->Int)(l:List Nat):((x8 ((l.map g).zip (j3 l))).map Prod.snd)=j3 ((x8 (l.map λi=>(g i,i))).map Prod.snd):=by
 have e:(l.map g).zip (j3 l)=(l.map λi=>(g i,i)).map λq=>(q.1,(λi:Nat=>My.int (i:Int)) q.2):=by
  rw[JF];exact ak g _ l
 rw[e,cQ (λi:Nat=>My.int (i:Int)),JF];unfold j3;rw[JF];rfl
section
variable [Fam]
def rP {r:My}(h:r∈W8):inD false r (.tuple [.str "last",.str "lastoff"])=some (.bool (decide (kOf r=1))):=by
 obtain⟨x,rfl,hx⟩:=Q7 h;show(if SeqAt.shaped (.tuple [.str "last",.str "lastoff"])=true/\SeqAt.shaped (.str x)=true then _ else none)=_;rw[Jk ⟨by decide +kernel,hx⟩,Jo (by decide)];simp only[Jl,Lv,Nm,My.str.injEq]at h;rcases h with rfl | rfl | rfl | rfl | rfl | rfl | rfl | rfl <;> exact Kk (λb=>some (My.bool b)) (by decide +kernel)
def mY {r:My}(h:r∈W8):inD false r (.tuple [.str "short",.str "shortoff"])=some (.bool (decide (kOf r=2))):=by
 obtain⟨x,rfl,hx⟩:=Q7 h;show(if SeqAt.shaped (.tuple [.str "short",.str "shortoff"])=true/\SeqAt.shaped (.str x)=true then _ else none)=_;rw[Jk ⟨by decide +kernel,hx⟩,Jo (by decide)];simp only[Jl,Lv,Nm,My.str.injEq]at h;rcases h with rfl | rfl | rfl | rfl | rfl | rfl | rfl | rfl <;> exact Kk (λb=>some (My.bool b)) (by decide +kernel)
def nF {r:My}(h:r∈W8):inD false r (.tuple [.str "front",.str "frontoff"])=some (.bool (decide (kOf r=3))):=by
 obtain⟨x,rfl,hx⟩:=Q7 h;show(if SeqAt.shaped (.tuple [.str "front",.str "frontoff"])=true/\SeqAt.shaped (.str x)=true then _ else none)=_;rw[Jk ⟨by decide +kernel,hx⟩,Jo (by decide)];simp only[Jl,Lv,Nm,My.str.injEq]at h;rcases h with rfl | rfl | rfl | rfl | rfl | rfl | rfl | rfl <;> exact Kk (λb=>some (My.bool b)) (by decide +kernel)
end
def AA {ps:List Pn}{i:Nat}(h:i<ps.length):atI (ps.map pnD) (i:Int)=some (pnD (pAt ps i)):=by
 refine W1 ?_;rw[Js,Ji h];unfold pAt;rw[Jr,Ji h];rfl
section
variable [Fam]
def bD:List DV->M My:=Z1 ["house","stand"] (mRt (sN zx (b9 (s2 ixD (sW 0) (sC (.int 0))) (b9 (sN U1 (b9 (sW 1) i5)) i5))))
def Fo:List DV->M My:=Z1 ["rule","stand","places"] (mSq (A8 2 (lE (b9 (sN U1 (b9 (sW 1) i5)) i5)))
  (mSq (mIf (uB (s2 (inD false) (sW 0) (sC (.tuple [.str "last",.str "lastoff"])))) (mRt (s1 wI (sW 2))) mNx)
  (mSq (mIf (uB (s2 (inD false) (sW 0) (sC (.tuple [.str "short",.str "shortoff"])))) (mRt (sSK (b9 (sV 2) i5) [1] (s2 ixD (s2 ixD (sW 1) (sW 0)) (sC (.int 1))))) mNx)
  (mSq (mIf (uB (s2 (inD false) (sW 0) (sC (.tuple [.str "front",.str "frontoff"])))) (mRt (sSK (b9 (sV 2) i5) [1] (s2 ixD (s2 ixD (sW 1) (sW 0)) (sC (.int 0))))) mNx)
  (mRt (sV 2))))))
def FD:List DV->M My:=Z1 ["house","stand","hands","places","rule","order"] (mSq (bR (P9 3 (j8 (bN 2) (j8 (bN 3) (j8 (bN 4) S7)))) (sV 0))
  (mSq (A8 5 (v7 Fo (vD (sV 4) (vD (sV 1) E9))))
  (mSq (mIf (uT (v7 dN (vD (sV 4) E9))) (A8 5 (sSK (b9 (sV 5) i5) [1] (zr (s2 ixD (s2 ixD (sW 1) (sW 0)) (sC (.int 2)))))) mNx)
  (mRt (sN K6 (b9 (sN ax (b9 (kN (sW 5) oNo (oI (sV 2))) i5)) i5))))))
theorem ed {me:DE->M My}{E0:DE}{g:Nat->My}:∀(l:List Nat) (F:FdS),(∀i∈l,me (some (.dat (.int (i:Int)))::E0) F=some (g i,F))->gb me E0 (j3 l) F=some (l.map g,F)
 | [],F,_=>rfl
 | d::ds,F,h=>by
  show(me (some (.dat (.int (d:Int)))::E0) F).bind _=_;rw[h d Jv,JC];show(gb me E0 (j3 ds) F).bind _=_;rw[ed ds F λx hx=>h x (Jh _ hx)];rfl
variable {F:FdS}{Q:My->FdS->Prop}
def Dn {ma:DE->M (List My)}{cap:List Nat}{me:DE->M My}{E:DE}(q:wp (ma E F) λxs F1=>∃ds kd ns,xs=[.list ds]/\ds.length<64/\gb me (cap.map λj=>(E[j]?).join) ds F1=some (kd,F1)/\fR kd=some ns/\Q (.list ((x8 (ns.zip ds)).map Prod.snd)) F1):wp (sSK ma cap me E F) Q:=by
 unfold sSK;rw[b8];refine i4 q λxs F1 ⟨ds,kd,ns,e,h64,e2,e3,q⟩=>?_
 subst e;dsimp only;rw[Jk h64,e2,JC,e3,JC];exact b7.2 q
def xg {ma:DE->M (List My)}{cap:List Nat}{me:DE->M My}{E:DE}{g:Nat->Int}(q:wp (ma E F) λxs F1=>∃l:List Nat,xs=[.list (j3 l)]/\l.length<64/\(∀i∈l,me (some (.dat (.int (i:Int)))::cap.map λj=>(E[j]?).join) F1=some (.int (g i),F1))/\Q (.list (j3 ((x8 (l.map λi=>(g i,i))).map Prod.snd))) F1):wp (sSK ma cap me E F) Q:=by
 refine Dn (i4 q λxs F1 ⟨l,e,h1,h2,h3⟩=>⟨j3 l,l.map λi=>.int (g i),l.map g,e,by rw[C7];exact h1,ed l F1 h2,?_,by rw[gZ];exact h3⟩);rw[<-pY (l.map g),JF];rfl
def yF {ma:DE->M (List My)}{cap:List Nat}{me:DE->M My}{E:DE}{g:Nat->Bool}(q:wp (ma E F) λxs F1=>∃l:List Nat,xs=[.list (j3 l)]/\l.length<64/\(∀i∈l,me (some (.dat (.int (i:Int)))::cap.map λj=>(E[j]?).join) F1=some (.bool (g i),F1))/\Q (.list (j3 ((x8 (l.map λi=>(bI (g i),i))).map Prod.snd))) F1):wp (sSK ma cap me E F) Q:=by
 refine Dn (i4 q λxs F1 ⟨l,e,h1,h2,h3⟩=>⟨j3 l,l.map λi=>.bool (g i),l.map λi=>bI (g i),e,by rw[C7];exact h1,ed l F1 h2,?_,by rw[gZ λi=>bI (g i)];exact h3⟩);have:=mF (l.map g);rw[JF,JF]at this;exact this
def yb {a:DE->M (List My)}{E:DE}(q:wp (a E F) λx F1=>oB (T1 x) λds=>ds.length<=1000/\Q (.list ds) F1):wp (lE a E F) Q:=by
 unfold lE;rw[b8];refine i4 q λx F1 ⟨ds,e,h1,q⟩=>?_
 rw[e,JC,Jk h1];exact b7.2 q
def wN {ps:List Pn}{i:Nat}{j:Int}(h:i<ps.length):s2 ixD (s2 ixD (sW 1) (sW 0)) (sC (.int j)) [some (.dat (.int (i:Int))),some (.dat (.tuple (ps.map pnD)))] F=(ixD (pnD (pAt ps i)) (.int j)).bind λz=>some (z,F):=by
 show(((atI (ps.map pnD) (i:Int)).bind λz=>some (z,F)).bind λp=>(ixD p.1 (.int j)).bind λz=>some (z,p.2))=_;rw[AA h];rfl
def BB {ps:List Pn}{i:Nat}(h:i<ps.length):zr (s2 ixD (s2 ixD (sW 1) (sW 0)) (sC (.int 2))) [some (.dat (.int (i:Int))),some (.dat (.tuple (ps.map pnD)))] F=some (.bool (!(pAt ps i).2.2),F):=by
 unfold zr;rw[wN h];rfl
def ze {r:My}{ps:List Pn}(hr:r∈W8)(hl:ps.length<64)(q:Q (.list (j3 (X9 (kOf r) ps))) F):wp (Fo [.dat r,.dat (.tuple (ps.map pnD))] F) Q:=by
 unfold Fo;walk_at "go";refine yb ?_;refine a9.2 (E5.2 (a9.2 (g9.2 (d7.2 ?_))));refine c6 cR (d7.2 ?_);rw[Jf];refine c6 (CG (by omega)) ⟨by rw[da];omega,?_⟩;rw[rT];have hperm:∀i∈List.range ps.length,i<ps.length:=λi hi=>JN.1 hi
 walk_at "go";refine c6 (rP hr) ?_;unfold X9 at q;refine c6 rfl (P6 (λh=>?_) λh=>?_)
 .rw[Jk (JT h)]at q;walk_at "go";rw[vg];exact q
 rw[Jo (Kj h)]at q;walk_at "go";refine c6 (mY hr) ?_;refine c6 rfl (P6 (λh=>?_) λh=>?_)
 .rw[Jk (JT h)]at q;walk_at "go";refine xg (g:=λi=>(pAt ps i).2.1) ?_;walk_at "go";refine⟨_,rfl,by rw[JD];exact hl,λi hi=>?_,?_⟩
  .exact wN (hperm i hi)
  .walk_at "go";exact q
 rw[Jo (Kj h)]at q;walk_at "go";refine c6 (nF hr) ?_;refine c6 rfl (P6 (λh=>?_) λh=>?_)
 .rw[Jk (JT h)]at q;walk_at "go";refine xg (g:=λi=>(pAt ps i).1) ?_;walk_at "go";refine⟨_,rfl,by rw[JD];exact hl,λi hi=>?_,?_⟩
  .exact wN (hperm i hi)
  .walk_at "go";exact q
 rw[Jo (Kj h)]at q;walk_at "go";exact q
def cV {α:Type}{l:List α}{h:Nat}:cM l none (some (h:Int))=l.take h:=by
 unfold cM;simp only[HT.sIx_none,HT.sIx_nat,List.drop_zero,NF];by_cases hh:h<=l.length
 .rw[NL hh]
 .rw[NH (by omega),Kw (by omega),Kw (by omega)]
def sr (l:List Nat)(n:Nat):(j3 l).take n=j3 (l.take n):=by unfold j3;rw[List.map_take]
theorem iO:∀l:List Nat,Q4 (j3 l)=some (l.map Int.ofNat)
 | []=>rfl
 | i::l=>by
  show Q4 (.int (i:Int)::j3 l)=_;rw[Q4,iO l];rfl
def xn {r pl:My}{ps:List Pn}{h:Nat}(hr:r∈W8)(hl:ps.length<64)(q:Q (.tuple (j3 (j5 h (kOf r) (kb r) ps))) F):wp (FD [.dat (.tuple [.int h,pl,r]),.dat (.tuple (ps.map pnD))] F) Q:=by
 unfold FD;walk_at "go";refine ze hr hl ?_;have hlen:(X9 (kOf r) ps).length=ps.length:=by rw[(W4 (kOf r) ps).length_eq,JD]
 have hperm:∀i∈X9 (kOf r) ps,i<ps.length:=λi hi=>JN.1 ((W4 (kOf r) ps).mem_iff.mp hi)
 have hol:(order (kOf r) (kb r) ps).length=ps.length:=by rw[(w6 (kOf r) (kb r) ps).length_eq,JD]
 have fin:∀E:DE,E=[some (.dat (.tuple [.int h,pl,r])),some (.dat (.tuple (ps.map pnD))),some (.dat (.int h)),some (.dat pl),some (.dat r),some (.dat (.list (j3 (order (kOf r) (kb r) ps))))]->wp (mRt (sN K6 (b9 (sN ax (b9 (kN (sW 5) oNo (oI (sV 2))) i5)) i5)) E F) (xf Q):=by
  rintro E rfl;refine aT.2 (E5.2 (a9.2 (E5.2 (a9.2 (md.2 (g9.2 (i6 rfl (qJ.2 (sg.2 (l9.2 (l8 rfl (c6 xu (c6 xi (d7.2 ?_))))))))))))));rw[cV,sr];have e:ax [.list (j3 ((order (kOf r) (kb r) ps).take h))]=some (.list (j3 (j5 h (kOf r) (kb r) ps))):=by
   simp only[ax,iO];rw[Jk (by rw[Jf,Ke,hol];omega),kD,JF];rfl
  refine c6 e (d7.2 (c6 oN ?_));exact q
 refine⟨h8 rfl,h9 (i9.2 (W2.2 (ui.2 (x6.2 ?_))))⟩;walk_at "go";refine qM hr ?_;refine c6 rfl (P6 (λe=>?_) λe=>?_)
 .refine l7.2 (yF (g:=λi=>!(pAt ps i).2.2) ?_);walk_at "go";refine⟨_,rfl,by rw[hlen];exact hl,λi hi=>?_,h8 rfl,?_⟩
  .exact BB (hperm i hi)
  .refine fin _ ?_;unfold order;rw[Jk e];rfl
 .refine bW.2 (h9 ?_);refine fin _ ?_;unfold order;rw[Jo (by rw[e];simp)];rfl
def BE {r pl:My}{ps:List Pn}{h:Nat}(q:Q (.int (min h ps.length:Nat)) F):wp (bD [.dat (.tuple [.int h,pl,r]),.dat (.tuple (ps.map pnD))] F) Q:=by
 unfold bD;walk_at "go";rw[Jf];have e:(if (ps.length:Int)<(h:Int) then(ps.length:Int) else(h:Int))=((min h ps.length:Nat):Int):=by split <;> omega
 rw[e];exact q
end
variable [Fam]
def Aa {a b c:Bool}(h:(if true=true then !(My.bool a).eqv (My.bool b) else(My.bool a).eqv (My.bool b))=c):c = !decide (a=b):=by
 subst h;cases a <;> cases b <;> rfl
section
variable {F:FdS}{Q:My->FdS->Prop}
def gQ {l:List Nat}{i:Nat}{d:My}(h:(j3 l)[i]? = some d):∃k,l[i]? = some k/\d = .int (k:Int):=by
 unfold j3 at h;rw[Js]at h;obtain⟨k,e,rfl⟩:=JJ.1 h;exact⟨k,e,rfl⟩
end
variable [Fam]
def EK {i:Int}{n:Nat}(h0:-100000<=i)(h1:i<=100000):Gd n 1 0 (.int i):=BR (uj (by omega))
def gy {l:List Nat}(h:∀i∈l,i<=1000):Gd 0 (1+l.length) 1 (.tuple (j3 l)):=by
 refine Gd.tup (M:=1) (λx hx=>?_) ?_
 .obtain⟨p,hp,rfl⟩:=JS.1 hx;have:=h p hp;exact EK (by omega) (by omega)
 .have:=iT (c:=1) (ds:=j3 l) λd hd=>by
   obtain⟨p,hp,rfl⟩:=JS.1 hd;simp[cnt]
  rw[C7]at this;omega
def mr {h k:Nat}{ps:List Pn}(hp:∀p∈ps,p.2.2=false):j5 h k true ps=j5 h k false ps:=by
 have hb:∀i,(pAt ps i).2.2=false:=λi=>by
  unfold pAt;rw[Jr];cases e:ps[i]? with
  | none=>rfl
  | some p=>exact hp p (JW e)
 rw[aH,aH];have e:∀i j,C2 k true ps i j↔C2 k false ps i j:=λi j=>by
  unfold C2;simp[hb i,hb j]
 refine MM λi _=>?_
 rw[KJ];have:((List.range ps.length).filter λj=>decide (j≠i/\C2 k true ps j i))=(List.range ps.length).filter λj=>decide (j≠i/\C2 k false ps j i):=MM λj _=>by
  rw[KJ,e]
 rw[this]
end L3
namespace L3
open L2
section
def fe (kp:Bool)(p:Pn):Pn:=(p.1,p.2.1-1,kp)
def T6 (P:List Nat)(ps:List Pn)(i:Nat):Bool:=decide (i∈P)&&decide ((pAt ps i).2.1<=1)
def P4 (P:List Nat)(kp:Bool)(ps:List Pn)(i:Nat):Pn:=if i∈P then fe kp (pAt ps i) else pAt ps i
def Z4 (P:List Nat)(ps:List Pn):List Nat:=(List.range ps.length).filter λi=>!decide (i∈P)
def N7 (P:List Nat)(ps:List Pn):List Nat:=P.filter λi=>!decide ((pAt ps i).2.1<=1)
def N2 (P:List Nat)(ps:List Pn):List Nat:=P.filter λi=>decide ((pAt ps i).2.1<=1)
def B5 (tn:Bool)(P:List Nat)(ps:List Pn):List Nat:=if tn then Z4 P ps++N7 P ps else(List.range ps.length).filter λi=>!T6 P ps i
theorem cc {α:Type}{R:α->α->Prop}(as:∀a b,R a b->R b a->False):∀{l₁ l₂:List α},l₁.Perm l₂->l₁.Pairwise R->l₂.Pairwise R->l₁=l₂
 | [],l₂,p,_,_=>p.nil_eq
 | a::r,[],p,_,_=>by have:=p.length_eq;simp at this
 | a::r,b::t,p,h1,h2=>by
  rw[JO]at h1 h2;have ab:a=b:=by
   rcases Jl.1 (p.mem_iff.1 (Jv (a:=a) (l:=r))) with e | e
   .exact e
   .rcases Jl.1 (p.mem_iff.2 (Jv (a:=b) (l:=t))) with e2 | e2
    .exact e2.symm
    .exact(as _ _ (h2.1 a e) (h1.1 b e2)).elim
  subst ab;rw[cc as (p.cons_inv) h1.2 h2.2]
theorem nZ {α:Type}{p:Int × α}:∀{l:List (Int × α)},l.Pairwise (λa b=>a.1<b.1)->(∀q∈l,p.1≠q.1)->(ao p l).Pairwise λa b=>a.1<b.1
 | [],_,_=>by simp[ao]
 | q::r,h,hl=>by
  rw[JO]at h;rw[ao];split
  .rename_i hle;have hq:=hl q Jv;refine JO.2 ⟨λz hz=>?_,JO.2 h⟩;rcases Jl.1 hz with rfl | hz
   .omega
   .have:=h.1 z hz;omega
  .rename_i hgt;refine JO.2 ⟨λz hz=>?_,nZ h.2 λz hz=>hl z (Jh _ hz)⟩;rcases Jl.1 ((Z0 p r).mem_iff.mp hz) with rfl | hz
   .omega
   .exact h.1 z hz
theorem ij {α:Type}:∀{l:List (Int × α)},(l.map Prod.fst).Nodup->(x8 l).Pairwise λa b=>a.1<b.1
 | [],_=>.nil
 | p::r,h=>by
  rw[Jy,Kt]at h;exact nZ (ij h.2) λq hq e=>h.1 (e▸KZ ((C5 r).mem_iff.mp hq))
def sU {α:Type}{l m:List (Int × α)}(hp:m.Perm l)(hs:m.Pairwise λa b=>a.1<b.1):x8 l=m:=by
 have nd:(l.map Prod.fst).Nodup:=by
  refine(hp.map Prod.fst).nodup_iff.mp ?_;rw[Kq,KW];exact hs.imp λh=>by omega
 exact cc (R:=λa b:Int × α=>a.1<b.1) (λa b h1 h2=>by omega) ((C5 l).trans hp.symm) (ij nd) hs
def Q9 {h k:Nat}{kp:Bool}{ps:List Pn}:∀i∈j5 h k kp ps,i<ps.length:=λi hi=>JN.1 (JP.1 hi).1
def F9 {h k:Nat}{kp:Bool}{ps:List Pn}:(j5 h k kp ps).Nodup:=(J8 _).sublist La
def eJ {P:List Nat}{ps:List Pn}(hs:∀i∈P,i<ps.length)(hn:P.Nodup):(Z4 P ps++N7 P ps).Perm (B5 false P ps):=by
 unfold B5;rw[Jo (by simp)];refine iA ?_ ((J8 _).sublist La) λx=>?_
 .rw[KO];refine⟨(J8 _).sublist La,hn.sublist La,λa ha b hb e=>?_⟩;subst e;have h1:=(JP.1 ha).2;have h2:=(JP.1 hb).1;simp[h2]at h1
 .unfold Z4 N7 T6;simp only[Jj,JP,JN,Bool.not_eq_true',decide_eq_false_iff_not,Bool.and_eq_false_iff];constructor
  .rintro (⟨h1,h2⟩ | ⟨h1,h2⟩)
   .exact⟨h1,.inl h2⟩
   .exact⟨hs x h1,.inr h2⟩
  .rintro ⟨h1,h2⟩;by_cases hx:x∈P
   .exact .inr ⟨hx,h2.resolve_left λz=>z hx⟩
   .exact .inl ⟨h1,hx⟩
def yO (P:List Nat)(ps:List Pn):(B5 false P ps).Pairwise (· < ·):=by
 unfold B5;rw[Jo (by simp)];exact(V3 _).sublist La
def aS {tn:Bool}{P:List Nat}{ps:List Pn}(hs:∀i∈P,i<ps.length)(hn:P.Nodup):(B5 tn P ps).Perm (B5 false P ps):=by
 cases tn with
 | false=>exact .refl _
 | true =>
  have:=eJ hs hn;unfold B5 at this ⊢;simpa using this
def after (h k:Nat)(kp tn:Bool)(ps:List Pn):List Pn:=(B5 tn (j5 h k kp ps) ps).map (P4 (j5 h k kp ps) kp ps)
def k7 (pl:Option Nat)(n m:Nat):Nat:=match pl with
 | some v=>min m (v-n)
 | none=>m
def i3 (pl:Option Nat)(ps:List Pn)(bt:List (Int×Int)):List Pn:=ps++(bt.take (k7 pl ps.length bt.length)).map λc=>(c.1,c.2,false)
def V2 (pl:Option Nat)(ps:List Pn)(bt:List (Int×Int)):(i3 pl ps bt).length=ps.length+k7 pl ps.length bt.length:=by
 unfold i3;rw[JX,Jf,Ke];unfold k7;split <;> omega
end
section
def sP {α β:Type}(d:α)(f:α->β):∀l:List α,(List.range l.length).map (λi=>f (l.getD i d))=l.map f:=λl=>by
 apply NI
 .simp
 .intro i h1 h2;simp only[Jf,JD]at h1;simp[h1]
def gP {tn:Bool}{P:List Nat}{ps:List Pn}(hs:∀i∈P,i<ps.length)(hn:P.Nodup){i:Nat}(h:i∈B5 tn P ps):i<ps.length/\T6 P ps i=false:=by
 have:=(aS (tn:=tn) hs hn).mem_iff.mp h;unfold B5 at this;rw[Jo (by simp)]at this;have h2:=JP.1 this;exact⟨JN.1 h2.1,by simpa using h2.2⟩
def eG {h k:Nat}{kp tn:Bool}{ps:List Pn}:(after h k kp tn ps).length<=ps.length:=by
 unfold after;rw[Jf,(aS (tn:=tn) (Q9 (h:=h) (k:=k) (kp:=kp) (ps:=ps)) F9).length_eq];have h2:=Ky (λi=>!T6 (j5 h k kp ps) ps i) (List.range ps.length);unfold B5;rw[Jo (by simp)];rw[JD]at h2;exact h2
abbrev Bt:=List (Int×Int)
def C1 (h k:Nat)(kp tn:Bool)(pl:Option Nat)(ps:List Pn)(bt:Bt):List Pn:=after h k kp tn (i3 pl ps bt)
def P3 (f:List Pn->Bt->List Pn)(ps:List Pn)(way:List Bt)(i:Nat):List Pn:=(way.take i).foldl f ps
def f7 (way:List Bt)(i:Nat):Bt:=way.getD i []
def U5 {f:List Pn->Bt->List Pn}{ps:List Pn}{way:List Bt}:P3 f ps way 0=ps:=by simp[P3]
def Y2 {f:List Pn->Bt->List Pn}{ps:List Pn}{way:List Bt}{i:Nat}(h:i<way.length):P3 f ps way (i+1)=f (P3 f ps way i) (f7 way i):=by
 unfold P3 f7;have e:way.getD i []=way[i]:=by simp[h]
 rw[LY,Ji h,MN,e];rfl
def C0 (way:List Bt):Nat:=(way.map List.length).sum
def N8 {way:List Bt}{i:Nat}(h:i<way.length):C0 (way.take (i+1))=C0 (way.take i)+(f7 way i).length:=by
 unfold C0 f7;have e:way.getD i []=way[i]:=by simp[h]
 rw[LY,Ji h,JE,Nh,e];rfl
def lg (way:List Bt)(i:Nat):C0 (way.take i)<=C0 way:=by
 conv=>rhs;rw[<-List.take_append_drop i way]
 unfold C0;rw[JE,Nh];omega
theorem nY {h k:Nat}{kp tn:Bool}{pl:Option Nat}{ps:List Pn}{way:List Bt}:∀{i:Nat},i<=way.length->(P3 (C1 h k kp tn pl) ps way i).length<=ps.length+C0 (way.take i)
 | 0,_=>by rw[U5];omega
 | i+1,hi=>by
  have ih:=nY (h:=h) (k:=k) (kp:=kp) (tn:=tn) (pl:=pl) (ps:=ps) (way:=way) (i:=i) (by omega);rw[Y2 (by omega),N8 (by omega)];unfold C1;refine JM eG ?_;rw[V2];have:k7 pl (P3 (C1 h k kp tn pl) ps way i).length (f7 way i).length<=(f7 way i).length:=by unfold k7;split <;> omega
  unfold C1 at ih this;omega
def bg {h k:Nat}{kp tn:Bool}{pl:Option Nat}{ps:List Pn}{way:List Bt}(hl:ps.length+C0 way<64){i:Nat}(hi:i<way.length):(P3 (C1 h k kp tn pl) ps way i).length+(f7 way i).length<64:=by
 have h1:=nY (h:=h) (k:=k) (kp:=kp) (tn:=tn) (pl:=pl) (ps:=ps) (way:=way) (i:=i) (by omega);have h2:=N8 hi;have h3:=lg way (i+1);omega
end
section
def Ed (pl:Option Nat)(x:Nat):Nat:=match pl with
 | some v=>min x v
 | none=>x
def ou (pl:Option Nat)(n:Nat):Prop:=∀v,pl=some v->n<=v
def vm {pl:Option Nat}{n m:Nat}(h:ou pl n):n+k7 pl n m=Ed pl (n+m):=by
 cases pl with
 | none=>rfl
 | some v =>
  have:=h v rfl;show n+min m (v-n)=min (n+m) v;omega
def ye {pl:Option Nat}{x:Nat}:ou pl (Ed pl x):=λv hv=>by
 subst hv;exact Nat.min_le_right _ _
def ou.le {pl:Option Nat}{n m:Nat}(h:ou pl n)(hm:m<=n):ou pl m:=λv hv=>JM hm (h v hv)
theorem jD {h k:Nat}{kp tn:Bool}{pl:Option Nat}{ps:List Pn}{way:List Bt}(h0:ou pl ps.length):∀{i:Nat},i<=way.length->ou pl (P3 (C1 h k kp tn pl) ps way i).length
 | 0,_=>by rw[U5];exact h0
 | i+1,hi=>by
  have ih:=jD (h:=h) (k:=k) (kp:=kp) (tn:=tn) (way:=way) h0 (i:=i) (by omega);rw[Y2 (by omega)];unfold C1 at ih ⊢;refine ou.le ?_ eG;rw[V2,vm ih];exact ye
end
section
end
section
end
section
section
variable {h c:Nat}{rk L w:Nat->Int}
end
end
end L3
namespace L3
open PySem PySem.Spec PyProof.Rows L2
section
variable [Fam]
abbrev cmD (c:Int×Int):My:=.tuple [.int c.1,.int c.2]
def plD:Option Nat->My
 | some v=>.int (v:Int)
 | none=>.none
def Y7:List DV->M My:=Z1 ["house","stand","beat","places","room","entered"] (mSq (A8 3 (s2 ixD (sW 0) (sC (.int 1))))
  (mSq (A8 4 (sIf (uB (s2 (isD false) (sW 3) (sC .none))) (sN U1 (b9 (sW 2) i5)) (s2 fA (sW 3) (sN U1 (b9 (sW 1) i5)))))
  (mSq (A8 5 (sLC (U3 (kN (sW 2) oNo (oI (sV 4)))) 2 [] (P9 2 (j8 (bN 0) (j8 (bN 1) S7))) U2 (V6 (b9 (sV 0) (b9 (sV 1) (b9 (sC (.bool false)) i5))))))
  (mRt (V6 (b9 (s2 Z8 (sW 1) (sN K6 (b9 (sW 5) i5))) (b9 (s2 fA (sN U1 (b9 (sW 2) i5)) (sN U1 (b9 (sW 5) i5))) i5)))))))
def aN:List DV->M My:=Z1 ["house","stand","rule","hands_on","waiting","served","gone","place","rank","left","begun","staying"] (mSq (A8 2 (s2 ixD (sW 0) (sC (.int 2))))
  (mSq (A8 3 (v7 FD (vD (sV 0) (vD (sV 1) E9))))
  (mSq (A8 4 (sLC (gI (sW 1)) 2 [3] (P9 2 (j8 (bN 0) (j8 (bN 1) S7))) (uB (s2 (inD true) (sW 0) (sW 2))) (V6 (b9 (sV 0) (b9 (sV 1) i5)))))
  (mSq (iP 5 6 (cO (cB i5)) (cO (cB i5)))
  (mSq (du (U3 (sV 3)) (bN 7) (mSq (bR (P9 3 (j8 (bN 8) (j8 (bN 9) (j8 (bN 10) S7)))) (s2 ixD (sW 1) (sW 7)))
  (mIf (uB (s2 gtD (sW 9) (sC (.int 1)))) (aC 5 (V6 (b9 (sV 7) (b9 (V6 (b9 (sV 8) (b9 (s2 fA (sW 9) (sC (.int 1))) (b9 (v7 dN (vD (sV 2) E9)) i5)))) i5)))) (aC 6 (sV 7)))))
  (mSq (A8 11 (sIf (uB (s2 (eqD false) (sW 2) (sC (.str "turns")))) (s2 Z8 (sW 4) (sW 5)) (sN ax (b9 (s2 Z8 (sW 4) (sW 5)) i5))))
  (mRt (V6 (b9 (sV 11) (b9 (sV 3) (b9 (sN K6 (b9 (sW 6) i5)) i5)))))))))))
def la:List DV->M My:=Z1 ["house","stand","beat","filled","lost","staying","hands_on","gone"] (mSq (bR (P9 2 (j8 (bN 3) (j8 (bN 4) S7))) (v7 Y7 (vD (sV 0) (vD (sV 1) (vD (sV 2) E9)))))
  (mSq (bR (P9 3 (j8 (bN 5) (j8 (bN 6) (j8 (bN 7) S7)))) (v7 aN (vD (sV 0) (vD (sV 3) E9))))
  (mRt (V6 (b9 (sN K6 (b9 (sLC (U3 (sW 5)) 2 [] (P9 2 (j8 (bN 0) (j8 (bN 1) S7))) U2 (sV 1)) i5)) (b9 (sV 4) (b9 (sV 7) i5)))))))
abbrev b2:My->DE->Option DE:=P9 2 (j8 (bN 0) (j8 (bN 1) S7))
section
variable {F:FdS}
theorem uS {me:DE->M My}{α:Type}{x y:α->My}{f:α->My}{rest:DE}{Q:List My->FdS->Prop}:∀(ds:List α) (o o':Option DV),(∀d∈ds,∀(F:FdS) (Q:My->FdS->Prop),Q (f d) F->wp (me (some (.dat (x d))::some (.dat (y d))::rest) F) Q)->Q (ds.map f) F->wp (Q6 b2 U2 me (ds.map λd=>.tuple [x d,y d]) (o::o'::rest) F) Q
 | [],o,o',_,q=>b7.2 q
 | d::ds,o,o',h,q=>by
  rw[Jy,Q6];have e:b2 (.tuple [x d,y d]) (o::o'::rest)=some (some (.dat (x d))::some (.dat (y d))::rest):=rfl;rw[e,JC,b8];refine gM.2 ?_;rw[Jk rfl,b8];refine h d Jv F _ ?_;rw[b8];exact uS ds _ _ (λd hd=>h d (Jh _ hd)) (b7.2 q)
def Cv {mt:DE->M Bool}{me:DE->M My}{α:Type}{x y:α->My}{g:α->Bool}{f:α->My}{rest:DE}{Q:List My->FdS->Prop}:∀(ds:List α) (o o':Option DV),(∀d∈ds,∀(F:FdS) (Q:Bool->FdS->Prop),Q (g d) F->wp (mt (some (.dat (x d))::some (.dat (y d))::rest) F) Q) ->
  (∀d∈ds,g d=true->∀(F:FdS) (Q:My->FdS->Prop),Q (f d) F->wp (me (some (.dat (x d))::some (.dat (y d))::rest) F) Q)->Q ((ds.filter g).map f) F->wp (Q6 b2 mt me (ds.map λd=>.tuple [x d,y d]) (o::o'::rest) F) Q
 | [],o,o',_,_,q=>b7.2 q
 | d::ds,o,o',ht,h,q=>by
  rw[Jy,Q6];have e:b2 (.tuple [x d,y d]) (o::o'::rest)=some (some (.dat (x d))::some (.dat (y d))::rest):=rfl;rw[e,JC,b8];refine ht d Jv F _ ?_;cases c:g d with
  | false =>
   rw[LO (by rw[c];simp)]at q;rw[Jo (by simp)];exact Cv ds _ _ (λd hd=>ht d (Jh _ hd)) (λd hd=>h d (Jh _ hd)) q
  | true =>
   rw[Lr c,Jy]at q;rw[Jk rfl,b8];refine h d Jv c F _ ?_;rw[b8];exact Cv ds _ _ (λd hd=>ht d (Jh _ hd)) (λd hd=>h d (Jh _ hd)) (b7.2 q)
def uP {ps:List Pn}:O9 0 (ps.map pnD)=(List.range ps.length).map λi=>.tuple [.int (i:Int),pnD (pAt ps i)]:=by
 have key:∀(l:List My) (k:Nat),O9 k l=(List.range l.length).map λi=>.tuple [.int ((k+i:Nat):Int),l.getD i .none]:=by
  intro l;induction l with
  | nil=>intro k;rfl
  | cons d l ih =>
   intro k;rw[O9,ih,JB,LX,Jy,JF];have e1:(My.tuple [.int (k:Int),d]) = .tuple [.int ((k+0:Nat):Int),(d::l).getD 0 .none]:=by simp
   rw[<-e1];refine Kk (List.cons _) (JU λi _=>?_);simp only[Function.comp,Mm,Nk];rw[show k+1+i=k+(i+1) by omega]
 rw[key,Jf];refine JU λi hi=>?_
 have hi:=JN.1 hi;rw[JZ,Jr,Js,Ji hi];unfold pAt;rw[Jr,Ji hi];rfl
def lR {a b:Int}:(My.int a).eqv (.int b)=decide (a=b):=by
 simp only[My.eqv];exact Bool.beq_eq_decide_eq ..
def eY {l:List Nat}{i:Nat}(hl:∀j∈l,j<=1000):inD true (.int (i:Int)) (.tuple (j3 l))=some (.bool (!decide (i∈l))):=by
 have hs:SeqAt.shaped (.tuple (j3 l))=true:=(gy hl).shaped (by decide) (by decide);have hi:SeqAt.shaped (.int (i:Int))=true:=by simp[SeqAt.shaped,My.canLay0,My.depth]
 show(if SeqAt.shaped (.tuple (j3 l))=true/\SeqAt.shaped (.int (i:Int))=true then _ else none)=_;rw[Jk ⟨hs,hi⟩,Jk rfl];refine Kk (λb=>some (My.bool (!b))) ?_;unfold j3;rw[List.any_map];have e:(l.any ((λy=>y.eqv (.int (i:Int))) ∘ λj:Nat=>My.int (j:Int)))=l.any λj=>decide (j=i):=by
  congr 1;funext j;simp only[Function.comp,lR];rw[KJ];omega
 rw[e];induction l with
 | nil=>simp
 | cons a l ih =>
  rw[Nv,ih λj hj=>hl j (Jh _ hj)]
  .by_cases h:a=i
   .simp[h]
   .have:¬i=a:=λz=>h z.symm
    simp[h,this]
  .exact(gy λj hj=>hl j (Jh _ hj)).shaped (by decide) (by decide)
  .congr 1;funext j;simp only[Function.comp,lR];rw[KJ];omega
end
section
variable {F:FdS}{Q:My->FdS->Prop}
def jU (pl:Option Nat)(n:Nat):Prop:=∀v,pl=some v->n<=v
def Ai (pl:Option Nat)(n m:Nat):Int:=match pl with
 | some v=>(v:Int)-(n:Int)
 | none=>(m:Int)
def wD {pl:Option Nat}{n:Nat}{bt:List My}(hp:jU pl n):cM bt none (some (Ai pl n bt.length))=bt.take (k7 pl n bt.length):=by
 cases pl with
 | none =>
  show cM bt none (some ((bt.length:Nat):Int))=_;rw[cV];rfl
 | some v =>
  have:=hp v rfl;show cM bt none (some ((v:Int)-(n:Int)))=bt.take (min bt.length (v-n));have e:(v:Int)-(n:Int)=((v-n:Nat):Int):=by omega
  rw[e,cV];by_cases hh:v-n<=bt.length
  .rw[NH hh]
  .rw[NL (by omega),Kw (by omega),Kw (by omega)]
def gK {h r:My}{pl:Option Nat}{ps:List Pn}{bt:List (Int×Int)}(hp:jU pl ps.length)(hl:ps.length+bt.length<=1000)(q:Q (.tuple [.tuple ((i3 pl ps bt).map pnD),.int ((bt.length-k7 pl ps.length bt.length:Nat):Int)]) F) :
  wp (Y7 [.dat (.tuple [h,plD pl,r]),.dat (.tuple (ps.map pnD)),.dat (.tuple (bt.map cmD))] F) Q:=by
 have rle:k7 pl ps.length bt.length<=bt.length:=by unfold k7;split <;> omega
 have fin:∀(E:DE) (room:Int) (a5:Option DV),room=Ai pl ps.length bt.length->E=[some (.dat (.tuple [h,plD pl,r])),some (.dat (.tuple (ps.map pnD))),some (.dat (.tuple (bt.map cmD))),some (.dat (plD pl)),some (.dat (.int room)),a5] ->
   wp (mSq (A8 5 (sLC (U3 (kN (sW 2) oNo (oI (sV 4)))) 2 [] (P9 2 (j8 (bN 0) (j8 (bN 1) S7))) U2 (V6 (b9 (sV 0) (b9 (sV 1) (b9 (sC (.bool false)) i5))))))
    (mRt (V6 (b9 (s2 Z8 (sW 1) (sN K6 (b9 (sW 5) i5))) (b9 (s2 fA (sN U1 (b9 (sW 2) i5)) (sN U1 (b9 (sW 5) i5))) i5)))) E F) (xf Q):=by
  rintro E room a5 hroom rfl;have ec:cM (bt.map cmD) none (some room)=(bt.take (k7 pl ps.length bt.length)).map cmD:=by
   have:=wD (bt:=bt.map cmD) hp;rw[Jf]at this;rw[hroom,this,List.map_take]
  refine i9.2 (l7.2 (S8.2 (D8.2 (md.2 (g9.2 (i6 rfl (qJ.2 (sg.2 (l9.2 (l8 rfl (c6 xu (c6 uV (c6 fq ?_)))))))))))));rw[ec];refine⟨sz (by rw[Jf,Ke];omega),?_⟩;refine uS (x:=λc:Int×Int=>.int c.1) (y:=λc=>.int c.2) (f:=λc=>pnD (c.1,c.2,false)) _ _ _ (λc hc F Q q=>?_) ?_
  .walk_at "go";exact q
  .refine⟨h8 rfl,h9 ?_⟩;refine aT.2 (R1.2 (a9.2 (n9.2 (g9.2 (i6 rfl (E5.2 (a9.2 (g9.2 (i6 rfl (d7.2 (c6 oN (c6 (Dh ?_) (a9.2 (n9.2 (E5.2 (a9.2 (g9.2 (i6 rfl (d7.2 (c6 cR (E5.2 (a9.2 (g9.2 (i6 rfl (d7.2 (c6 qA (c6 X3 (d7.2 ⟨B3 rfl,?_⟩))))))))))))))))))))))))))))
   .rw[Jf,Jf,Ke];omega
   .have e1:ps.map pnD++(bt.take (k7 pl ps.length bt.length)).map (λc=>pnD (c.1,c.2,false))=(i3 pl ps bt).map pnD:=by
     unfold i3;rw[JE,JF];rfl
    have e2:((List.map cmD bt).length:Int)-((List.map (λc:Int×Int=>pnD (c.1,c.2,false)) (bt.take (k7 pl ps.length bt.length))).length:Int)=((bt.length-k7 pl ps.length bt.length:Nat):Int):=by
     rw[Jf,Jf,Ke];omega
    rw[e1,e2];exact q
 unfold Y7;refine fZ.2 (i9.2 (l7.2 (n9.2 (g9.2 (i6 rfl (u7.2 (c6 rfl ⟨h8 rfl,h9 (i9.2 (l7.2 (iB.2 (Y1.2 (n9.2 (g9.2 (i6 rfl (u7.2 (c6 rfl (c6 rfl ?_))))))))))⟩)))))));cases pl with
 | none =>
  refine T3 rfl ?_;refine E5.2 (a9.2 (g9.2 (i6 rfl (d7.2 (c6 cR ⟨h8 rfl,h9 ?_⟩)))));rw[Jf];exact fin _ _ none rfl rfl
 | some v =>
  refine u9 rfl ?_;refine n9.2 (g9.2 (i6 rfl (E5.2 (a9.2 (g9.2 (i6 rfl (d7.2 (c6 cR (c6 X3 ⟨h8 rfl,h9 ?_⟩)))))))));rw[Jf];exact fin _ _ none rfl rfl
end
variable [Fam]
def tnB:My->Bool
 | .str x=>decide (x = "turns")
 | _=>false
abbrev prD (q:Nat×Pn):My:=.tuple [.int (q.1:Int),pnD q.2]
def uM {r:My}(h:r∈W8):eqD false r (.str "turns")=some (.bool (tnB r)):=by
 obtain⟨x,rfl,hx⟩:=Q7 h;show some (My.bool (if false=true then !decide (x = "turns") else decide (x = "turns")))=_;rw[Jo (by decide)];rfl
def oP {c1 c2:DE->M DV}{E:DE}{F:FdS}{i j:Nat}{Q:Out->FdS->Prop}(h:wp (c1 E F) λx F1=>wp (c2 E F1) λy F2=>(i<E.length/\j<E.length)/\Q (.nx ((E.set i (some x)).set j (some y))) F2):wp (iP i j c1 c2 E F) Q:=by
 unfold iP;rw[b8];refine i4 h λx F1 h1=>?_
 rw[b8];refine i4 h1 λy F2 h2=>?_
 rw[Jk h2.1];exact b7.2 h2.2
def ue {m:DE->M (List My)}{E:DE}{F:FdS}{Q:DV->FdS->Prop}(h:wp (m E F) λx F1=>Q (.own x) F1):wp (cO m E F) Q:=by
 unfold cO;rw[b8];exact i4 h λx F1 h1=>b7.2 h1
def BD {m:DE->M My}{E:DE}{F:FdS}{Q:DV->FdS->Prop}(h:wp (m E F) λx F1=>Q (.dat x) F1):wp (cD m E F) Q:=by
 unfold cD;rw[b8];exact i4 h λx F1 h1=>b7.2 h1
theorem iL:∀l:List (Nat×Pn),(l.map prD).mapM lh=some (l.map λq=>(q.1:Int))
 | []=>rfl
 | q::l=>by rw[Jy,Ll,iL l];rfl
def sL {l:List (Nat×Pn)}(h:l≠[]):Q4 (l.map prD)=none:=by
 cases l with
 | nil=>exact absurd rfl h
 | cons q l=>rfl
def xM {l m:List (Nat×Pn)}(hp:m.Perm l)(hs:m.Pairwise λa b=>a.1<b.1)(h64:l.length<64):ax [.list (l.map prD)]=some (.list (m.map prD)):=by
 by_cases hl:l=[]
 .subst hl;have:=hp.symm.nil_eq;subst this;rfl
 .have nd:(l.map λq=>(q.1:Int)).Nodup:=by
   refine(hp.map λq=>(q.1:Int)).nodup_iff.mp ?_;rw[Kq,KW];exact hs.imp λh=>by omega
  simp only[ax,sL hl,iL,JC];rw[Jk ⟨nd,by rw[Jf];exact h64⟩];have e:(l.map λq=>(q.1:Int)).zip (l.map prD)=l.map λq=>((q.1:Int),prD q):=ak _ _ l
  rw[e,sU (l:=l.map λq=>((q.1:Int),prD q)) (m:=m.map λq=>((q.1:Int),prD q)) (hp.map _) (by rw[KW];exact hs.imp λh=>by show(_:Int)<_;omega),JF];rfl
section
variable {F:FdS}{Q:My->FdS->Prop}
def nT {r:My}{pl:My}{ps:List Pn}{h:Nat}(hr:r∈W8)(hl:ps.length<64)
  (q:Q (.tuple [.list ((B5 (tnB r) (j5 h (kOf r) (kb r) ps) ps).map λi=>prD (i,P4 (j5 h (kOf r) (kb r) ps) (kb r) ps i)),.tuple (j3 (j5 h (kOf r) (kb r) ps)),.tuple (j3 (N2 (j5 h (kOf r) (kb r) ps) ps))]) F) :
  wp (aN [.dat (.tuple [.int (h:Int),pl,r]),.dat (.tuple (ps.map pnD))] F) Q:=by
 have hsub:=Q9 (h:=h) (k:=kOf r) (kp:=kb r) (ps:=ps);have hnd:=F9 (h:=h) (k:=kOf r) (kp:=kb r) (ps:=ps);have hplen:(j5 h (kOf r) (kb r) ps).length<=ps.length:=by rw[kZ];omega
 unfold aN;walk_at "go";refine xn hr hl ?_;generalize j5 h (kOf r) (kb r) ps=P at q hsub hnd hplen;refine⟨h8 rfl,h9 (i9.2 (l7.2 (S8.2 (oQ (g9.2 (i6 rfl (c6 fq ?_)))))))⟩;rw[uP];refine⟨sz (by rw[Jf,JD];omega),?_⟩;refine Cv (x:=λi:Nat=>.int (i:Int)) (y:=λi=>pnD (pAt ps i)) (g:=λi=>!decide (i∈P)) (f:=λi=>prD (i,pAt ps i)) _ _ _ (λi hi F Q q=>?_) (λi hi _ F Q q=>?_) ?_
 .walk_at "go";refine c6 (eY λj hj=>by have:=hsub j hj;omega) ?_;exact c6 rfl q
 .walk_at "go";exact q
 have ew:((List.range ps.length).filter λi=>!decide (i∈P))=Z4 P ps:=rfl;rw[ew];refine⟨h8 rfl,h9 (i9.2 (oP (ue (V5.2 (d7.2 ⟨sz (by decide),ue (V5.2 (d7.2 ⟨sz (by decide),⟨h8 rfl,h8 rfl⟩,h9 (i9.2 (ar.2 (D8.2 (l9.2 (l8 rfl (c6 fq ?_))))))⟩))⟩)))))⟩;refine J1 (λm E F'=>F'=F/\∃o7 o8 o9 o10 o11,E=[some (.dat (.tuple [.int (h:Int),pl,r])),some (.dat (.tuple (ps.map pnD))),some (.dat r),some (.dat (.tuple (j3 P))),some (.dat (.list ((Z4 P ps).map λi=>prD (i,pAt ps i)))),some (.own ((N7 (P.take m) ps).map λi=>prD (i,fe (kb r) (pAt ps i)))),some (.own (j3 (N2 (P.take m) ps))),o7,o8,o9,o10,o11]) _ 0 _ F ⟨rfl,none,none,none,none,none,rfl⟩ ?_ ?_
 .rintro m d e E F1 ⟨rfl,o7,o8,o9,o10,o11,rfl⟩;obtain⟨i,ei,rfl⟩:=gQ e;have hi:=hsub i (JW ei);have et:P.take (0+m+1)=P.take (0+m)++[i]:=by rw[JZ,LY,ei];rfl
  refine⟨_,rfl,?_⟩;refine i9.2 (X2.2 (n9.2 (g9.2 (i6 rfl (g9.2 (i6 rfl (c6 (AA hi) (c6 rfl (h9 ?_)))))))));refine W2.2 (Y1.2 (n9.2 (g9.2 (i6 rfl (u7.2 (c6 Ad (c6 rfl (P6 (λhc=>?_) λhc=>?_))))))))
  .have hc:1<(pAt ps i).2.1:=JT hc;have e1:N7 (P.take (0+m+1)) ps=N7 (P.take (0+m)) ps++[i]:=by
    unfold N7;rw[et,Kr,Lr (by simp;omega),LF]
   have e2:N2 (P.take (0+m+1)) ps=N2 (P.take (0+m)) ps:=by
    unfold N2;rw[et,Kr,LO (by simp;omega),LF,Kg]
   refine aV rfl (by
    have:=Ky (λi=>!decide ((pAt ps i).2.1<=1)) (P.take (0+m));have h2:=Ke (i:=0+m) (l:=P);rw[Jf];unfold N7;omega) ?_
   refine R1.2 (a9.2 (l9.2 (l8 rfl (a9.2 (R1.2 (a9.2 (l9.2 (l8 rfl (a9.2 (n9.2 (g9.2 (i6 rfl (u7.2 (c6 X3 (a9.2 (x6.2 (G5.2 (l9.2 (l8 rfl (C3.2 ?_))))))))))))))))))));refine qM hr (d7.2 ⟨B3 rfl,d7.2 ⟨B3 rfl,?_⟩⟩);exact⟨_,rfl,rfl,_,_,_,_,_,by rw[e1,e2,JE];rfl⟩
  .have hc:¬1<(pAt ps i).2.1:=Kj hc;have e1:N7 (P.take (0+m+1)) ps=N7 (P.take (0+m)) ps:=by
    unfold N7;rw[et,Kr,LO (by simp;omega),LF,Kg]
   have e2:j3 (N2 (P.take (0+m+1)) ps)=j3 (N2 (P.take (0+m)) ps)++[.int (i:Int)]:=by
    unfold N2;rw[et,Kr,Lr (by simp;omega),LF];simp only[j3,JE,Jy,Kl]
   refine aV rfl (by
    have:=Ky (λi=>decide ((pAt ps i).2.1<=1)) (P.take (0+m));have h2:=Ke (i:=0+m) (l:=P);rw[C7];unfold N2;omega) (l9.2 (l8 rfl ?_))
   exact⟨_,rfl,rfl,_,_,_,_,_,by rw[e1,e2];rfl⟩
 .rintro E F1 ⟨rfl,o7,o8,o9,o10,o11,rfl⟩;rw[C7,JZ,LK];have lw:(Z4 P ps).length<=ps.length:=by
   have:=Ky (λi=>!decide (i∈P)) (List.range ps.length);rw[JD]at this;exact this
  have ls:(N7 P ps).length<=ps.length:=by
   have:=Ky (λi=>!decide ((pAt ps i).2.1<=1)) P;unfold N7;omega
  have eW:(Z4 P ps).map (λi=>prD (i,pAt ps i))=(Z4 P ps).map λi=>prD (i,P4 P (kb r) ps i):=JU λi hi=>by
   have h2:i ∉ P:=by have:=(JP.1 hi).2;simpa using this
   unfold P4;rw[Jo h2]
  have eS:(N7 P ps).map (λi=>prD (i,fe (kb r) (pAt ps i)))=(N7 P ps).map λi=>prD (i,P4 P (kb r) ps i):=JU λi hi=>by
   have h2:i∈P:=(JP.1 hi).1;unfold P4;rw[Jk h2]
  have eA:(Z4 P ps).map (λi=>prD (i,pAt ps i))++(N7 P ps).map (λi=>prD (i,fe (kb r) (pAt ps i)))=((Z4 P ps++N7 P ps).map λi=>(i,P4 P (kb r) ps i)).map prD:=by
   rw[eW,eS,<-JE,JF];rfl
  have last:∀(E:DE) (st:My),st = .list ((B5 (tnB r) P ps).map λi=>prD (i,P4 P (kb r) ps i))->E=[some (.dat (.tuple [.int (h:Int),pl,r])),some (.dat (.tuple (ps.map pnD))),some (.dat r),some (.dat (.tuple (j3 P))),some (.dat (.list ((Z4 P ps).map λi=>prD (i,pAt ps i)))),some (.own ((N7 P ps).map λi=>prD (i,fe (kb r) (pAt ps i)))),some (.own (j3 (N2 P ps))),o7,o8,o9,o10,some (.dat st)] ->
    wp (mRt (V6 (b9 (sV 11) (b9 (sV 3) (b9 (sN K6 (b9 (sW 6) i5)) i5)))) E F1) (xf Q):=by
   rintro E st rfl rfl;walk_at "go";exact q
  refine h9 (i9.2 (l7.2 (iB.2 (Y1.2 (n9.2 (g9.2 (i6 rfl (u7.2 (c6 (uM hr) (c6 rfl (P6 (λht=>?_) λht=>?_)))))))))))
  .refine n9.2 (g9.2 (i6 rfl (g9.2 (dy rfl (c6 (Bp ?_) ⟨h8 rfl,h9 (last _ _ ?_ rfl)⟩)))))
   .rw[Jf,Jf];omega
   .rw[eA,JF];unfold B5;rw[Jk ht];rfl
  .refine E5.2 (a9.2 (n9.2 (g9.2 (i6 rfl (g9.2 (dy rfl (c6 (Bp ?_) (d7.2 ?_))))))))
   .rw[Jf,Jf];omega
   .rw[eA];have hperm:=(eJ hsub hnd).symm.map λi=>(i,P4 P (kb r) ps i)
    have hsrt:((B5 false P ps).map λi=>(i,P4 P (kb r) ps i)).Pairwise λa b=>a.1<b.1:=by
     rw[KW];exact yO P ps
    have hlen:((Z4 P ps++N7 P ps).map λi=>(i,P4 P (kb r) ps i)).length<64:=by
     rw[Jf,(eJ hsub hnd).length_eq];have:=Ky (λi=>!T6 P ps i) (List.range ps.length);unfold B5;rw[Jo (by simp)];rw[JD]at this;omega
    refine c6 (xM hperm hsrt hlen) ⟨h8 rfl,h9 (last _ _ ?_ rfl)⟩;rw[ht,JF];rfl
def AO {r:My}{pl:Option Nat}{ps:List Pn}{bt:List (Int×Int)}{h:Nat}(hr:r∈W8)(hp:jU pl ps.length)(hl:ps.length+bt.length<64)
  (q:Q (.tuple [.tuple ((after h (kOf r) (kb r) (tnB r) (i3 pl ps bt)).map pnD),.int ((bt.length-k7 pl ps.length bt.length:Nat):Int),.tuple (j3 (N2 (j5 h (kOf r) (kb r) (i3 pl ps bt)) (i3 pl ps bt)))]) F) :
  wp (la [.dat (.tuple [.int (h:Int),plD pl,r]),.dat (.tuple (ps.map pnD)),.dat (.tuple (bt.map cmD))] F) Q:=by
 have hfl:(i3 pl ps bt).length<64:=by
  rw[V2];unfold k7;split <;> omega
 unfold la;walk_at "go";refine gK hp (by omega) ?_;walk_at "go";refine nT hr hfl ?_;refine c6 rfl (h9 ?_);refine aT.2 (R1.2 (a9.2 (E5.2 (a9.2 (S8.2 (D8.2 (g9.2 (i6 rfl (c6 P2 ⟨sz ?_,?_⟩)))))))))
 .have h1:=(aS (tn:=tnB r) (Q9 (h:=h) (k:=kOf r) (kp:=kb r) (ps:=i3 pl ps bt)) F9).length_eq;have h2:=Ky (λi=>!T6 (j5 h (kOf r) (kb r) (i3 pl ps bt)) (i3 pl ps bt) i) (List.range (i3 pl ps bt).length);rw[Jf,h1];unfold B5;rw[Jo (by simp)];rw[JD]at h2;omega
 .refine uS (x:=λi:Nat=>.int (i:Int)) (y:=λi=>pnD (P4 (j5 h (kOf r) (kb r) (i3 pl ps bt)) (kb r) (i3 pl ps bt) i)) (f:=λi=>pnD (P4 (j5 h (kOf r) (kb r) (i3 pl ps bt)) (kb r) (i3 pl ps bt) i)) _ _ _ (λi hi F Q q=>?_) ?_
  .walk_at "go";exact q
  .walk_at "go";unfold after at q;rw[JF]at q;exact q
end
variable [Fam]
def qG:List DV->M My:=Z1 ["house","way","stand","stands","lost","gone","beat","following","turned_away","places"] (mSq (kx 3 4 5 (cO (cB (b9 (sV 2) i5))) (cO (cB i5)) (cO (cB i5)))
  (mSq (du (U3 (sV 1)) (bN 6) (mSq (bR (P9 3 (j8 (bN 7) (j8 (bN 8) (j8 (bN 9) S7)))) (v7 la (vD (sV 0) (vD (s2 ixD (sW 3) (s1 xW (sC (.int 1)))) (vD (sV 6) E9)))))
  (mSq (aC 3 (sV 7))
  (mSq (aC 4 (sV 8))
  (aC 5 (sN U1 (b9 (sW 9) i5)))))))
  (mRt (V6 (b9 (sN K6 (b9 (sW 3) i5)) (b9 (sN K6 (b9 (sW 4) i5)) (b9 (sN K6 (b9 (sW 5) i5)) i5)))))))
abbrev btD (b:Bt):My:=.tuple (b.map cmD)
abbrev stD (ps:List Pn):My:=.tuple (ps.map pnD)
def xT {c1 c2 c3:DE->M DV}{E:DE}{F:FdS}{i j k:Nat}{Q:Out->FdS->Prop}(h:wp (c1 E F) λx F1=>wp (c2 E F1) λy F2=>wp (c3 E F2) λz F3=>(i<E.length/\j<E.length/\k<E.length)/\Q (.nx (((E.set i (some x)).set j (some y)).set k (some z))) F3):wp (kx i j k c1 c2 c3 E F) Q:=by
 unfold kx;rw[b8];refine i4 h λx F1 h1=>?_
 rw[b8];refine i4 h1 λy F2 h2=>?_
 rw[b8];refine i4 h2 λz F3 h3=>?_
 rw[Jk h3.1];exact b7.2 h3.2
def AQ {ds:List My}{x:My}:ixD (.list (ds++[x])) (.int (-1))=some x:=by
 show atI (ds++[x]) (-1)=some x;unfold atI;have e:ixN (ds++[x]).length (-1)=some ds.length:=by
  unfold ixN;rw[Jo (by decide),Jk (by simp only[JX,JB,KE];omega)];congr 1;simp only[JX,JB,KE];omega
 rw[e,JC,JR (Jq _),Nat.sub_self];rfl
def vf {way:List Bt}{i:Nat}{d:My}(h:(way.map btD)[i]? = some d):i<way.length/\d=btD (f7 way i):=by
 rw[Js]at h;obtain⟨b,e,rfl⟩:=JJ.1 h;obtain⟨hi,rfl⟩:=Jm.1 e;exact⟨hi,by unfold f7;simp[hi]⟩
def yY {way:List Bt}:O9 0 (way.map btD)=(List.range way.length).map λi=>.tuple [.int (i:Int),btD (f7 way i)]:=by
 have key:∀(l:List My) (k:Nat),O9 k l=(List.range l.length).map λi=>.tuple [.int ((k+i:Nat):Int),l.getD i .none]:=by
  intro l;induction l with
  | nil=>intro k;rfl
  | cons d l ih =>
   intro k;rw[O9,ih,JB,LX,Jy,JF];have e1:(My.tuple [.int (k:Int),d]) = .tuple [.int ((k+0:Nat):Int),(d::l).getD 0 .none]:=by simp
   rw[<-e1];refine Kk (List.cons _) (JU λi _=>?_);simp only[Function.comp,Mm,Nk];rw[show k+1+i=k+(i+1) by omega]
 rw[key,Jf];refine JU λi hi=>?_
 have hi:=JN.1 hi;rw[JZ,Jr,Js,Ji hi];unfold f7;rw[Jr,Ji hi];rfl
def Bi {f:Nat->My}{n i:Nat}(h:i<n):atI ((List.range n).map f) (i:Int)=some (f i):=by
 refine W1 ?_;rw[Js,Ji (by simpa using h)];simp
def rR {n i:Nat}{d:My}{f:Nat->My}(h:((List.range n).map f)[i]? = some d):i<n/\d=f i:=by
 rw[Js]at h;obtain⟨b,e,rfl⟩:=JJ.1 h;obtain⟨hi,rfl⟩:=Jm.1 e;simp only[JD]at hi;exact⟨hi,by simp⟩
def aw (pl:Option Nat)(ps:List Pn)(bt:Bt):Nat:=bt.length-k7 pl ps.length bt.length
def iY (h k:Nat)(kp:Bool)(pl:Option Nat)(ps:List Pn)(bt:Bt):Nat:=(N2 (j5 h k kp (i3 pl ps bt)) (i3 pl ps bt)).length
section
variable {F:FdS}{Q:My->FdS->Prop}
def Ep {r:My}{pl:Option Nat}{ps:List Pn}{way:List Bt}{h:Nat}(hr:r∈W8)(hp:∀i<way.length,jU pl (P3 (C1 h (kOf r) (kb r) (tnB r) pl) ps way i).length)(hl:ps.length+C0 way<64)(hn:way.length<=1000)
  (q:Q (.tuple [.tuple ((List.range (way.length+1)).map λi=>stD (P3 (C1 h (kOf r) (kb r) (tnB r) pl) ps way i)),.tuple ((List.range way.length).map λi=>.int (aw pl (P3 (C1 h (kOf r) (kb r) (tnB r) pl) ps way i) (f7 way i):Nat)),.tuple ((List.range way.length).map λi=>.int (iY h (kOf r) (kb r) pl (P3 (C1 h (kOf r) (kb r) (tnB r) pl) ps way i) (f7 way i):Nat))]) F) :
  wp (qG [.dat (.tuple [.int (h:Int),plD pl,r]),.dat (.tuple (way.map btD)),.dat (stD ps)] F) Q:=by
 have hfit:=λi hi=>bg (h:=h) (k:=kOf r) (kp:=kb r) (tn:=tnB r) (pl:=pl) (ps:=ps) (way:=way) hl (i:=i) hi
 have hsucc:=λi hi=>Y2 (f:=C1 h (kOf r) (kb r) (tnB r) pl) (ps:=ps) (way:=way) (i:=i) hi
 have hzero:=U5 (f:=C1 h (kOf r) (kb r) (tnB r) pl) (ps:=ps) (way:=way);generalize P3 (C1 h (kOf r) (kb r) (tnB r) pl) ps way=st at q hp hfit hsucc hzero;unfold qG;refine fZ.2 ?_;dsimp only[x4,Jy,Kl,JB,KE,List.replicate,KF,Ku,Nat.reduceAdd,Nat.reduceSub];refine i9.2 (xT (ue (V5.2 (a9.2 (l9.2 (l8 rfl (d7.2 ⟨B3 rfl,ue (V5.2 (d7.2 ⟨sz (by decide),ue (V5.2 (d7.2 ⟨sz (by decide),⟨h8 rfl,h8 rfl,h8 rfl⟩,h9 (i9.2 (ar.2 (D8.2 (l9.2 (l8 rfl (c6 fq ?_))))))⟩))⟩))⟩)))))));refine J1 (λm E F'=>F'=F/\∃o6 o7 o8 o9,E=[some (.dat (.tuple [.int (h:Int),plD pl,r])),some (.dat (.tuple (way.map btD))),some (.dat (stD ps)),some (.own ((List.range (m+1)).map λi=>stD (st i))),some (.own ((List.range m).map λi=>.int (aw pl (st i) (f7 way i):Nat))),some (.own ((List.range m).map λi=>.int (iY h (kOf r) (kb r) pl (st i) (f7 way i):Nat))),o6,o7,o8,o9]) _ 0 _ F ⟨rfl,none,none,none,none,by rw[<-hzero];rfl⟩ ?_ ?_
 .rintro m d e E F1 ⟨rfl,o6,o7,o8,o9,rfl⟩;rw[JZ];obtain⟨hm,rfl⟩:=vf e;refine⟨_,rfl,?_⟩;have es:(List.range (m+1)).map (λi=>stD (st i))=(List.range m).map (λi=>stD (st i))++[stD (st m)]:=by rw[Lc,JE];rfl
  refine i9.2 (X2.2 (x6.2 (G5.2 (l9.2 (l8 rfl (G5.2 (n9.2 (g9.2 (dy rfl (Bk.2 (u7.2 (c6 rfl ?_)))))))))))) ;rw[es];refine c6 AQ (G5.2 (l9.2 (l8 rfl (C3.2 ?_))));refine AO hr (hp m hm) (hfit m hm) (c6 rfl (h9 ?_));refine i9.2 (aV rfl (by simp;omega) (l9.2 (l8 rfl (h9 ?_))));refine i9.2 (aV rfl (by simp;omega) (l9.2 (l8 rfl (h9 ?_))));refine aV rfl (by simp;omega) (E5.2 (a9.2 (g9.2 (i6 rfl (d7.2 (c6 rfl ?_))))));have e3:(List.range (m+1+1)).map (λi=>stD (st i))=(List.range m).map (λi=>stD (st i))++[stD (st m)]++[stD (st (m+1))]:=by rw[Lc,JE,es];rfl
  have e4:(List.range (m+1)).map (λi=>My.int (aw pl (st i) (f7 way i):Nat))=(List.range m).map (λi=>My.int (aw pl (st i) (f7 way i):Nat))++[.int (aw pl (st m) (f7 way m):Nat)]:=by rw[Lc,JE];rfl
  have e5:(List.range (m+1)).map (λi=>My.int (iY h (kOf r) (kb r) pl (st i) (f7 way i):Nat))=(List.range m).map (λi=>My.int (iY h (kOf r) (kb r) pl (st i) (f7 way i):Nat))++[.int (iY h (kOf r) (kb r) pl (st m) (f7 way m):Nat)]:=by rw[Lc,JE];rfl
  have e6:iY h (kOf r) (kb r) pl (st m) (f7 way m)=(j3 (N2 (j5 h (kOf r) (kb r) (i3 pl (st m) (f7 way m))) (i3 pl (st m) (f7 way m)))).length:=by unfold iY;rw[C7]
  exact⟨_,rfl,rfl,_,_,_,_,by rw[e3,e4,e5,hsucc m hm,e6];rfl⟩
 .rintro E F1 ⟨rfl,o6,o7,o8,o9,rfl⟩;rw[JZ,Jf];refine h9 ?_;walk_at "go";exact q
end
variable [Fam]
section
variable {F:FdS}{Q:My->FdS->Prop}
end
variable [Fam]
def kQ (nm:List Str):List DV->M My:=Z1 nm (mSq (ic 3 (cB i5))
  (mSq (A8 4 (sC (.int 0)))
  (mSq (du (df (b9 (v7 G2 (vF 0 (vD (s2 Z8 (sW 1) (sC (.int 1))) E9))) i5)) (bN 5) (mSq (ic 6 (cB i5))
  (mSq (du (df (b9 (s2 ixD (sC (.list [.int 0,.int 0,.int 1,.int 1,.int 2,.int 3])) (v7 G2 (vF 0 (vD (sC (.int 6)) E9)))) i5)) (bN 7) (mIf (uB (s2 ltD (sW 4) (sC (.int 40)))) (mSq (aC 6 (V6 (b9 (v7 G2 (vF 0 (vD (sC (.int 2)) E9))) (b9 (s2 Z8 (sC (.int 1)) (v7 G2 (vF 0 (vD (sV 2) E9)))) i5))))
  (A8 4 (s2 Z8 (sW 4) (sC (.int 1))))) mNx))
  (aC 3 (sN K6 (b9 (sW 6) i5))))))
  (mRt (sN K6 (b9 (sW 3) i5))))))
def dY (nm:List Str):List DV->M My:=Z1 ["_law_feed_here","_law_beats"] (mSq (A8 1 (s2 ixD (sC (.list [.int 5,.int 9,.int 14,.int 24])) (v7 G2 (vF 0 (vD (sC (.int 4)) E9)))))
  (mRt (v7 (kQ nm) (vF 0 (vD (sV 1) (vD (s2 ixD (sC (.list [.int 1,.int 3,.int 6])) (v7 G2 (vF 0 (vD (sC (.int 3)) E9)))) E9))))))
def Cr (c:Int×Int):Prop:=0<=c.1/\c.1<=1/\1<=c.2/\c.2<=6
structure WayOk (n:Nat) (way:List Bt):Prop where
 len:way.length<=n
 many:C0 way<=40
 ok:∀b∈way,∀c∈b,Cr c
def nX (way:List Bt)(b:Bt):C0 (way++[b])=C0 way+b.length:=by
 unfold C0;rw[JE,Nh];rfl
def six {r:Int}(r0:0<=r)(r1:r<6):∃c:Nat,ixD (.list [.int 0,.int 0,.int 1,.int 1,.int 2,.int 3]) (.int r)=some (.int (c:Int))/\c<=3:=by
 have:r=0\/r=1\/r=2\/r=3\/r=4\/r=5:=by omega
 rcases this with rfl | rfl | rfl | rfl | rfl | rfl
 .exact⟨0,rfl,by decide⟩
 .exact⟨0,rfl,by decide⟩
 .exact⟨1,rfl,by decide⟩
 .exact⟨1,rfl,by decide⟩
 .exact⟨2,rfl,by decide⟩
 .exact⟨3,rfl,by decide⟩
def yq {nm:List Str}(hnm:nm.length=8){n w:Nat}(hn:n<=24)(w1:1<=w)(w2:w<=6):Tr (kQ nm) [.feed,.dat (.int (n:Int)),.dat (.int (w:Int))] 170 (λd=>∃way:List Bt,d = .tuple (way.map btD)/\WayOk n way):=Tr.of λF hF=>by
 unfold kQ;refine fZ.2 ?_;have es:x4 nm [.feed,.dat (.int (n:Int)),.dat (.int (w:Int))]=[some .feed,some (.dat (.int (n:Int))),some (.dat (.int (w:Int))),none,none,none,none,none]:=by unfold x4;rw[hnm];rfl
 rw[es];walk_at "go";refine G9 (by omega) (by omega) (by omega) λr F1 r0 r1 t1=>?_
 refine d7.2 (c6 (iE (by omega) (by omega)) ?_);refine J1 (λm E F'=>F'.t<=F.t+1+7*m/\∃way:List Bt,∃o5 o6 o7,E=[some .feed,some (.dat (.int (n:Int))),some (.dat (.int (w:Int))),some (.own (way.map btD)),some (.dat (.int (C0 way:Nat))),o5,o6,o7]/\way.length=m/\C0 way<=40/\∀b∈way,∀c∈b,Cr c) _ 0 _ F1 ⟨by omega,[],none,none,none,rfl,rfl,by decide,λb hb=>by cases hb⟩ ?_ ?_
 .rintro m d e E F2 ⟨t2,way,o5,o6,o7,rfl,hw,hm,ho⟩;have hi:=(Jm.1 e).1;rw[da]at hi;refine⟨_,rfl,?_⟩;walk_at "go";refine G9 (by decide) (by decide) (by omega) λr2 F3 r20 r21 t3=>?_
  obtain⟨c,ec,hc⟩:=six r20 r21;refine c6 ec (d7.2 (c6 (iE (by omega) (by omega)) ?_));refine J1 (λj E F'=>F'.t<=F2.t+1+2*j/\∃bt:Bt,∃o5 o7,E=[some .feed,some (.dat (.int (n:Int))),some (.dat (.int (w:Int))),some (.own (way.map btD)),some (.dat (.int (C0 way+bt.length:Nat))),o5,some (.own (bt.map cmD)),o7]/\bt.length<=j/\C0 way+bt.length<=40/\∀c∈bt,Cr c) _ 0 _ F3 ⟨by omega,[],_,_,rfl,Jq _,hm,λb hb=>by cases hb⟩ ?_ ?_
  .rintro j d2 e2 E F4 ⟨t4,bt,o5,o7,rfl,hbl,hbm,hbo⟩;have hj:=(Jm.1 e2).1;rw[da]at hj;refine⟨_,rfl,?_⟩;refine W2.2 (Y1.2 (n9.2 (g9.2 (i6 rfl (u7.2 (c6 rfl (c6 rfl (P6 (λhc=>?_) λhc=>?_))))))))
   .have hc:((C0 way+bt.length:Nat):Int)<40:=JT hc;refine i9.2 (aV rfl (by rw[Jf];omega) ?_);walk_at "go";refine G9 (by decide) (by decide) (by omega) λa F5 a0 a1 t5=>?_
    walk_at "go";refine G9 (by omega) (by omega) (by omega) λb F6 b0 b1 t6=>?_
    walk_at "go";refine⟨_,rfl,by omega,bt++[(a,1+b)],o5,some (.dat d2),?_,by simp;omega,by simp;omega,λc hc=>?_⟩
    .have e1:(C0 way+(bt++[(a,1+b)]).length:Nat)=(C0 way+bt.length)+1:=by simp;omega
     rw[e1,JE];rfl
    .rcases Jj.1 hc with hc | hc
     .exact hbo c hc
     .simp only[Ko]at hc;subst hc;exact⟨a0,by show a<=1;omega,by show 1<=1+b;omega,by show 1+b<=6;omega⟩
   .exact bW.2 ⟨_,rfl,by omega,bt,_,_,rfl,by omega,hbm,hbo⟩
  .rintro E F4 ⟨t4,bt,o5,o7,rfl,hbl,hbm,hbo⟩;rw[da]at t4;refine h9 (aV rfl (by rw[Jf];omega) ?_);walk_at "go";refine⟨_,rfl,by omega,way++[bt],o5,some (.own (bt.map cmD)),o7,?_,by simp[hw],by rw[nX];exact hbm,λb hb=>?_⟩
   .rw[nX,JE];rfl
   .rcases Jj.1 hb with hb | hb
    .exact ho b hb
    .simp only[Ko]at hb;subst hb;exact hbo
 .rintro E F2 ⟨t2,way,o5,o6,o7,rfl,hw,hm,ho⟩;rw[da]at t2 hw;walk_at "go";exact⟨by omega,way,rfl,by omega,hm,ho⟩
def wF {nm:List Str}(hnm:nm.length=8):Tr (dY nm) [.feed] 172 (λd=>∃way:List Bt,d = .tuple (way.map btD)/\WayOk 24 way):=Tr.of λF hF=>by
 unfold dY;walk_at "go";refine G9 (by decide) (by decide) (by omega) λr F1 r0 r1 t1=>?_
 obtain⟨n,en,hn⟩:∃n:Nat,ixD (.list [.int 5,.int 9,.int 14,.int 24]) (.int r)=some (.int (n:Int))/\n<=24:=by
  have:r=0\/r=1\/r=2\/r=3:=by omega
  rcases this with rfl | rfl | rfl | rfl
  .exact⟨5,rfl,by decide⟩
  .exact⟨9,rfl,by decide⟩
  .exact⟨14,rfl,by decide⟩
  .exact⟨24,rfl,by decide⟩
 refine c6 en ?_;walk_at "go";refine G9 (by decide) (by decide) (by omega) λr2 F2 r20 r21 t2=>?_
 obtain⟨w,ew,w1,w2⟩:∃w:Nat,ixD (.list [.int 1,.int 3,.int 6]) (.int r2)=some (.int (w:Int))/\1<=w/\w<=6:=by
  have:r2=0\/r2=1\/r2=2:=by omega
  rcases this with rfl | rfl | rfl
  .exact⟨1,rfl,by decide,by decide⟩
  .exact⟨3,rfl,by decide,by decide⟩
  .exact⟨6,rfl,by decide,by decide⟩
 refine c6 ew (C3.2 ?_);refine(yq hnm hn w1 w2).wp (by omega) λd F3 t3 hd=>?_
 walk_at "go";obtain⟨way,rfl,hw⟩:=hd;exact⟨by omega,way,rfl,⟨JM hw.len hn,hw.many,hw.ok⟩⟩
variable [Fam]
def eq0 {i:Int}:eqD false (.int i) (.int 0)=some (.bool (decide (i=0))):=by
 show some (My.bool (if false=true then !(My.int _).eqv (.int 0) else(My.int _).eqv (.int 0)))=_;rw[Jo (by decide),lR]
def BN {a:DE->M (List My)}{E:DE}{F:FdS}{Q:List My->FdS->Prop}(q:wp (a E F) λx F1=>oB (cK x) λds=>Q ds F1):wp (qK a E F) Q:=by
 unfold qK;rw[b8];refine i4 q λx F1 h=>?_
 obtain⟨ds,e,q⟩:=h;dsimp only;rw[e,JC];exact b7.2 q
def vj {i j:Int}(h0:-(2 ^ 62)<=i)(h1:i<2 ^ 62)(h2:-(2 ^ 62)<=j)(h3:j<2 ^ 62):cK [.int i,.int j]=some (af i (j-i).toNat):=Jk ⟨h0,h1,h2,h3⟩
def oS {me:DE->M My}{α:Type}{F:FdS}{x:α->My}{f:α->My}{rest:DE}{Q:List My->FdS->Prop}:∀(ds:List α) (o:Option DV),(∀d∈ds,∀(F:FdS) (Q:My->FdS->Prop),Q (f d) F->wp (me (some (.dat (x d))::rest) F) Q)->Q (ds.map f) F->wp (Q6 (bN 0) U2 me (ds.map x) (o::rest) F) Q:=λds o h q=>by
 have key:∀(l:List α) (o:Option DV) (Q:List My->FdS->Prop),(∀d∈l,d∈ds)->Q (l.map f) F->wp (Q6 (bN 0) U2 me (l.map x) (o::rest) F) Q:=by
  intro l;induction l with
  | nil=>intro o Q _ q;exact b7.2 q
  | cons d l ih =>
   intro o Q hs q;rw[Jy,Q6];have e:bN 0 (x d) (o::rest)=some (some (.dat (x d))::rest):=rfl;rw[e,JC,b8];refine gM.2 ?_;rw[Jk rfl,b8];refine h d (hs d Jv) F _ ?_;rw[b8];exact ih _ _ (λz hz=>hs z (Jh _ hz)) (b7.2 q)
 exact key ds o Q (λd hd=>hd) q
variable [Fam]
def L8:List DV->M My:=Z1 ["course","waited","gone_at","word","beat","waits"] (mSq (bR (P9 3 (j8 (bN 3) (j8 (bN 4) (j8 (bN 5) S7)))) (sV 0))
  (mSq (sD (λi j=>i+j) 5 (sIf (uT (sW 1)) (sC (.int 1)) (sC (.int 0))))
  (mSq (mIf (uB (s2 (isD false) (sW 2) (sC .none))) (mRt (V6 (b9 (sV 3) (b9 (sV 4) (b9 (sV 5) i5))))) mNx)
  (mRt (V6 (b9 (sC (.str "gone")) (b9 (sV 4) (b9 (sV 2) (b9 (sV 5) i5)))))))))
def bC:List DV->M My:=Z1 ["house","way","told","stand","inside","at","beat","filled","lost","entered","staying","hands_on","gone","place","number"] (mSq (ic 2 (cB i5))
  (mSq (iP 3 4 (cD (sC (.tuple []))) (cO (cB i5)))
  (mSq (du (gI (sV 1)) (P9 2 (j8 (bN 5) (j8 (bN 6) S7))) (mSq (bR (P9 2 (j8 (bN 7) (j8 (bN 8) S7))) (v7 Y7 (vD (sV 0) (vD (sV 3) (vD (sV 6) E9)))))
  (mSq (A8 9 (s2 fA (sN U1 (b9 (sW 6) i5)) (sW 8)))
  (mSq (tQ 4 (kM (b9 (sN U1 (b9 (sW 2) i5)) (b9 (s2 Z8 (sN U1 (b9 (sW 2) i5)) (sW 9)) i5))))
  (mSq (tQ 2 (s2 Z8 (s2 dE (ug (b9 (V6 (b9 (sC (.str "in")) (b9 (sV 5) (b9 (sC (.int 0)) i5)))) i5)) (sW 9)) (s2 dE (ug (b9 (V6 (b9 (sC (.str "lost")) (b9 (sV 5) i5))) i5)) (sW 8))))
  (mSq (bR (P9 3 (j8 (bN 10) (j8 (bN 11) (j8 (bN 12) S7)))) (v7 aN (vD (sV 0) (vD (sV 7) E9))))
  (mSq (wg 4 (du (gI (sV 4)) (P9 2 (j8 (bN 13) (j8 (bN 14) S7))) (yn 2 (v7 L8 (vD (s2 ixD (sW 2) (sW 14)) (vD (s2 (inD true) (sW 13) (sW 11)) (vD (sIf (uB (s2 (inD false) (sW 13) (sW 12))) (s2 Z8 (sW 5) (sC (.int 1))) (sC .none)) E9)))) (sV 14))))
  (mSq (ic 4 (fLC (U3 (sW 10)) 2 [4] (P9 2 (j8 (bN 0) (j8 (bN 1) S7))) U2 (s2 ixD (sW 2) (sW 0))))
  (A8 3 (sN K6 (b9 (sLC (U3 (sW 10)) 2 [] (P9 2 (j8 (bN 0) (j8 (bN 1) S7))) U2 (sV 1)) i5)))))))))))
  (mRt (sW 2)))))
def CC {i:Nat}{m:DE->M Out}{E:DE}{F:FdS}{ds:List My}{Q:Out->FdS->Prop}(he:av E i=some ds)(q:wp (m (E.set i (some (.dat (.list ds)))) F) Q):wp (wg i m E F) Q:=by
 unfold wg;rw[he,JC];exact q
def xc {f:Int->Int->Int}{i:Nat}{a:DE->M My}{E:DE}{F:FdS}{x:Int}{Q:Out->FdS->Prop}(he:E[i]? = some (some (.dat (.int x))))(q:wp (a E F) λd F1=>∃y:Int,d = .int y/\Q (.nx (E.set i (some (.dat (.int (f x y)))))) F1):wp (sD f i a E F) Q:=by
 unfold sD;rw[he];dsimp only;rw[b8];refine i4 q λd F1 ⟨y,e,q⟩=>?_
 subst e;have hl:i<E.length:=(Jm.1 he).1;have e2:bN i (.int (f x y)) E=some (E.set i (some (.dat (.int (f x y))))):=by unfold bN;rw[Jk hl]
 show wp ((bN i (.int (f x y)) E).bind _) Q;rw[e2];exact b7.2 q
def yZ {a:DE->M (List My)}{E:DE}{F:FdS}{Q:My->FdS->Prop}(q:wp (a E F) λx F1=>oB (cK x) λds=>ds.length<=1000/\Q (.list ds) F1):wp (kM a E F) Q:=by
 unfold kM;rw[b8];refine i4 q λx F1 ⟨ds,e,h1,q⟩=>?_
 rw[e,JC,Jk h1];exact b7.2 q
def zI {d:My}{k:Nat}(h:k<=1000):dE (.list [d]) (.int (k:Int))=some (.list (List.replicate k d)):=by
 have e:(List.replicate ((k:Int)).toNat [d]).flatten=List.replicate k d:=by
  rw[KN];clear h;induction k with
  | zero=>rfl
  | succ k ih=>rw[Kd,Le,ih,Kd];rfl
 rw[<-e];have hz:[d].length*((k:Int)).toNat<=NZ:=sz (by rw[KN];show 1*k<=_;omega);have h1:-(2 ^ 63)<=(k:Int):=by omega
 have h2:(k:Int)<2 ^ 63:=by omega
 generalize (k:Int)=i at hz h1 h2;exact Jk ⟨h1,h2,hz⟩
def km {l:List Nat}{i:Nat}(hl:∀j∈l,j<=1000):inD false (.int (i:Int)) (.tuple (j3 l))=some (.bool (decide (i∈l))):=by
 have h:=eY (i:=i) hl;have hs:SeqAt.shaped (.tuple (j3 l))=true:=(gy hl).shaped (by decide) (by decide);have hi:SeqAt.shaped (.int (i:Int))=true:=by simp[SeqAt.shaped,My.canLay0,My.depth]
 have e1:inD true (.int (i:Int)) (.tuple (j3 l))=some (.bool (!((j3 l).any λy=>y.eqv (.int (i:Int))))):=by
  show(if SeqAt.shaped (.tuple (j3 l))=true/\SeqAt.shaped (.int (i:Int))=true then _ else none)=_;rw[Jk ⟨hs,hi⟩,Jk rfl]
 rw[e1]at h;have e2:inD false (.int (i:Int)) (.tuple (j3 l))=some (.bool ((j3 l).any λy=>y.eqv (.int (i:Int)))):=by
  show(if SeqAt.shaped (.tuple (j3 l))=true/\SeqAt.shaped (.int (i:Int))=true then _ else none)=_;rw[Jk ⟨hs,hi⟩,Jo (by decide)]
 rw[e2];have h3:(!((j3 l).any λy=>y.eqv (.int (i:Int)))) = !decide (i∈l):=by
  injection h with h
  injection h
 have h4:((j3 l).any λy=>y.eqv (.int (i:Int)))=decide (i∈l):=by
  generalize ((j3 l).any λy=>y.eqv (.int (i:Int)))=x at h3;generalize decide (i∈l)=y at h3;cases x <;> cases y <;> simp_all
 rw[h4]
abbrev zy (a w:Nat):My:=.tuple [.str "in",.int (a:Int),.int (w:Int)]
abbrev goD (a m w:Nat):My:=.tuple [.str "gone",.int (a:Int),.int (m:Int),.int (w:Int)]
section
variable {F:FdS}{Q:My->FdS->Prop}
def wJ {a w:Nat}{b:Bool}(q:Q (zy a (w+if b then 1 else 0)) F):wp (L8 [.dat (zy a w),.dat (.bool b),.dat .none] F) Q:=by
 unfold L8;refine fZ.2 ?_;dsimp only[x4,Jy,Kl,JB,KE,List.replicate,KF,Ku,Nat.reduceAdd,Nat.reduceSub];refine i9.2 (X2.2 (l9.2 (l8 rfl (c6 rfl (h9 (i9.2 (xc (x:=(w:Int)) rfl (iB.2 (ui.2 (g9.2 (i6 rfl (c6 rfl (P6 (λhb=>?_) λhb=>?_)))))))))))))
 .refine u7.2 ⟨1,rfl,h9 (i9.2 (W2.2 (Y1.2 (n9.2 (g9.2 (i6 rfl (u7.2 (c6 rfl (c6 rfl (T3 rfl ?_))))))))))⟩;rw[hb,Jk rfl]at q;exact aT.2 (R1.2 (a9.2 (l9.2 (l8 rfl (a9.2 (l9.2 (l8 rfl (a9.2 (l9.2 (l8 rfl (d7.2 ⟨B3 rfl,wW (ft q)⟩)))))))))))
 .refine u7.2 ⟨0,rfl,h9 (i9.2 (W2.2 (Y1.2 (n9.2 (g9.2 (i6 rfl (u7.2 (c6 rfl (c6 rfl (T3 rfl ?_))))))))))⟩;rw[hb,Jo (by simp)]at q;have e:(w:Int)+0=((w+0:Nat):Int):=by omega
  rw[<-show((w+0:Nat):Int)=(w:Int)+0 from by omega] at *;exact aT.2 (R1.2 (a9.2 (l9.2 (l8 rfl (a9.2 (l9.2 (l8 rfl (a9.2 (l9.2 (l8 rfl (d7.2 ⟨B3 rfl,wW (ft q)⟩)))))))))))
def pH {a w m:Nat}(q:Q (goD a m w) F):wp (L8 [.dat (zy a w),.dat (.bool false),.dat (.int (m:Int))] F) Q:=by
 unfold L8;refine fZ.2 ?_;dsimp only[x4,Jy,Kl,JB,KE,List.replicate,KF,Ku,Nat.reduceAdd,Nat.reduceSub];refine i9.2 (X2.2 (l9.2 (l8 rfl (c6 rfl (h9 (i9.2 (xc (x:=(w:Int)) rfl (iB.2 (ui.2 (g9.2 (i6 rfl (c6 rfl (u9 rfl (u7.2 ⟨0,rfl,h9 (i9.2 (W2.2 (Y1.2 (n9.2 (g9.2 (i6 rfl (u7.2 (c6 rfl (c6 rfl (u9 rfl (bW.2 (h9 ?_))))))))))))⟩))))))))))))));exact aT.2 (R1.2 (a9.2 (u7.2 (a9.2 (l9.2 (l8 rfl (a9.2 (l9.2 (l8 rfl (a9.2 (l9.2 (l8 rfl (d7.2 ⟨B3 rfl,ft (by rw[Int.add_zero];exact q)⟩)))))))))))))
end
end
section
section
variable (h:Nat)(way:List Bt)
end
section
variable {h:Nat}{way:List Bt}{m:Nat}
end
end
section
variable [Fam]
section
variable {F:FdS}{Q:My->FdS->Prop}
def nj (a b:Nat):af (a:Int) b=j3 ((List.range b).map (a + ·)):=by
 unfold af j3;rw[JF];refine JU λi _=>?_
 show My.int ((a:Int)+(i:Int)) = .int ((a+i:Nat):Int);have e2:((a+i:Nat):Int)=(a:Int)+(i:Int):=by omega
 rw[e2]
def tV (l:List Nat):O9 0 (j3 l)=(List.range l.length).map λi=>.tuple [.int (i:Int),.int (l.getD i 0:Nat)]:=by
 have key:∀(l:List My) (k:Nat),O9 k l=(List.range l.length).map λi=>.tuple [.int ((k+i:Nat):Int),l.getD i .none]:=by
  intro l;induction l with
  | nil=>intro k;rfl
  | cons d l ih =>
   intro k;rw[O9,ih,JB,LX,Jy,JF];have e1:(My.tuple [.int (k:Int),d]) = .tuple [.int ((k+0:Nat):Int),(d::l).getD 0 .none]:=by simp
   rw[<-e1];refine Kk (List.cons _) (JU λi _=>?_);simp only[Function.comp,Mm,Nk];rw[show k+1+i=k+(i+1) by omega]
 rw[key,C7];refine JU λi hi=>?_
 have hi:=JN.1 hi;unfold j3;rw[JZ,Jr,Js,Ji hi,Jr,Ji hi];rfl
end
variable [Fam]
def yi:eqD false (.str "gone") (.str "gone")=some (.bool true):=by
 show some (My.bool (if false=true then !decide (("gone":Str) = "gone") else decide (("gone":Str) = "gone")))=_;rw[Jo (by decide),Kn rfl]
section
variable {F:FdS}{Q:My->FdS->Prop}
end
end
section
def FI (K:Fg)(x:Str)(st:NW):Prop:=∃(f:NP) (oc:NO) (od:Option NP) (kV doc pm:NO) (an:Option NP) (cdv ct:NO) (osl:Array (Option NO)),
 PySem.W.nsIn K Og x=some (some (.ref f))/\K.lookup f=some ⟨oc,od,.func (PySem.W.fnOf x x (defArgs st) (defBody st) (defScope st) .none kV doc pm an cdv ct),osl⟩/\PySem.W.codeIn K cdv x=true/\PySem.W.keepIn K (.ref f)=true
variable {P:NR}{w:NS}{K:Fg}{mg:Str->Option NO}{base h:NY}{x q:Str}{st:NW}{f:NP}{fd:NV}{ps:List Str}{k:Nat}{sp:Sp}
def FI.of {oc:NO}{od:Option NP}{kV doc pm:NO}{an:Option NP}{cdv ct:NO}{osl:Array (Option NO)}(a:PySem.W.nsIn K Og x=some (some (.ref f)))(b:K.lookup f=some ⟨oc,od,.func (PySem.W.fnOf x x (defArgs st) (defBody st) (defScope st) .none kV doc pm an cdv ct),osl⟩)
  (c:PySem.W.codeIn K cdv x=true) (d:PySem.W.keepIn K (.ref f)=true):FI K x st:=⟨f,oc,od,kV,doc,pm,an,cdv,ct,osl,a,b,c,d⟩
def FI.mk (X:K.In h)(G:h.Ns Og mg)(ps:List Str)(F:FI K x st)
  (hb:∀(kV doc pm:NO) (an:Option NP) (cdv ct:NO) (us:List NO),us.length=ps.length->bindArgs (PySem.W.fnOf x x (defArgs st) (defBody st) (defScope st) .none kV doc pm an cdv ct) ⟨us,[]⟩=pure (ps.zip us)) :
  ∃f fd,Fun K x x st f fd/\mg x=some (.ref f)/\fG K fd ps []/\(∃oc od osl,K.lookup f=some ⟨oc,od,.func fd,osl⟩)/\PySem.W.nsIn K Og x=some (some (.ref f)):=by
 obtain⟨f,oc,od,kV,doc,pm,an,cdv,ct,osl,a,b,c,d⟩:=F;have Fn:=fun_mk b c d;exact⟨f,_,Fn,MU X G a,Fn.binds hb,⟨oc,od,osl,b⟩,a⟩
def cal (P:NR)(w:NS)(base:NY)(F:FnOk P w K mg base CX0 k f fd ps sp)(m:mg x=some (.ref f))(Fn:Fun K x q st f fd)(b:fG K fd ps []):k9 P w K mg base x k ps sp:=⟨f,fd,F,m,Fn.kp,b⟩
end
section
end
section
end
section
class Regs where
 S:Type
 Reg:Fg->Hp->Hp->NP->S->List NP->Prop
 keep:∀{K:Fg} {V V' H H':Hp} {d:NP} {μ:S} {A:List NP},Reg K V H d μ A->d8 V V'->(∀a∈A,H' a=H a)->Reg K V' H' d μ A
 has:∀{K:Fg} {V H:Hp} {d:NP} {μ:S} {A:List NP},Reg K V H d μ A->∀a∈A,∃o,H a=some o
 lam:List Str
@[reducible] def G4 [Regs]:Feeds where
 S:=Regs.S
 At:=λ_ _ _ _=>False
 some1:=λh=>h.elim
 some2:=λh=>h.elim
 congr:=λh _ _=>h.elim
 lam:=Regs.lam
def A4 (E:DE)(i:Nat):Option NP:=match E[i]? with
 | some (some (.adr a))=>some a
 | _=>none
section
variable [Regs]
local instance regI:Feeds:=G4
structure SitMB (K:Fg) (i0:Nat) (d:NP) (B0 A0:List NP) (H0:Hp) (B A:List NP) (E:DE) (μ:FS) (σ:St) (H:Hp):Prop where
 s:∀b∈B0,b∈B
 sn:∀b∈B,b∈B0\/H0 b=none
 I:SitE K none B E μ σ H
 rg:Regs.Reg K (hid H B) H d μ A
 aB:∀a∈A,a∈B/\a ∉ tabP K/\(a∈A0\/(H0 a=none/\a ∉ B0))
 pin:A4 E i0=some d
 tB:∀b∈tabP K,b∈B0
 a0:∀a∈A0,a∈B0
 kp:∀b o,H0 b=some o->b ∉ tabP K->b ∉ A0->H b=some o
 own:∀(i:Nat) (ds:List My) (a:NP),E[i]? = some (some (DV.own ds))->σ[i]? = some (some (V.ref a))->(H0 a=none/\a ∉ B0)/\a ∉ A
 inj:∀(i j:Nat) (ds es:List My) (a:NP),E[i]? = some (some (DV.own ds))->E[j]? = some (some (DV.own es))->σ[i]? = some (some (V.ref a))->σ[j]? = some (some (V.ref a))->i=j
structure EndM (K:Fg) (d:NP) (B0 A0:List NP) (H0:Hp) (μ:FS) (H:Hp) (A:List NP):Prop where
 rg:Regs.Reg K (hid H (A++B0)) H d μ A
 aB:∀a∈A,a ∉ tabP K/\(a∈A0\/(H0 a=none/\a ∉ B0))
 kp:∀b o,H0 b=some o->b ∉ tabP K->b ∉ A0->H b=some o
 tb:D3 (tabsK Feeds.lam K) H
 bk:BOk H B0
def BY (K:Fg)(i0:Nat)(d:NP)(B0 A0:List NP)(H0:Hp)(μ:FS)(D:Ends):Out->Prop
 | .nx E=>∀B A σ H,SitMB K i0 d B0 A0 H0 B A E μ σ H->D.nx σ H
 | .bk E=>∀B A σ H,SitMB K i0 d B0 A0 H0 B A E μ σ H->D.bk σ H
 | .ct E=>∀B A σ H,SitMB K i0 d B0 A0 H0 B A E μ σ H->D.ct σ H
 | .rt r=>∀v H A,EndM K d B0 A0 H0 μ H A->a7 K (hid H (A++B0)) r v->D.rt v H
def TSm (K:Fg)(i0:Nat)(ts:TS)(m:DE->M Out):Prop:=∀(d:NP) (B0 A0:List NP) (H0:Hp) (B A:List NP) (E:DE) (μ:FS) (σ:St) (H:Hp) (D:Ends) (r:Out) (μ':FS),SitMB K i0 d B0 A0 H0 B A E μ σ H->m E μ=some (r,μ')->BY K i0 d B0 A0 H0 μ' D r->ts D σ H
def TEm (K:Fg)(i0:Nat)(te:TE)(m:DE->M My):Prop:=∀(d:NP) (B0 A0:List NP) (H0:Hp) (B A:List NP) (E:DE) (μ:FS) (σ:St) (H:Hp) (Q:VK) (r:My) (μ':FS),SitMB K i0 d B0 A0 H0 B A E μ σ H->m E μ=some (r,μ') ->
 (∀v H' B' A',SitMB K i0 d B0 A0 H0 B' A' E μ' σ H'->d8 (hid H B) (hid H' B')->a7 K (hid H' B') r v->Q v H')->te σ H Q
def TTm (K:Fg)(i0:Nat)(tt:TT)(m:DE->M Bool):Prop:=∀(d:NP) (B0 A0:List NP) (H0:Hp) (B A:List NP) (E:DE) (μ:FS) (σ:St) (H:Hp) (Q:Bool->Hp->Prop) (r:Bool) (μ':FS),SitMB K i0 d B0 A0 H0 B A E μ σ H->m E μ=some (r,μ') ->
 (∀H' B' A',SitMB K i0 d B0 A0 H0 B' A' E μ' σ H'->d8 (hid H B) (hid H' B')->Q r H')->tt σ H Q
def TAm (K:Fg)(i0:Nat)(ta:TA)(m:DE->M (List My)):Prop:=∀(d:NP) (B0 A0:List NP) (H0:Hp) (B A:List NP) (E:DE) (μ:FS) (σ:St) (H:Hp) (Q:List V->Hp->Prop) (r:List My) (μ':FS),SitMB K i0 d B0 A0 H0 B A E μ σ H->m E μ=some (r,μ') ->
 (∀vs H' B' A',SitMB K i0 d B0 A0 H0 B' A' E μ' σ H'->d8 (hid H B) (hid H' B')->a6 K (hid H' B') r vs->Q vs H')->ta σ H Q
structure SmR (K:Fg) (X:Cx) (i0:Nat) (st:NW) (ts:TS) (m:DE->M Out):Prop where
 ps:PS X st ts
 ok:TSm K i0 ts m
structure SmsR (K:Fg) (X:Cx) (i0:Nat) (sts:List NW) (ts:TS) (m:DE->M Out):Prop where
 ps:PSs X sts ts
 ok:TSm K i0 ts m
structure Em (K:Fg) (X:Cx) (i0:Nat) (e:NX) (te:TE) (m:DE->M My):Prop where
 pe:PE X e te
 ok:TEm K i0 te m
structure Etm (K:Fg) (X:Cx) (i0:Nat) (e:NX) (tt:TT) (m:DE->M Bool):Prop where
 pt:PT X e tt
 ok:TTm K i0 tt m
structure Eam (K:Fg) (X:Cx) (i0:Nat) (es:List NX) (ta:TA) (m:DE->M (List My)):Prop where
 pa:PA X es ta
 ok:TAm K i0 ta m
variable {K:Fg}{X:Cx}{i0:Nat}{a b c e tg iter:NX}{es:List NX}{st:NW}{sts rest:List NW}{ta tb te:TE}{ma mb m:DE->M My}{t u:TS}{mt mu:DE->M Out}{pos pos' p p2:Pos}
section
variable {d:NP}{B0 A0:List NP}{H0:Hp}{B A:List NP}{E E':DE}{μ:FS}{σ σ':St}{H H':Hp}
def SitMB.step (S:SitMB K i0 d B0 A0 H0 B A E μ σ H)(k:Kp (tabP K) H H')(f:D3 (tabsK Feeds.lam K) H'):SitMB K i0 d B0 A0 H0 B A E μ σ H' :=
 have fB:∀b∈tabP K,b∈B:=λb hb=>S.s b (S.tB b hb)
 ⟨S.s,S.sn,S.I.step (G:=none) k ⟨trivial,f⟩,Regs.keep S.rg (k.hid fB) λa ha=>by
   obtain⟨o,e⟩:=Regs.has S.rg a ha;rw[e];exact k a o e (S.aB a ha).2.1,S.aB,S.pin,S.tB,S.a0,λb o e n1 n2=>k b o (S.kp b o e n1 n2) n1,S.own,S.inj⟩
def SitMB.sm (S:SitMB K i0 d B0 A0 H0 B A E μ σ H)(k:Kp (tabP K) H H'):d8 (hid H B) (hid H' B):=k.hid λb hb=>S.s b (S.tB b hb)
def SitMB.bind (S:SitMB K i0 d B0 A0 H0 B A E μ σ H)(I:SitE K none B E' μ σ' H)(fr:∀i:Nat,(∀y,E'[i]? ≠ some (some (.dat y)))->E'[i]? = E[i]? /\ σ'[i]? = σ[i]?)(hp:A4 E' i0=A4 E i0):SitMB K i0 d B0 A0 H0 B A E' μ σ' H:=by
 refine⟨S.s,S.sn,I,S.rg,S.aB,hp.trans S.pin,S.tB,S.a0,S.kp,λi ds a ei si=>?_,λi j ds es a ei ej si sj=>?_⟩
 .obtain⟨a1,a2⟩:=fr i λy z=>by rw[ei]at z;cases z
  exact S.own i ds a (a1▸ei) (a2▸si)
 .obtain⟨a1,a2⟩:=fr i λy z=>by rw[ei]at z;cases z
  obtain⟨b1,b2⟩:=fr j λy z=>by rw[ej]at z;cases z
  exact S.inj i j ds es a (a1▸ei) (b1▸ej) (a2▸si) (b2▸sj)
def SitMB.fin (S:SitMB K i0 d B0 A0 H0 B A E μ σ H):EndM K d B0 A0 H0 μ H A/\d8 (hid H B) (hid H (A++B0)):=by
 have sub:∀b∈A++B0,b∈B:=λb hb=>by
  rcases Jj.1 hb with h | h
  .exact(S.aB b h).1
  .exact S.s b h
 exact⟨⟨Regs.keep S.rg (M7 sub) λ_ _=>rfl,λa ha=>(S.aB a ha).2,S.kp,S.I.fd.2,λb hb=>S.I.bk b (S.s b hb)⟩,M7 sub⟩
def SitMB.base (S:SitMB K i0 d B0 A0 H0 B A E μ σ H):SitMB K i0 d B0 A0 (M2 H B B0) B A E μ σ H:=by
 refine⟨S.s,λb hb=>?_,S.I,S.rg,λa ha=>?_,S.pin,S.tB,S.a0,λb o e _ _=>d6 b o e,λi ds a ei si=>?_,S.inj⟩
 .by_cases h:b∈B0
  .exact .inl h
  .exact .inr (Q5 hb h)
 .obtain⟨h1,h2,h3⟩:=S.aB a ha;exact⟨h1,h2,h3.imp id λh=>⟨Q5 h1 h.2,h.2⟩⟩
 .obtain⟨v,v1,a',xs,rfl,hB,_⟩:=S.I.loc i _ ei;rw[v1]at si;cases si;obtain⟨h1,h2⟩:=S.own i ds _ ei v1;exact⟨⟨Q5 hB h1.2,h1.2⟩,h2⟩
def SitMB.no (S:SitMB K i0 d B0 A0 H0 B A E μ σ H)(b:NP)(e:M2 H B B0 b=none):b∈B0\/H0 b=none:=by
 by_cases hb:b∈B
 .exact S.sn b hb
 .rw[D9 (.inl hb)]at e;cases q:H0 b with
  | none=>exact .inr rfl
  | some o =>
   have h0:b ∉ B0:=λz=>hb (S.s b z)
   rw[S.kp b o q (λz=>h0 (S.tB b z)) λz=>h0 (S.a0 b z)]at e;cases e
def SitMB.cutkp (S:SitMB K i0 d B0 A0 H0 B A E μ σ H)(k:∀b o,M2 H B B0 b=some o->b ∉ tabP K->b ∉ A0->H' b=some o):∀b o,H0 b=some o->b ∉ tabP K->b ∉ A0->H' b=some o:=λb o e n1 n2=>by
 refine k b o ?_ n1 n2;rw[D9]
 .exact S.kp b o e n1 n2
 .by_cases hb:b∈B
  .rcases S.sn b hb with h | h
   .exact .inr h
   .rw[h]at e;cases e
  .exact .inl hb
def SitMB.unbase {B' A':List NP}{μ':FS}(S:SitMB K i0 d B0 A0 H0 B A E μ σ H)(S2:SitMB K i0 d B0 A0 (M2 H B B0) B' A' E' μ' σ' H'):SitMB K i0 d B0 A0 H0 B' A' E' μ' σ' H':=by
 refine⟨S2.s,λb hb=>(S2.sn b hb).elim .inl λh=>S.no b h,S2.I,S2.rg,λa ha=>?_,S2.pin,S2.tB,S2.a0,S.cutkp S2.kp,λi ds a ei si=>?_,S2.inj⟩
 .obtain⟨h1,h2,h3⟩:=S2.aB a ha;exact⟨h1,h2,h3.imp id λh=>⟨(S.no a h.1).resolve_left h.2,h.2⟩⟩
 .obtain⟨h1,h2⟩:=S2.own i ds a ei si;exact⟨⟨(S.no a h1.1).resolve_left h1.2,h1.2⟩,h2⟩
def SitMB.unend {A':List NP}{μ':FS}(S:SitMB K i0 d B0 A0 H0 B A E μ σ H)(S2:EndM K d B0 A0 (M2 H B B0) μ' H' A'):EndM K d B0 A0 H0 μ' H' A':=by
 refine⟨S2.rg,λa ha=>?_,S.cutkp S2.kp,S2.tb,S2.bk⟩;obtain⟨h2,h3⟩:=S2.aB a ha;exact⟨h2,h3.imp id λh=>⟨(S.no a h.1).resolve_left h.2,h.2⟩⟩
def SitMB.stab {B' A':List NP}{μ':FS}(S:SitMB K i0 d B0 A0 H0 B A E μ σ H)(S2:SitMB K i0 d B0 A0 (M2 H B B0) B' A' E' μ' σ' H'):d8 (hid H B) (hid H' B'):=λb o eb=>by
 by_cases hB:b∈B
 .rw[z9 hB]at eb;cases eb
 .rw[e9 hB]at eb;have h0:b ∉ B0:=λz=>hB (S.s b z)
  have ec:M2 H B B0 b=some o:=by rw[D9 (.inl hB)];exact eb
  rw[e9 λz=>(S2.sn b z).elim h0 λh=>by rw[h]at ec;cases ec];exact S2.kp b o ec (λz=>h0 (S2.tB b z)) λz=>h0 (S2.a0 b z)
def SitMB.write {i:Nat}{ds ds':List My}{x:NP}{vs':List V}(S:SitMB K i0 d B0 A0 H0 B A E μ σ H)(ei:E[i]? = some (some (DV.own ds)))(si:σ[i]? = some (some (V.ref x)))
  (hd:a6 K (hid H B) ds' vs'):SitMB K i0 d B0 A0 H0 B A (E.set i (some (.own ds'))) μ σ (upd H x (.lst vs')):=by
 have I:=S.I;have hl:i<E.length:=(Jm.1 ei).1;obtain⟨v,v1,x',xs,rfl,hB,hf,hx,_⟩:=I.loc i _ ei;rw[si]at v1;cases v1;have e1:hid (upd H x (.lst vs')) B=hid H B:=W0 hB;obtain⟨⟨n1,n2⟩,n3⟩:=S.own i ds x ei si;have back:∀(j:Nat) (es:List My),(E.set i (some (.own ds')))[j]? = some (some (DV.own es))->∃es,E[j]? = some (some (DV.own es)):=λj es ej=>by
  by_cases hj:i=j
  .subst hj;exact⟨ds,ei⟩
  .rw[Jp hj]at ej;exact⟨es,ej⟩
 refine⟨S.s,S.sn,⟨I.fd.congr λb hb=>a8 (λz=>hb.elim (λhb=>hf (z▸hb)) λ⟨φ,q⟩=>by rw[z,hx]at q;cases q),I.fB,λb hb=>?_,by rw[Kh];exact I.ln,λj y ej=>?_⟩,?_,S.aB,?_,S.tB,S.a0,λb o eb n4 n5=>?_,λj es a' ej sj=>?_,λj k es es' a' ej ek sj sk=>?_⟩
 .by_cases h:b=x
  .subst h;exact⟨_,c7⟩
  .rw[a8 h];exact I.bk b hb
 .by_cases hj:i=j
  .subst hj;rw[Ju hl]at ej;cases ej;exact⟨.ref x,si,x,vs',rfl,hB,hf,c7,by rw[e1];exact hd⟩
  .rw[Jp hj]at ej;obtain⟨w,w1,w2⟩:=I.loc j y ej;refine⟨w,w1,?_⟩;cases y with
   | dat d=>show a7 K (hid (upd H x (.lst vs')) B) d w;rw[e1];exact w2
   | feed=>exact w2
   | fn _=>exact w2
   | adr _=>exact w2
   | own es =>
    obtain⟨a',xs',rfl,hB',hf',ha',hd'⟩:=w2;have hne:a'≠x:=λz=>hj (S.inj i j ds es x ei ej si (z▸w1))
    exact⟨a',xs',rfl,hB',hf',by rw[a8 hne];exact ha',by rw[e1];exact hd'⟩
 .rw[e1];exact Regs.keep S.rg (d8.refl _) λa ha=>a8 λz=>n3 (z▸ha)
 .rw[<-S.pin];unfold A4;by_cases hj:i=i0
  .subst hj;rw[Ju hl,ei]
  .rw[Jp hj]
 .rw[a8]
  .exact S.kp b o eb n4 n5
  .intro z;subst z;rw[n1]at eb;cases eb
 .obtain⟨es',ej'⟩:=back j es ej;exact S.own j es' a' ej' sj
 .obtain⟨f1,ej'⟩:=back j es ej;obtain⟨f2,ek'⟩:=back k es' ek;exact S.inj j k f1 f2 a' ej' ek' sj sk
end
def mE {α:Type}(m:DE->M α):DE->M α:=λE μ=>(m E μ).bind λp=>some (p.1,μ)
def Bq (h:TEd K te m):TEm K i0 te (mE m):=λd B0 A0 H0 B A E μ σ H Q r μ' S e q=>by
 obtain⟨⟨x,μ1⟩,e1,e⟩:=bS9 e;cases e;exact h none B E μ σ H _ x μ1 S.I e1 λv H1 k1 f1 h1=>q v H1 B A (S.step k1 f1.2) (S.sm k1) h1
def AU {tt:TT}{m:DE->M Bool}(h:TTd K tt m):TTm K i0 tt (mE m):=λd B0 A0 H0 B A E μ σ H Q r μ' S e q=>by
 obtain⟨⟨x,μ1⟩,e1,e⟩:=bS9 e;cases e;exact h none B E μ σ H _ x μ1 S.I e1 λH1 k1 f1=>q H1 B A (S.step k1 f1.2) (S.sm k1)
def nQ (h:Ev K X e te m):Em K X i0 e te (mE m):=⟨h.pe,Bq h.ok⟩
def Cq {tt:TT}{m:DE->M Bool}(h:Et K X e tt m):Etm K X i0 e tt (mE m):=⟨h.pt,AU h.ok⟩
def cj (i0:Nat)(E:DE)(μ:FS):Out->Option (Out×FS)
 | .nx E1=>if A4 E1 i0=A4 E i0 then some (.nx E1,μ) else none
 | .bk E1=>if A4 E1 i0=A4 E i0 then some (.bk E1,μ) else none
 | .ct E1=>if A4 E1 i0=A4 E i0 then some (.ct E1,μ) else none
 | .rt d=>some (.rt d,μ)
def mL (i0:Nat)(m:DE->M Out):DE->M Out:=λE μ=>(m E μ).bind λp=>cj i0 E μ p.1
def BA (h:TSd K t mt):TSm K i0 t (mL i0 mt):=λd B0 A0 H0 B A E μ σ H D r μ' S e q=>by
 obtain⟨⟨x,μ1⟩,e1,e⟩:=bS9 e;have sub:∀b∈B0++A,b∈B:=λb hb=>by
  rcases Jj.1 hb with h | h
  .exact S.s b h
  .exact(S.aB b h).1
 have St:Sit K none (B0++A) (M2 H B (B0++A)) E μ σ H:=by
  refine⟨⟨B,sub,λb hb=>?_,S.I⟩,λb hb=>Jj.2 (.inl (S.tB b hb)),Kp.same d6,λi ds a ei si=>?_,S.inj⟩
  .by_cases h:b∈B0++A
   .exact .inl h
   .exact .inr (Q5 hb h)
  .obtain⟨v,v1,a',xs,rfl,hB,_⟩:=S.I.loc i _ ei;rw[v1]at si;cases si;obtain⟨h1,h2⟩:=S.own i ds _ ei v1;have:a ∉ B0++A:=λz=>(Jj.1 z).elim h1.2 h2
   exact⟨Q5 hB this,this⟩
 have kp0:∀{H2:Hp},Kp (tabP K) (M2 H B (B0++A)) H2->∀b o,H0 b=some o->b ∉ tabP K->b ∉ A0->H2 b=some o:=λ{H2} k b o eb n1 n2=>by
  refine k b o ?_ n1;rw[D9]
  .exact S.kp b o eb n1 n2
  .by_cases hb:b∈B
   .rcases S.sn b hb with h | h
    .exact .inr (Jj.2 (.inl h))
    .rw[h]at eb;cases eb
   .exact .inl hb
 have atA:∀{H2:Hp},Kp (tabP K) (M2 H B (B0++A)) H2->∀a∈A,H2 a=H a:=λ{H2} k a ha=>by
  obtain⟨o,ea⟩:=Regs.has S.rg a ha;rw[ea];refine k a o ?_ (S.aB a ha).2.1;rw[D9 (.inr (Jj.2 (.inr ha)))];exact ea
 have vis:∀{H2:Hp} {B2:List NP},Kp (tabP K) (M2 H B (B0++A)) H2->(∀b∈B2,b∈B0++A\/M2 H B (B0++A) b=none)->d8 (hid H B) (hid H2 B2):=λ{H2 B2} k sn2 b o eb=>by
  by_cases hB:b∈B
  .rw[z9 hB]at eb;cases eb
  .rw[e9 hB]at eb;have ec:M2 H B (B0++A) b=some o:=by rw[D9 (.inl hB)];exact eb
   rw[e9 λz=>(sn2 b z).elim (λh=>hB (sub b h)) λh=>by rw[h]at ec;cases ec];exact k b o ec λz=>hB (S.s b (S.tB b z))
 have no:∀b,M2 H B (B0++A) b=none->b∈B0\/H0 b=none:=λb eb=>by
  by_cases hb:b∈B
  .exact S.sn b hb
  .rw[D9 (.inl hb)]at eb;cases q:H0 b with
   | none=>exact .inr rfl
   | some o =>
    have h0:b ∉ B0:=λz=>hb (S.s b z)
    rw[S.kp b o q (λz=>h0 (S.tB b z)) λz=>h0 (S.a0 b z)]at eb;cases eb
 have again:∀{E1:DE},A4 E1 i0=A4 E i0->∀σ2 H2,Sit K none (B0++A) (M2 H B (B0++A)) E1 μ1 σ2 H2->∃B2,SitMB K i0 d B0 A0 H0 B2 A E1 μ σ2 H2:=λ{E1} hp σ2 H2 S2=>by
  obtain⟨B2,s2,sn2,I2⟩:=S2.ex;refine⟨B2,λb hb=>s2 b (Jj.2 (.inl hb)),λb hb=>?_,⟨⟨trivial,I2.fd.2⟩,I2.fB,I2.bk,I2.ln,I2.loc⟩,Regs.keep S.rg (vis S2.kp sn2) (atA S2.kp),λa ha=>⟨s2 a (Jj.2 (.inr ha)),(S.aB a ha).2⟩,hp.trans S.pin,S.tB,S.a0,kp0 S2.kp,λi ds a ei si=>?_,S2.inj⟩
  .rcases sn2 b hb with h | h
   .rcases Jj.1 h with h | h
    .exact .inl h
    .exact S.sn b (S.aB b h).1
   .exact no b h
  .obtain⟨h1,h2⟩:=S2.own i ds a ei si;have h3:a ∉ B0:=λz=>h2 (Jj.2 (.inl z))
   exact⟨⟨(no a h1).resolve_left h3,h3⟩,λz=>h2 (Jj.2 (.inr z))⟩
 refine h none (B0++A) (M2 H B (B0++A)) E μ σ H D x μ1 St e1 ?_;cases x with
 | nx E1 =>
  unfold cj at e;dsimp only at e;split at e
  .rename_i hp;cases e;exact λσ2 H2 S2=>by obtain⟨B2,z⟩:=again hp σ2 H2 S2;exact q B2 A σ2 H2 z
  .cases e
 | bk E1 =>
  unfold cj at e;dsimp only at e;split at e
  .rename_i hp;cases e;exact λσ2 H2 S2=>by obtain⟨B2,z⟩:=again hp σ2 H2 S2;exact q B2 A σ2 H2 z
  .cases e
 | ct E1 =>
  unfold cj at e;dsimp only at e;split at e
  .rename_i hp;cases e;exact λσ2 H2 S2=>by obtain⟨B2,z⟩:=again hp σ2 H2 S2;exact q B2 A σ2 H2 z
  .cases e
 | rt y =>
  cases e;intro v H2 k2 f2 h2;have ww:d8 (hid H2 (B0++A)) (hid H2 (A++B0)):=M7 λb hb=>Jj.2 ((Jj.1 hb).symm)
  refine q v H2 A ⟨Regs.keep S.rg ((vis k2 λb hb=>.inl hb).trans ww) (atA k2),λa ha=>(S.aB a ha).2,kp0 k2,f2.2,λb hb=>?_⟩ (h2.same ww);by_cases hb':b∈tabP K
  .exact f2.bok b hb'
  .obtain⟨o,eo⟩:=S.I.bk b (S.s b hb);refine⟨o,k2 b o ?_ hb'⟩;rw[D9 (.inr (Jj.2 (.inl hb)))];exact eo
def iq (h:Ss K X st t mt):SmR K X i0 st t (mL i0 mt):=⟨h.ps,BA h.ok⟩
end
end
section
def iQ (i0:Nat)(bd:My->DE->Option DE):Prop:=∀x E E',bd x E=some E'->A4 E' i0=A4 E i0
def kX (i0:Nat)(bd:List My->DE->Option DE):Prop:=∀x E E',bd x E=some E'->A4 E' i0=A4 E i0
def T9 {i0 j:Nat}(h:j≠i0):iQ i0 (bN j):=λx E E' e=>by
 unfold bN at e;split at e
 .cases e;unfold A4;rw[Jp h]
 .cases e
def ff {i0:Nat}:kX i0 S7:=λx E E' e=>by
 unfold S7 at e;split at e
 .cases e;rfl
 .cases e
def M9 {i0:Nat}{f:My->DE->Option DE}{r:List My->DE->Option DE}(h1:iQ i0 f)(h2:kX i0 r):kX i0 (j8 f r):=λx E E' e=>by
 unfold j8 at e;split at e
 .obtain⟨E1,e1,e⟩:=bS9 e;exact(h2 _ _ _ e).trans (h1 _ _ _ e1)
 .cases e
def eT {i0 n:Nat}{r:List My->DE->Option DE}(h:kX i0 r):iQ i0 (P9 n r):=λx E E' e=>by
 unfold P9 at e;split at e
 .split at e
  .exact h _ _ _ e
  .cases e
 .cases e
section
variable [Regs]
local instance regI2:Feeds:=G4
variable {K:Fg}{X:Cx}{i0:Nat}{a b c e tg iter:NX}{es:List NX}{st:NW}{sts rest:List NW}{ta tb te:TE}{ma mb m:DE->M My}{t u:TS}{mt mu:DE->M Out}{pos pos' p p2:Pos}
def wt:SmsR K X i0 [] vS mNx:=⟨gB,λd B0 A0 H0 B A E μ σ H D r μ' S e q=>by cases e;exact q B A σ H S⟩
def L6 (h1:SmR K X i0 st t mt)(h2:SmsR K X i0 rest u mu):SmsR K X i0 (st::rest) (T5 t u) (mSq mt mu):=⟨l3 h1.ps h2.ps,λd B0 A0 H0 B A E μ σ H D r μ' S e q=>by
 obtain⟨⟨o,μ1⟩,e1,e⟩:=bS9 e;refine h1.ok d B0 A0 H0 B A E μ σ H _ o μ1 S e1 ?_;cases o with
 | nx E1=>exact λB1 A1 σ' H' S'=>h2.ok d B0 A0 H0 B1 A1 E1 μ1 σ' H' D r μ' S' e q
 | rt d=>cases e;exact q
 | bk E1=>cases e;exact q
 | ct E1=>cases e;exact q⟩
def ia (h1:SmR K X i0 st t mt):SmsR K X i0 [st] t mt:=⟨C6 h1.ps,h1.ok⟩
def Av {g:TG}{bd:My->DE->Option DE}(he:TEm K i0 te m)(hg:TGd K g bd)(hk:iQ i0 bd):TSm K i0 (N0 te g) (bR bd m):=λd B0 A0 H0 B A E μ σ H D r μ' S e q=>by
 obtain⟨⟨x,μ1⟩,e1,e⟩:=bS9 e;obtain⟨E1,e2,e⟩:=bS9 e;cases e;refine he d B0 A0 H0 B A E μ σ H _ x _ S e1 λv H1 B1 A1 S1 _ h1=>?_
 exact hg none B1 E _ σ H1 v x E1 _ S1.I h1 e2 λσ' I' fr=>q B1 A1 σ' H1 (S1.bind I' fr (hk _ _ _ e2))
def iC (i:Nat){x:Str}(hi0:i≠i0)(hN:X.N.Nodup)(he:Em K X i0 e te m)(hi:X.N[i]? = some x:=by rfl)(hx:Loc X.env.scope x:=by first | exact Or.inl rfl | exact Or.inr rfl)(hs:Oh e (some (.Name x pos')) pos.line X.env=pure false:=by rfl)(hf:X.fn x=true\/X.env.scope.names.lookup x=some .local:=by first | exact .inl rfl | exact .inr rfl | assumption) :
  SmR K X i0 (.Assign [.Name x pos'] e pos) (N0 te (K0 i)) (A8 i m):=⟨N1 hN hi hx he.pe hs hf,Av he.ok (lO i) (T9 hi0)⟩
def wQ {g:TG}{bd:My->DE->Option DE}(he:Em K X i0 e te m)(hg:Eg K X tg g bd)(hk:iQ i0 bd)(hs:swapsWithSole [tg] e pos.line X.env=pure false:=by rfl)(hw:swappedStores [tg] e X.env=pure none:=by rfl)
  (h1:(Om [tg] X.env).map (·.2)=[assign tg X.env]:=by rfl):SmR K X i0 (.Assign [tg] e pos) (N0 te g) (bR bd m):=⟨T7 he.pe hg.pg hs hw h1,Av he.ok hg.ok hk⟩
def CZ {i:Nat}(hv:TEm K i0 te m):TSm K i0 (cb (tBM K "list" R7 (t9 i) (v6 te F0))) (aC i m):=λd B0 A0 H0 B A E μ σ H D r μ' S e q=>by
 obtain⟨⟨x,μ1⟩,e1,e⟩:=bS9 e;obtain⟨ds,e4,e⟩:=bS9 e;split at e
 .rename_i hl;cases e;have eo:=V7 e4;obtain⟨w,w1,a,xs,rfl,hB,hf,hx,hdx⟩:=S.I.loc i _ eo;refine⟨_,w1,.inl ⟨rfl,xs,SqL.of hx⟩,hv d B0 A0 H0 B A E μ σ H _ x _ S e1 λu H2 B2 A2 S2 _ h2=>?_⟩;obtain⟨w',w1',a',xs',rfl,hB',hf',hx',hdx'⟩:=S2.I.loc i _ eo;rw[w1]at w1';cases w1';exact⟨a,xs',u,rfl,rfl,hx',by rw[hdx'.length];exact hl,q B2 A2 σ _ (S2.write eo w1 (hdx'.snoc h2))⟩
 .cases e
def AI (i:Nat){x:Str}{px ap cp:Pos}(hK:X.K=K)(hv:Em K X i0 e te m)(hN:X.N[i]? = some x:=by rfl)(hvis:Vis X.env.scope x:=by first | exact Or.inl rfl | exact Or.inr (Or.inl rfl) | exact Or.inr (Or.inr rfl))(hd:(x == ("__debug__":Str))=false:=by decide)(hcd:(x == ("__classdict__":Str))=false:=by decide)
  (hbase:Oi (.Name x px) "append" X.env (eval (.Name x px) X.env)=eval (.Name x px) X.env:=by rfl)
  (hfew:((Od cp (Oa [e] X.env)).all (λx=>!x.1)&&(Os cp (Ot [] X.env)).all (λx=>x.1.isSome)
   && decide ([e].length+([]:List Oe).length+(if ([]:List Oe).isEmpty then 0 else 1)<30))=true:=by rfl)
  (hline:(ap.endLine == cp.line)=true:=by rfl) (hst:Oa [e] X.env=(false,eval e X.env)::Oa [] X.env:=by rfl) (hplain:(Od cp (Oa [] X.env)).any (·.1)=false:=by rfl)
  (hs:Oh (.Call (.Attribute (.Name x px) "append" ap) [e] [] cp) none pos.line X.env=pure false:=by rfl) :
  SmR K X i0 (.Expr (.Call (.Attribute (.Name x px) "append" ap) [e] [] cp) pos) (cb (tBM K "list" R7 (t9 i) (v6 te F0))) (aC i m):=by
 subst hK;exact⟨ag (gS KU KP KQ L7 (D4 hN hvis hd hcd) (i8 hv.pe l6 hst) hbase hfew hline hst hplain) hs,CZ hv.ok⟩
def Aj {x y:List NW}{tt:TT}{mc:DE->M Bool}(hc:Etm K X i0 c tt mc)(ha:SmsR K X i0 x t mt)(hb:SmsR K X i0 y u mu):SmR K X i0 (.If c x y pos) (lX tt t u) (mIf mc mt mu):=⟨iS hc.pt ha.ps hb.ps,λd B0 A0 H0 B A E μ σ H D r μ' S e q=>by
 obtain⟨⟨x,μ1⟩,e1,e⟩:=bS9 e;refine hc.ok d B0 A0 H0 B A E μ σ H _ x μ1 S e1 λH1 B1 A1 S1 _=>?_
 cases x with
 | true=>exact ha.ok d B0 A0 H0 B1 A1 E μ1 σ H1 D r μ' S1 e q
 | false=>exact hb.ok d B0 A0 H0 B1 A1 E μ1 σ H1 D r μ' S1 e q⟩
def jL (mi:DE->M (List My))(bd:My->DE->Option DE)(body:DE->M Out):DE->M Out:=λE μ=>(mi E μ).bind λp=>M4 bd body p.1 E μ
def Dl {wi:TI}{g:TG}{tb:TS}{mi:DE->M (List My)}{bd:My->DE->Option DE}{mb:DE->M Out}(hi:TId K wi mi)(hg:TGd K g bd)(hk:iQ i0 bd)(hb:TSm K i0 tb mb):TSm K i0 (sG wi g tb) (jL mi bd mb):=λd B0 A0 H0 B A E μ σ H D r μ' S e q=>by
 obtain⟨⟨items,μ1⟩,e1,e⟩:=bS9 e;refine hi none B E μ σ H _ items μ1 S.I e1 λJ H1 k1 f1 ok=>?_
 have S1:=S.step k1 f1.2;refine⟨λi m σ H=>m=items.length-i/\i<=items.length/\∃B2 A2 E μ,SitMB K i0 d B0 A0 (M2 H1 B B0) B2 A2 E μ σ H/\M4 bd mb (items.drop i) E μ=some (r,μ'),⟨items.length,by simp,Ka _,B,A,E,μ,S1.base,e⟩,?_⟩;rintro i mm σ2 H2 ⟨rfl,hi2,B2,A2,E2,μ2,S2,e2⟩;have st2:=S1.stab S2;by_cases hlt:i<items.length
 .refine .inr ⟨((ok H2 B2 st2).1 i items[i] (by simp[hlt])).1,λσ' H'=>i+1<=items.length/\∃B2 A2 E μ,SitMB K i0 d B0 A0 (M2 H1 B B0) B2 A2 E μ σ' H'/\M4 bd mb (items.drop (i+1)) E μ=some (r,μ'),λσ' H' ⟨h1,h2⟩=>⟨items.length-(i+1),by omega,rfl,h1,h2⟩,λx H3 y=>?_⟩;obtain⟨s3,hx⟩:=((ok H2 B2 st2).1 i items[i] (by simp[hlt])).2 x H3 y;have hx:=hx S2.I.bk;rw[Ln hlt,M4]at e2;obtain⟨E4,e4,e2⟩:=bS9 e2;obtain⟨⟨o,μ5⟩,e5,e2⟩:=bS9 e2;have S3:=S2.step (Kp.same s3) (S2.I.fd.same s3).2;refine hg none B2 E2 μ2 σ2 H3 x items[i] E4 _ S3.I hx e4 λσ4 I4 fr=>?_
  refine hb d B0 A0 (M2 H1 B B0) B2 A2 E4 μ2 σ4 H3 _ o μ5 (S3.bind I4 fr (hk _ _ _ e4)) e5 ?_;cases o with
  | nx E6=>exact λB6 A6 σ6 H6 S6=>⟨hlt,B6,A6,E6,μ5,S6,e2⟩
  | ct E6=>exact λB6 A6 σ6 H6 S6=>⟨hlt,B6,A6,E6,μ5,S6,e2⟩
  | bk E6=>cases e2;exact λB6 A6 σ6 H6 S6=>q B6 A6 σ6 H6 (S1.unbase S6)
  | rt d=>cases e2;exact λv H6 A6 k6 h6=>q v H6 A6 (S1.unend k6) h6
 .have ei:i=items.length:=by omega
  subst ei;rw[Mh,M4]at e2;cases e2;exact .inl ⟨(ok H2 B2 st2).2,q B2 A2 σ2 H2 (S1.unbase S2)⟩
def uG {body:List NW}{wi:TI}{g:TG}{tb:TS}{mi:DE->M (List My)}{bd:My->DE->Option DE}{mb:DE->M Out}(hc:X.calm=true)(hi:Ei K X tg iter wi mi)(hg:Eg K X tg g bd)(hk:iQ i0 bd)(hb:SmsR K X i0 body tb mb)(hp:PassesOwn (model X.prog X.w) X.A X.env X.xe:=by exact PassesOwn.never)
  (hs:∀x,Ol iter X.env x=pure x:=by intro _;rfl):SmR K X i0 (.For tg iter body [] pos) (sG wi g tb) (jL mi bd mb):=⟨oU hp hc hi.pi hg.pg hb.ps hs,Dl hi.ok hg.ok hk hb.ok⟩
def kL:Eam K X i0 [] F0 i5:=⟨l6,λd B0 A0 H0 B A E μ σ H Q r μ' S e q=>by cases e;exact q [] H B A S (d8.refl _) a6.nil⟩
def oh {t:TA}{ms:DE->M (List My)}(ha:Em K X i0 e te m)(hr:Eam K X i0 es t ms)(hs:Oa (e::es) X.env=(false,eval e X.env)::Oa es X.env:=by rfl):Eam K X i0 (e::es) (v6 te t) (b9 m ms) :=
 ⟨i8 ha.pe hr.pa hs,λd B0 A0 H0 B A E μ σ H Q r μ' S e q=>by
  obtain⟨⟨x,μ1⟩,e1,e⟩:=bS9 e;obtain⟨⟨ys,μ2⟩,e2,e⟩:=bS9 e;cases e;refine ha.ok d B0 A0 H0 B A E μ σ H _ x μ1 S e1 λv H1 B1 A1 S1 s1 h1=>?_
  exact hr.ok d B0 A0 H0 B1 A1 E μ1 σ H1 _ ys _ S1 e2 λvs H2 B2 A2 S2 s2 h2=>q _ H2 B2 A2 S2 (s1.trans s2) (.cons (h1.same s2) h2)⟩
def AK {op}(h:Em K X i0 a te m):Em K X i0 (.BoolOp op [a] pos) te m:=⟨xF h.pe,h.ok⟩
def Cs {rest:List NX}(ha:Em K X i0 a ta ma)(hb:Em K X i0 (.BoolOp .And (b::rest) pos) tb mb):Em K X i0 (.BoolOp .And (a::b::rest) pos) (wb ta tb) (pF ma mb):=⟨vc ha.pe hb.pe,λd B0 A0 H0 B A E μ σ H Q r μ' S e q=>by
 obtain⟨⟨x,μ1⟩,e1,e⟩:=bS9 e;obtain⟨c,e2,e⟩:=bS9 e;refine ha.ok d B0 A0 H0 B A E μ σ H _ x μ1 S e1 λv H1 B1 A1 S1 s1 h1=>?_
 have:=K8 e2;simp only at this;subst this;simp only[a7]at h1;refine⟨c,h1,?_⟩;cases c with
 | true=>exact hb.ok d B0 A0 H0 B1 A1 E μ1 σ H1 _ r μ' S1 e λw H2 B2 A2 S2 s2 h2=>q w H2 B2 A2 S2 (s1.trans s2) h2
 | false=>cases e;exact q _ H1 B1 A1 S1 s1 a7.bl⟩
def Dy {op:CmpOp}{f:My->My->Option My}(ho:OpR X (compareOp op) (rD2 K f))(ha:Em K X i0 a ta ma)(hb:Em K X i0 b tb mb)(hm:behindInMarks op b=false:=by first | exact X5 _ | rfl):Em K X i0 (.Compare a [op] [b] pos) (tOp (rD2 K f) ta tb) (s2 f ma mb):=⟨kf ho ha.pe hb.pe hm,λd B0 A0 H0 B A E μ σ H Q r μ' S e q=>by
 obtain⟨⟨x,μ1⟩,e1,e⟩:=bS9 e;obtain⟨⟨y,μ2⟩,e2,e⟩:=bS9 e;obtain⟨z,e3,e⟩:=bS9 e;cases e;refine ha.ok d B0 A0 H0 B A E μ σ H _ x μ1 S e1 λv H1 B1 A1 S1 s1 h1=>?_
 refine hb.ok d B0 A0 H0 B1 A1 E μ1 σ H1 _ y _ S1 e2 λw H2 B2 A2 S2 s2 h2=>⟨tabP K,B2,x,y,_,S2.I.bk,cf (h1.same s2) S2.I.fB,cf h2 S2.I.fB,e3,λu H3 s hu=>?_⟩
 exact q u H3 B2 A2 (S2.step (Kp.same s) (S2.I.fd.same s).2) ((s1.trans s2).trans (S2.sm (Kp.same s))) hu⟩
def Bc (h:TEm K i0 te m):TTm K i0 (bf te) (uB m):=λd B0 A0 H0 B A E μ σ H Q r μ' S e q=>by
 obtain⟨⟨x,μ1⟩,e1,e⟩:=bS9 e;obtain⟨c,e2,e⟩:=bS9 e;cases e;refine h d B0 A0 H0 B A E μ σ H _ x _ S e1 λv H1 B1 A1 S1 s1 h1=>?_
 have:=K8 e2;simp only at this;subst this;simp only[a7]at h1;exact⟨_,h1,q H1 B1 A1 S1 s1⟩
variable {tA tB:TT}{na nb:DE->M Bool}
end
end
section
def jn:Out->Option My
 | .rt d=>some d
 | .nx _=>some .none
 | _=>none
section
variable [Regs]
local instance regI3:Feeds:=G4
def spM (K:Fg)(n:Nat)(f:List My->FS->Option (My×FS)):Sp:=λvs H Q _=>∃(d:NP) (B A:List NP) (ds:List My) (r:My) (μ μ':FS) (xs:List V),vs = .ref d::xs/\ds.length+1=n/\(∀b∈tabP K,b∈B)/\(∀a∈A,a∈B/\a ∉ tabP K)/\BOk H B/\D3 (tabsK Feeds.lam K) H /\
 Regs.Reg K (hid H B) H d μ A/\a6 K (hid H B) ds xs/\f ds μ=some (r,μ')/\∀v H' A',EndM K d B A H μ' H' A'->a7 K (hid H' (A'++B)) r v->Q v H'
variable {K:Fg}{X:Cx}{i0:Nat}{a b c e tg iter:NX}{es:List NX}{st:NW}{sts rest:List NW}{ta tb te:TE}{ma mb m:DE->M My}{t u:TS}{mt mu:DE->M Out}{pos pos' p p2:Pos}
section
variable {d:NP}{B0 A0:List NP}{H0:Hp}{B A A2:List NP}{E:DE}{μ μ':FS}{σ:St}{H H2:Hp}
def SitMB.called (S:SitMB K i0 d B0 A0 H0 B A E μ σ H)(Z:EndM K d B A H μ' H2 A2):SitMB K i0 d B0 A0 H0 (A2++B) A2 E μ' σ H2/\d8 (hid H B) (hid H2 (A2++B)):=by
 have nH0:∀a,H a=none->a ∉ B->H0 a=none/\a ∉ B0:=λa e n=>by
  have n0:a ∉ B0:=λz=>n (S.s a z)
  refine⟨?_,n0⟩;cases q:H0 a with
  | none=>rfl
  | some o=>rw[S.kp a o q (λz=>n0 (S.tB a z)) λz=>n0 (S.a0 a z)]at e;cases e
 have sm:d8 (hid H B) (hid H2 (A2++B)):=λb o eb=>by
  by_cases hB:b∈B
  .rw[z9 hB]at eb;cases eb
  .rw[e9 hB]at eb;have k:H2 b=some o:=Z.kp b o eb (λz=>hB (S.s b (S.tB b z))) λz=>hB (S.aB b z).1
   rw[e9 λz=>?_]
   .exact k
   .rcases Jj.1 z with z | z
    .rcases(Z.aB b z).2 with h | h
     .exact hB (S.aB b h).1
     .rw[h.1]at eb;cases eb
    .exact hB z
 refine⟨⟨λb hb=>Jj.2 (.inr (S.s b hb)),λb hb=>?_,⟨⟨trivial,Z.tb⟩,λb hb=>Jj.2 (.inr (S.I.fB b hb)),λb hb=>?_,S.I.ln,λi x ei=>?_⟩,Z.rg,λa ha=>⟨Jj.2 (.inl ha),(Z.aB a ha).1,?_⟩,S.pin,S.tB,S.a0,λb o eb n1 n2=>?_,λi ds a ei si=>?_,S.inj⟩,sm⟩
 .rcases Jj.1 hb with h | h
  .rcases(Z.aB b h).2 with h | h
   .exact S.sn b (S.aB b h).1
   .exact .inr (nH0 b h.1 h.2).1
  .exact S.sn b h
 .rcases Jj.1 hb with h | h
  .exact Regs.has Z.rg b h
  .exact Z.bk b h
 .obtain⟨v,v1,v2⟩:=S.I.loc i x ei;refine⟨v,v1,?_⟩;cases x with
  | dat y=>exact a7.same (show a7 K (hid H B) y v from v2) sm
  | feed=>exact v2
  | fn _=>exact v2
  | adr _=>exact v2
  | own ys =>
   obtain⟨a',xs,rfl,hB,hf,hx,hd⟩:=v2;exact⟨a',xs,rfl,Jj.2 (.inr hB),hf,Z.kp _ _ hx hf (S.own i ys a' ei v1).2,hd.same sm⟩
 .rcases(Z.aB a ha).2 with h | h
  .exact(S.aB a h).2.2
  .exact .inr (nH0 a h.1 h.2)
 .refine Z.kp b o (S.kp b o eb n1 n2) n1 λz=>?_
  rcases(S.aB b z).2.2 with h | h
  .exact n2 h
  .rw[h.1]at eb;cases eb
 .obtain⟨h1,h2⟩:=S.own i ds a ei si;refine⟨h1,λz=>?_⟩;rcases(Z.aB a z).2 with h | h
  .exact h2 h
  .obtain⟨v,v1,a',xs,rfl,hB,_,hx,_⟩:=S.I.loc i _ ei;rw[v1]at si;cases si;rw[h.1]at hx;cases hx
def SitMB.at0 (S:SitMB K i0 d B0 A0 H0 B A E μ σ H):σ[i0]? = some (some (.ref d)):=by
 have h:=S.pin;unfold A4 at h;split at h
 .rename_i a hx;cases h;obtain⟨v,v1,v2⟩:=S.I.loc i0 _ hx;rw[v1,show v = .ref d from v2]
 .cases h
end
def cy (f:List My->FS->Option (My×FS))(ms:DE->M (List My)):DE->M My:=λE μ=>(ms E μ).bind λp=>f p.1 p.2
def yC {n:Nat}{f:List My->FS->Option (My×FS)}{ta:TA}{ms:DE->M (List My)}(h:TAm K i0 ta ms)(hn:∀E F args F',ms E F=some (args,F')->args.length+1=n):TEm K i0 (dA (spM K n f) [] E0 (v6 (t9 i0) ta)) (cy f ms):=λd B0 A0 H0 B A E μ σ H Q r μ' S e q=>by
 obtain⟨⟨args,μ1⟩,e1,e⟩:=bS9 e;refine⟨_,S.at0,h d B0 A0 H0 B A E μ σ H _ args μ1 S e1 λvs H1 B1 A1 S1 s1 h1=>?_⟩;show spM K n f ((V.ref d::vs)++[]) H1 Q E0;rw[Kg];refine⟨d,B1,A1,args,r,μ1,μ',vs,rfl,hn _ _ _ _ e1,λb hb=>S1.s b (S1.tB b hb),λa ha=>⟨(S1.aB a ha).1,(S1.aB a ha).2.1⟩,S1.I.bk,S1.I.fd.2,S1.rg,h1,e,λv H2 A2 Z h2=>?_⟩;obtain⟨z1,z2⟩:=S1.called Z;exact q v H2 _ _ z1 (s1.trans z2) h2
def ka:∀(E:DE) (F:FS) args F',(i5:DE->M (List My)) E F=some (args,F')->args.length+1=1:=λE F args F' e=>by cases e;rfl
def mK {n:Nat}{ms:DE->M (List My)}(h:∀(E:DE) (F:FS) args F',ms E F=some (args,F')->args.length+1=n):∀(E:DE) (F:FS) args F',b9 m ms E F=some (args,F')->args.length+1=n+1:=λE F args F' e=>by
 obtain⟨⟨x,F1⟩,e1,e⟩:=bS9 e;obtain⟨⟨ys,F2⟩,e2,e⟩:=bS9 e;cases e;rw[JB,h _ _ _ _ e2]
def lq {x y:Str}{k n:Nat}{ps:List Str}{f:List My->FS->Option (My×FS)}{tl:TA}{ms:DE->M (List My)}(C:k9 X.prog X.w X.K X.mg X.base x k ps (spM K n f))(hr:Room k X.A)(ha:Eam K X i0 es tl ms)(hn:∀E F args F',ms E F=some (args,F')->args.length+1=n)(hN:X.N[i0]? = some y:=by rfl)(hv:Vis X.env.scope y:=by first | exact Or.inl rfl | exact Or.inr (Or.inl rfl) | exact Or.inr (Or.inr rfl))(hd:(y == ("__debug__":Str))=false:=by decide)
  (hcd:(y == ("__classdict__":Str))=false:=by decide) (hs:Oa (.Name y p2::es) X.env=(false,eval (.Name y p2) X.env)::Oa es X.env:=by rfl) (hg:Gl X x:=by rfl)
  (hdb:(x == ("__debug__":Str))=false:=by decide) (hpl:(Od pos (Oa es X.env)).any (·.1)=false:=by rfl) :
  Em K X i0 (.Call (.Name x p) (.Name y p2::es) [] pos) (dA (spM K n f) [] E0 (v6 (t9 i0) tl)) (cy f ms):=⟨bF C hr hg (i8 (D4 hN hv hd hcd) ha.pa hs) hdb hs hpl,yC ha.ok hn⟩
def U8 (N:List Str)(d:NP)(ds:List My):DE:=some (.adr d)::(ds.map λx=>some (.dat x))++List.replicate (N.length-(ds.length+1)) none
open Classical in
def lF (N:List Str)(m:DE->M Out):List My->FS->Option (My×FS):=λds μ =>
 if h:∃x:My×FS,∀d:NP,∃o,m (U8 N d ds) μ=some (o,x.2)/\jn o=some x.1 then some (Classical.choose h) else none
def zb {N:List Str}{m:DE->M Out}{ds:List My}{μ μ':FS}{r:My}(h:∀d:NP,∃o,m (U8 N d ds) μ=some (o,μ')/\jn o=some r):lF N m ds μ=some (r,μ'):=by
 unfold lF;have hx:∃x:My×FS,∀d:NP,∃o,m (U8 N d ds) μ=some (o,x.2)/\jn o=some x.1:=⟨(r,μ'),h⟩;rw[dif_pos hx];obtain⟨o1,a1,a2⟩:=Mc hx 0;obtain⟨o2,b1,b2⟩:=h 0;rw[b1]at a1;obtain⟨rfl,e2⟩:=Prod.mk.inj (Jt a1);rw[b2]at a2;exact Kk some (Prod.ext (Jt a2).symm e2.symm)
def zG {N:List Str}{m:DE->M Out}{ds:List My}{μ μ':FS}{r:My}(h:lF N m ds μ=some (r,μ'))(d:NP):∃o,m (U8 N d ds) μ=some (o,μ')/\jn o=some r:=by
 unfold lF at h;split at h
 .rename_i hx;have:=Mc hx d;rw[Jt h]at this;exact this
 .cases h
variable {P:NR}{w:NS}{mg:Str->Option NO}{base:NY}
def pB {d:NP}{B A:List NP}{H:Hp}{N:List Str}{ds:List My}{xs:List V}{μ:FS}(hN:ds.length+1<=N.length)(tB:∀b∈tabP K,b∈B)(aB:∀a∈A,a∈B/\a ∉ tabP K)(bk:BOk H B)(tb:D3 (tabsK Feeds.lam K) H)(rg:Regs.Reg K (hid H B) H d μ A)(hd:a6 K (hid H B) ds xs) :
  SitMB K 0 d B A H B A (U8 N d ds) μ (L2.E8 N (.ref d::xs)) H:=by
 have noown:∀(i:Nat) (es:List My),(U8 N d ds)[i]? ≠ some (some (DV.own es)):=λi es e=>by
  unfold U8 at e;by_cases hi:i<ds.length+1
  .rw[JL (by simp;omega)]at e;cases i with
   | zero=>simp at e
   | succ i=>simp[Js]at e
  .rw[JR (by simp;omega),Ki]at e;split at e <;> simp at e
 refine⟨λ_ z=>z,λb hb=>.inl hb,⟨⟨trivial,tb⟩,tB,bk,by simp[U8,L2.E8,hd.length],λi x e=>?_⟩,rg,λa ha=>⟨(aB a ha).1,(aB a ha).2,.inl ha⟩,rfl,tB,λa ha=>(aB a ha).1,λb o e _ _=>e,λi es a e _=>absurd e (noown i es),λi j es fs a e _ _ _=>absurd e (noown i es)⟩;unfold U8 at e;by_cases hi:i<ds.length+1
 .rw[JL (by simp;omega)]at e;unfold L2.E8;rw[JL (by simp[hd.length];omega)];cases i with
  | zero =>
   simp at e;subst e;exact⟨.ref d,rfl,rfl⟩
  | succ i =>
   simp[Js]at e;obtain⟨y,e1,e2⟩:=e;subst e2;obtain⟨v,v1,v2⟩:=a6.item hd e1;exact⟨v,by simp[v1],v2⟩
 .rw[JR (by simp;omega),Ki]at e;split at e <;> simp at e
def kI {x qual:Str}{f:NP}{fd:NV}{N ps:List Str}{k:Nat}{m:DE->M Out}(Fn:Fun K x qual st f fd)(S:FnScope N ps (defScope st))(hNp:ps.length<=N.length)
  (hbody:∀(cdv:NO) (A:NT) (outer:List Oc) (s:NQ) (H:Hp) (E:XK),Room k (A.deeper (envOfC qual (defScope st) s.heap.objs.size f cdv)) ->
   ∃ts,SmsR K (O6 CX0 P w K mg base N qual (defScope st) f cdv A outer s H E).nox 0 (defBody st) ts m):FnOk P w K mg base CX0 (k+1) f fd ps (spM K ps.length (lF N m)):=by
 refine Fn.ok S (λvs H Q E h=>?_) (λcdv A outer s H vs Q E hr h=>?_)
 .obtain⟨d,B,A,ds,r,μ,μ',xs,rfl,hl,_,_,_,_,_,hd,_⟩:=h;rw[JB,hd.length];exact hl
 .obtain⟨d,B,A1,ds,r,μ,μ',xs,rfl,hl,tB,aB,bk,tb,rg,hd,hm,q⟩:=h;obtain⟨ts,hts⟩:=hbody cdv A outer s H E hr;refine⟨ts,hts.ps,?_⟩;obtain⟨o,e1,e2⟩:=zG hm d;refine hts.ok d B A1 H B A1 (U8 N d ds) μ (L2.E8 N (.ref d::xs)) H _ o μ' (pB (by omega) tB aB bk tb rg hd) e1 ?_;cases o with
  | rt d'=>cases e2;exact λv H' A' Z h1=>q v H' A' Z h1
  | nx E'=>cases e2;exact λB' A' σ' H' S'=>q _ H' A' S'.fin.1 a7.non
  | bk E'=>cases e2
  | ct E'=>cases e2
end
end
section
def eF:List DV->Option (List My)
 | []=>some []
 | .dat d::r=>(eF r).bind λds=>some (d::ds)
 | _::_=>none
theorem aW:∀{args:List DV} {ds:List My},eF args=some ds->args=ds.map DV.dat
 | [],ds,h=>by cases h;rfl
 | .dat d::r,ds,h=>by
  obtain⟨es,e1,e⟩:=bS9 h;cases e;rw[aW e1];rfl
 | .feed::r,ds,h=>by cases h
 | .own _::r,ds,h=>by cases h
 | .fn _::r,ds,h=>by cases h
 | .adr _::r,ds,h=>by cases h
theorem cF:∀(ds:List My),eF (ds.map DV.dat)=some ds
 | []=>rfl
 | d::ds=>by rw[Jy,eF,cF ds];rfl
def spN [Regs](K:Fg)(mkh:My->Option Regs.S):Sp:=λvs H Q _=>∃(B:List NP) (h:My) (μ:Regs.S) (v:V),vs=[v]/\BOk H B/\a7 K (hid H B) h v/\mkh h=some μ /\
 ∀d A H',d8 H H'->(∀a∈A,H a=none)->Regs.Reg K (hid H' (A++B)) H' d μ A->Q (.ref d) H'
section
variable [Regs]{K:Fg}
local instance regI5:Feeds:=G4
def oF {d:NP}{B A1:List NP}{H H1:Hp}{N:List Str}{i0:Nat}{ds:List My}{vs:List V}{μ0:FS}(hi0:i0<N.length)(hdl:ds.length<=i0)(tB:∀b∈tabP K,b∈B)(bk:BOk H B)(sm:d8 H H1)(fr:∀a∈A1,H a=none)(tb1:D3 (tabsK Feeds.lam K) H1)(rg:Regs.Reg K (hid H1 (A1++B)) H1 d μ0 A1)(hd:a6 K (hid H B) ds vs) :
  SitMB K i0 d (A1++B) A1 H1 (A1++B) A1 ((x4 N (ds.map DV.dat)).set i0 (some (.adr d))) μ0 ((L2.E8 N vs).set i0 (some (.ref d))) H1:=by
  have hlen:vs.length=ds.length:=hd.length
  have nB:∀a∈A1,a ∉ B:=λa ha=>bk.nin (fr a ha)
  have sv:d8 (hid H B) (hid H1 (A1++B)):=λb o eb=>by
   by_cases hb:b∈B
   .rw[z9 hb]at eb;cases eb
   .rw[e9 hb]at eb;rw[e9 λz=>(Jj.1 z).elim (λz=>by rw[fr b z]at eb;cases eb) hb];exact sm b o eb
  have hE:∀i x,((x4 N (ds.map DV.dat)).set i0 (some (.adr d)))[i]? = some (some x)->(i=i0/\x = .adr d)\/(i≠i0/\∃y,ds[i]? = some y/\x = .dat y):=λi x e=>by
   by_cases hi:i0=i
   .subst hi;rw[Ju (by simp[x4];omega)]at e;cases e;exact .inl ⟨rfl,rfl⟩
   .rw[Jp hi]at e;have:=fj e;rw[Js]at this;obtain⟨y,y1,y2⟩:=JJ.1 this;exact .inr ⟨JV hi,y,y1,y2.symm⟩
  refine⟨λ_ z=>z,λb hb=>.inl hb,⟨⟨trivial,tb1⟩,λb hb=>Jj.2 (.inr (tB b hb)),λb hb=>?_,by simp[x4,L2.E8,hlen],λi x ei=>?_⟩,rg,λa ha=>⟨Jj.2 (.inl ha),λz=>nB a ha (tB a z),.inl ha⟩,?_,λb hb=>Jj.2 (.inr (tB b hb)),λa ha=>Jj.2 (.inl ha),λb o e _ _=>e,λi es a ei _=>?_,λi j es fs a ei _ _ _=>?_⟩
  .rcases Jj.1 hb with h | h
   .exact Regs.has rg b h
   .obtain⟨o,e⟩:=bk b h
    exact⟨o,sm b o e⟩
  .rcases hE i x ei with ⟨rfl,rfl⟩ | ⟨hi,y,y1,rfl⟩
   .exact⟨.ref d,by rw[Ju (by simp[L2.E8,hlen];omega)],rfl⟩
   .obtain⟨v,v1,v2⟩:=a6.item hd y1
    refine⟨v,?_,v2.same sv⟩
    have hil:i<vs.length:=(Jm.1 v1).1
    rw[Jp (JV hi)]
    unfold L2.E8
    rw[JL (by simpa using hil),Js,v1];rfl
  .unfold A4
   rw[Ju (by simp[x4];omega)]
  .rcases hE i _ ei with ⟨_,z⟩ | ⟨_,y,_,z⟩ <;> cases z
  .rcases hE i _ ei with ⟨_,z⟩ | ⟨_,y,_,z⟩ <;> cases z
end
section
variable [Fam][Regs]
open Classical in
def wU (N:List Str)(i0:Nat)(m:DE->@M G4 Out)(μ0:Regs.S)(ds:List My):Option My :=
 if h:∃r:My,∀d:NP,∃o μ',m ((x4 N (ds.map DV.dat)).set i0 (some (.adr d))) μ0=some (o,μ')/\jn o=some r then some (Classical.choose h) else none
def yp {N:List Str}{i0:Nat}{m:DE->@M G4 Out}{μ0:Regs.S}{ds:List My}{r:My}(h:∀d:NP,∃o μ',m ((x4 N (ds.map DV.dat)).set i0 (some (.adr d))) μ0=some (o,μ')/\jn o=some r):wU N i0 m μ0 ds=some r:=by
 unfold wU;have hx:∃r:My,∀d:NP,∃o μ',m ((x4 N (ds.map DV.dat)).set i0 (some (.adr d))) μ0=some (o,μ')/\jn o=some r:=⟨r,h⟩;rw[dif_pos hx];obtain⟨o1,μ1,a1,a2⟩:=Mc hx 0;obtain⟨o2,μ2,b1,b2⟩:=h 0;rw[b1]at a1;obtain⟨rfl,_⟩:=Prod.mk.inj (Jt a1);rw[b2]at a2;exact Kk some (Jt a2).symm
def zk {N:List Str}{i0:Nat}{m:DE->@M G4 Out}{μ0:Regs.S}{ds:List My}{r:My}(h:wU N i0 m μ0 ds=some r)(d:NP):∃o μ',m ((x4 N (ds.map DV.dat)).set i0 (some (.adr d))) μ0=some (o,μ')/\jn o=some r:=by
 unfold wU at h;split at h
 .rename_i hx;have:=Mc hx d;rw[Jt h]at this;exact this
 .cases h
def rW (N:List Str)(i0 j:Nat)(mkh:My->Option Regs.S)(m:DE->@M G4 Out):List DV->@M fdI My:=λargs F=>(eF args).bind λds=>(ds[j]?).bind λh=>(mkh h).bind λμ0=>(wU N i0 m μ0 ds).bind λr=>some (r,F)
variable {K:Fg}{P:NR}{w:NS}{mg:Str->Option NO}{base:NY}{st:NW}
def qD (hlam:Regs.lam=Fam.lam):@tabP G4 K = @tabP fdI K:=by
 unfold tabP;show(tabsK Regs.lam K).map _=(tabsK Fam.lam K).map _;rw[hlam]
theorem jY {G:GF}{B:List NP}{H:Hp}:∀{ds:List My} {vs:List V},hW K G B H (ds.map DV.dat) vs->a6 K (hid H B) ds vs
 | [],vs,h=>by have h:vs=[]:=h;simpa only[a6] using h
 | d::ds,vs,⟨v,r,e,_,h1,h2⟩=>by subst e;exact .cons h1 (jY h2)
theorem rD {B:List NP}{H:Hp}:∀{ds:List My} {vs:List V},@hW G4 K none B H (ds.map DV.dat) vs->@hW fdI K none B H (ds.map DV.dat) vs
 | [],vs,h=>h
 | d::ds,vs,⟨v,r,e,n,h1,h2⟩=>⟨v,r,e,n,h1,rD h2⟩
def yN {G:GF}{H H':Hp}{F:FdS}(fa:@FAt fdI K G H F)(tb:D3 (tabsK Fam.lam K) H')(k:∀b o,H b=some o->b ∉ @tabP fdI K->H' b=some o):@FAt fdI K G H' F:=by
 refine⟨?_,tb⟩;cases G with
 | none=>trivial
 | some p =>
  obtain⟨d,c⟩:=p;have nt:∀{x:NP} {o:HO},H x=some o->NoT o->x ∉ @tabP fdI K:=λ{x o} e n z=>by
   obtain⟨t,ht,rfl⟩:=JS.1 z;obtain⟨ps,h1,_⟩:=fa.2 t ht;rw[h1]at e;exact n.1 ps (Jt e.symm)
  obtain⟨o1,e1,n1⟩:=Fam.some1 fa.1;obtain⟨o2,e2,n2⟩:=Fam.some2 fa.1;exact Fam.congr fa.1 ((k _ _ e1 (nt e1 n1)).trans e1.symm) ((k _ _ e2 (nt e2 n2)).trans e2.symm)
def reF (f:List DV->@M fdI My):List DV->@M G4 My:=λargs μ=>(eF args).bind λ_=>(f args (iN [])).bind λp=>some (p.1,μ)
def sA {x:Str}{k n:Nat}{ps:List Str}{f:List DV->@M fdI My}(hlam:Regs.lam=Fam.lam)(C:k9 P w K mg base x k ps (@spD fdI K n f)):k9 P w K mg base x k ps (@spD G4 K n (reF f)):=by
 obtain⟨a,fd,F,h2,h3,h4⟩:=C;refine⟨a,fd,F.imp λvs H Q E h=>?_,h2,h3,h4⟩;obtain⟨G,B,μ,args,d,μ',hl,fB,bk,fa,ha,e,q⟩:=h;obtain⟨ds,e1,e⟩:=bS9 e;obtain⟨⟨y,F'⟩,e2,e⟩:=bS9 e;cases e;have:=aW e1;subst this;have te:=qD (K:=K) hlam;have gn:G=none:=by
  cases G with
  | none=>rfl
  | some p=>exact(show False from fa.1).elim
 subst gn;have fp:@n6 G4 K none = @n6 fdI K none:=te;refine⟨none,B,iN [],ds.map DV.dat,y,F',hl,λb hb=>fB b (fp▸hb),bk,⟨trivial,by have:=fa.2;show D3 (tabsK Fam.lam K) H;rw[<-hlam];exact this⟩,?_,e2,λv H' k1 f1 h1=>q v H' (fp▸k1) ⟨trivial,by show D3 (tabsK Regs.lam K) H';rw[hlam];exact f1.2⟩ h1⟩;exact rD ha
end
end
section
structure Per where
 n:Int
 r:Int
 l:Int
 b:Bool
structure Row where
 w:Str
 t:Int
 m:Option Int
 q:Int
structure Mac where
 h:Int
 c:Option Int
 u:Str
 line:List Per
 book:List Row
 t:Int
def wc:Option Int->V
 | none=>.non
 | some i=>.int i
def gq:Option Int->My
 | none=>.none
 | some i=>.int i
def dR (p:Per):List V:=[.int p.n,.int p.r,.int p.l,.bl p.b]
def mV (r:Row):List V:=[.str r.w,.int r.t,wc r.m,.int r.q]
def cS (p:Per):My:=.list [.int p.n,.int p.r,.int p.l,.bool p.b]
def vv (r:Row):My:=.list [.str r.w,.int r.t,gq r.m,.int r.q]
def fu (μ:Mac):My:=.tuple [.int μ.h,gq μ.c,.str μ.u]
def C4 (hv:V)(l b:NP)(t:Int):List (Key×V):=[(Sum.inr "house",hv),(Sum.inr "line",.ref l),(Sum.inr "book",.ref b),(Sum.inr "at",.int t)]
def mn1:¬(("house":Str) = "line"):=by decide +kernel
def mn2:¬(("house":Str) = "book"):=by decide +kernel
def mn3:¬(("house":Str) = "at"):=by decide +kernel
def mn4:¬(("line":Str) = "book"):=by decide +kernel
def mn5:¬(("line":Str) = "at"):=by decide +kernel
def mn6:¬(("book":Str) = "at"):=by decide +kernel
def EH:¬(("book":Str) = "line"):=by decide +kernel
def EF:¬(("at":Str) = "line"):=by decide +kernel
section
variable {H:Hp}{d l b:NP}{hv:V}{t:Int}
def vp:bQ (C4 hv l b t) (Sum.inr "house")=some hv:=by unfold C4;exact V1 rfl
def qS:bQ (C4 hv l b t) (Sum.inr "line")=some (.ref l):=by
 unfold C4;rw[B8 (by rw[P1];exact mn1)];exact V1 rfl
def ym:bQ (C4 hv l b t) (Sum.inr "book")=some (.ref b):=by
 unfold C4;rw[B8 (by rw[P1];exact mn2),B8 (by rw[P1];exact mn4)];exact V1 rfl
def zP:bQ (C4 hv l b t) (Sum.inr "at")=some (.int t):=by
 unfold C4;rw[B8 (by rw[P1];exact mn3),B8 (by rw[P1];exact mn5),B8 (by rw[P1];exact mn6)];exact V1 rfl
def CU (z:Int):O1 (C4 hv l b t) (Sum.inr "at") (.int z)=C4 hv l b z:=by
 unfold O1;rw[aG,zP];simp only[Mt,KL,C4,Jy,Kl,P1,mn3,mn5,mn6,KL,KH]
def xJ (z:NP):O1 (C4 hv l b t) (Sum.inr "line") (.ref z)=C4 hv z b t:=by
 unfold O1;rw[aG,qS];simp only[Mt,KL,C4,Jy,Kl,P1,mn1,EH,EF,KL,KH]
def gO (hd:H d=some (.dK (C4 hv l b t))):fc H d (.str "house") (some hv):=by have:=fc.k (k:=Sum.inr "house") hd;rwa [vp]at this
def bH (hd:H d=some (.dK (C4 hv l b t))):fc H d (.str "line") (some (.ref l)):=by have:=fc.k (k:=Sum.inr "line") hd;rwa [qS]at this
def gA (hd:H d=some (.dK (C4 hv l b t))):fc H d (.str "book") (some (.ref b)):=by have:=fc.k (k:=Sum.inr "book") hd;rwa [ym]at this
def xm (hd:H d=some (.dK (C4 hv l b t))):fc H d (.str "at") (some (.int t)):=by have:=fc.k (k:=Sum.inr "at") hd;rwa [zP]at this
def mM:(C4 hv l b t).length<NZ:=Q8 (by show 4<=1000;decide)
def Dd (z:Int)(hd:H d=some (.dK (C4 hv l b t))):oe H d (.str "at") (.int z) (upd H d (.dK (C4 hv l b z))):=by have:=oe.k (k:=Sum.inr "at") (v:=.int z) hd mM;rwa [CU]at this
def xO (z:NP)(hd:H d=some (.dK (C4 hv l b t))):oe H d (.str "line") (.ref z) (upd H d (.dK (C4 hv z b t))):=by have:=oe.k (k:=Sum.inr "line") (v:=.ref z) hd mM;rwa [xJ]at this
end
def B9 {α:Type}(f:α->List V)(H:Hp)(ps:List NP)(xs:List α):Prop:=ps.length=xs.length/\∀(i:Nat) a x,ps[i]? = some a->xs[i]? = some x->H a=some (.lst (f x))
def B9.keep {α:Type}{f:α->List V}{H H':Hp}{ps:List NP}{xs:List α}(h:B9 f H ps xs)(e:∀a∈ps,H' a=H a):B9 f H' ps xs:=⟨h.1,λi a x h1 h2=>(e a (JW h1)).trans (h.2 i a x h1 h2)⟩
def B9.has {α:Type}{f:α->List V}{H:Hp}{ps:List NP}{xs:List α}(h:B9 f H ps xs):∀a∈ps,∃ys,H a=some (.lst ys):=λa ha=>by
 obtain⟨i,hi⟩:=LG.1 ha;obtain⟨hj,_⟩:=Jm.1 hi;exact⟨_,h.2 i a (xs[i]'(by rw[<-h.1];exact hj)) hi (by simp)⟩
def B9.snoc {α:Type}{f:α->List V}{H:Hp}{ps:List NP}{xs:List α}{a:NP}{x:α}(h:B9 f H ps xs)(e:H a=some (.lst (f x))):B9 f H (ps++[a]) (xs++[x]):=by
 refine⟨by simp[h.1],λi b y h1 h2=>?_⟩;by_cases hi:i<ps.length
 .rw[JL hi]at h1;rw[JL (by rw[<-h.1];exact hi)]at h2;exact h.2 i b y h1 h2
 .rw[JR (by omega)]at h1;rw[JR (by rw[<-h.1];omega),<-h.1]at h2;cases hk:i-ps.length with
  | zero=>rw[hk]at h1 h2;simp at h1 h2;subst h1 h2;exact e
  | succ k=>rw[hk]at h1;simp at h1
structure MacIn (K:Fg) (W H:Hp) (d:NP) (μ:Mac) (ha l b:NP) (ps rs:List NP):Prop where
 nd:(d::l::b::(ps++rs)).Nodup
 hd:H d=some (.dK (C4 (.ref ha) l b μ.t))
 hh:SqT K W ha [.int μ.h,wc μ.c,.str μ.u]
 hl:H l=some (.lst (ps.map V.ref))
 hb:H b=some (.lst (rs.map V.ref))
 pl:B9 dR H ps μ.line
 pb:B9 mV H rs μ.book
def zU (K:Fg)(W H:Hp)(d:NP)(μ:Mac)(A:List NP):Prop:=∃ha l b ps rs,A=d::l::b::(ps++rs)/\MacIn K W H d μ ha l b ps rs
def MacIn.keep {K:Fg}{W W' H H':Hp}{d:NP}{μ:Mac}{ha l b:NP}{ps rs:List NP}(h:MacIn K W H d μ ha l b ps rs)(s:d8 W W')(e:∀a∈d::l::b::(ps++rs),H' a=H a):MacIn K W' H' d μ ha l b ps rs :=
 ⟨h.nd,(e d (by simp)).trans h.hd,h.hh.same s,(e l (by simp)).trans h.hl,(e b (by simp)).trans h.hb,h.pl.keep λa ha=>e a (by simp[ha]),h.pb.keep λa ha=>e a (by simp[ha])⟩
def MacIn.has {K:Fg}{W H:Hp}{d:NP}{μ:Mac}{ha l b:NP}{ps rs:List NP}(h:MacIn K W H d μ ha l b ps rs):∀a∈l::b::(ps++rs),∃ys,H a=some (.lst ys):=λa hm=>by
 simp only[Jl,Jj]at hm;rcases hm with rfl | rfl | hm | hm
 .exact⟨_,h.hl⟩
 .exact⟨_,h.hb⟩
 .exact h.pl.has a hm
 .exact h.pb.has a hm
class LamC where
 l:List Str
instance macR [LamC]:Regs where
 S:=Mac
 Reg:=zU
 keep:=λ⟨ha,l,b,ps,rs,e,h⟩ s k=>⟨ha,l,b,ps,rs,e,h.keep s (e▸k)⟩
 has:=λ⟨ha,l,b,ps,rs,e,h⟩ a hm=>by
  rw[e]at hm;rcases Jl.1 hm with rfl | hm
  .exact⟨_,h.hd⟩
  .obtain⟨ys,z⟩:=h.has a hm;exact⟨_,z⟩
 lam:=LamC.l
section
variable [LamC]
local instance regI6:Feeds:=G4
variable {K:Fg}{X:Cx}{i0:Nat}{a b c e tg iter:NX}{es:List NX}{st:NW}{sts rest:List NW}{ta tb te:TE}{ma mb m:DE->M My}{t u:TS}{mt mu:DE->M Out}{pos pos' p p2 p3 p4:Pos}{x:Str}{j j2:Option Str}
def TEq (K:Fg)(i0:Nat)(te:TE)(m:DE->M My):Prop:=∀(d:NP) (B0 A0:List NP) (H0:Hp) (B A:List NP) (E:DE) (μ:FS) (σ:St) (H:Hp) (Q:VK) (r:My) (μ':FS),SitMB K i0 d B0 A0 H0 B A E μ σ H->m E μ=some (r,μ') ->
 (∀v H',μ' = μ->SitMB K i0 d B0 A0 H0 B A E μ σ H'->(∀a∈A,H' a=H a)->d8 (hid H B) (hid H' B)->a7 K (hid H' B) r v->Q v H')->te σ H Q
def TAq (K:Fg)(i0:Nat)(ta:TA)(m:DE->M (List My)):Prop:=∀(d:NP) (B0 A0:List NP) (H0:Hp) (B A:List NP) (E:DE) (μ:FS) (σ:St) (H:Hp) (Q:List V->Hp->Prop) (r:List My) (μ':FS),SitMB K i0 d B0 A0 H0 B A E μ σ H->m E μ=some (r,μ') ->
 (∀vs H',μ' = μ->SitMB K i0 d B0 A0 H0 B A E μ σ H'->(∀a∈A,H' a=H a)->d8 (hid H B) (hid H' B)->a6 K (hid H' B) r vs->Q vs H')->ta σ H Q
structure Eq1 (K:Fg) (X:Cx) (i0:Nat) (e:NX) (te:TE) (m:DE->M My):Prop where
 pe:PE X e te
 ok:TEq K i0 te m
structure Eaq (K:Fg) (X:Cx) (i0:Nat) (es:List NX) (ta:TA) (m:DE->M (List My)):Prop where
 pa:PA X es ta
 ok:TAq K i0 ta m
def SitMB.kept {d:NP}{B0 A0:List NP}{H0:Hp}{B A:List NP}{E:DE}{μ:FS}{σ:St}{H H':Hp}(S:SitMB K i0 d B0 A0 H0 B A E μ σ H)(k:Kp (tabP K) H H'):∀a∈A,H' a=H a:=λa ha=>by
 obtain⟨o,e⟩:=Regs.has S.rg a ha;rw[e];exact k a o e (S.aB a ha).2.1
def sI (h:Ev K X e te m):Eq1 K X i0 e te (mE m):=⟨h.pe,λd B0 A0 H0 B A E μ σ H Q r μ' S e q=>by
 obtain⟨⟨x,μ1⟩,e1,e⟩:=bS9 e;cases e;exact h.ok none B E μ σ H _ x μ1 S.I e1 λv H1 k1 f1 h1=>q v H1 rfl (S.step k1 f1.2) (S.kept k1) (S.sm k1) h1⟩
def q_m (h:TEq K i0 te m):TEm K i0 te m:=λd B0 A0 H0 B A E μ σ H Q r μ' S e q=>h d B0 A0 H0 B A E μ σ H _ r μ' S e λv H' em S' _ s h'=>q v H' B A (em▸S') s h'
def vA (h:Eq1 K X i0 e te m):Em K X i0 e te m:=⟨h.pe,q_m h.ok⟩
def rL:Eaq K X i0 [] F0 i5:=⟨l6,λd B0 A0 H0 B A E μ σ H Q r μ' S e q=>by cases e;exact q [] H rfl S (λ_ _=>rfl) (d8.refl _) a6.nil⟩
def S4 {t:TA}{ms:DE->M (List My)}(ha:Eq1 K X i0 e te m)(hr:Eaq K X i0 es t ms)(hs:Oa (e::es) X.env=(false,eval e X.env)::Oa es X.env:=by rfl):Eaq K X i0 (e::es) (v6 te t) (b9 m ms) :=
 ⟨i8 ha.pe hr.pa hs,λd B0 A0 H0 B A E μ σ H Q r μ' S e q=>by
  obtain⟨⟨x,μ1⟩,e1,e⟩:=bS9 e;obtain⟨⟨ys,μ2⟩,e2,e⟩:=bS9 e;cases e;refine ha.ok d B0 A0 H0 B A E μ σ H _ x μ1 S e1 λv H1 em1 S1 k1 s1 h1=>?_
  subst em1;exact hr.ok d B0 A0 H0 B A E _ σ H1 _ ys _ S1 e2 λvs H2 em2 S2 k2 s2 h2=>q _ H2 em2 S2 (λa ha=>(k2 a ha).trans (k1 a ha)) (s1.trans s2) (.cons (h1.same s2) h2)⟩
def Bv (K:Fg):List V->Hp->VK->Prop:=λxs H Q=>∃p ys,xs=[.ref p]/\(SqL K H p ys\/SqT K H p ys)/\Q (.int ys.length) H
def sAt:DE->M My:=λ_ μ=>some (.int (Mac.t μ),μ)
def iu:DE->M My:=λ_ μ=>some (fu μ,μ)
def mQ:DE->M My:=λ_ μ=>some (.int (Mac.line μ).length,μ)
def uD:DE->M My:=λ_ μ=>some (.int (Mac.book μ).length,μ)
def AF:DE->M My:=λ_ μ=>some (.bool (Mac.line μ).isEmpty,μ)
def ES:TEq K i0 (M0 (t9 i0) (tC (.str "at"))) sAt:=λd B0 A0 H0 B A E μ σ H Q r μ' S e q=>by
 cases e;obtain⟨ha,l,b,ps,rs,_,h⟩:=S.rg;exact⟨_,S.at0,d,_,rfl,xm h.hd,q _ H rfl S (λ_ _=>rfl) (d8.refl _) a7.int⟩
def As {k}(hu:X.A.units+65<On)(hN:X.N[i0]? = some x:=by rfl)(hv:Vis X.env.scope x:=by first | exact Or.inl rfl | exact Or.inr (Or.inl rfl) | exact Or.inr (Or.inr rfl))(hd:(x == ("__debug__":Str))=false:=by decide)(hcd:(x == ("__classdict__":Str))=false:=by decide) :
  Eq1 K X i0 (.Subscript (.Name x p) (.Constant (.str "at") k p2) pos) (M0 (t9 i0) (tC (.str "at"))) sAt:=⟨D5 (by omega) (D4 hN hv hd hcd) z7 (λ_ _=>rfl),ES⟩
def rO {H:Hp}{c:Option Int}:a7 K H (gq c) (wc c):=by
 cases c with
 | none=>exact a7.non
 | some i=>exact a7.int
def gU {W:Hp}{μ:Mac}{ha:NP}(h:SqT K W ha [.int μ.h,wc μ.c,.str μ.u]):a7 K W (fu μ) (.ref ha):=by
 unfold fu;simp only[a7];exact⟨ha,_,rfl,h,.cons a7.int (.cons rO (.cons a7.st a6.nil))⟩
def zC:TEq K i0 (M0 (t9 i0) (tC (.str "house"))) iu:=λd B0 A0 H0 B A E μ σ H Q r μ' S e q=>by
 cases e;obtain⟨ha,l,b,ps,rs,_,h⟩:=S.rg;exact⟨_,S.at0,d,_,rfl,gO h.hd,q _ H rfl S (λ_ _=>rfl) (d8.refl _) (gU h.hh)⟩
def nW {k}(hu:X.A.units+65<On)(hN:X.N[i0]? = some x:=by rfl)(hv:Vis X.env.scope x:=by first | exact Or.inl rfl | exact Or.inr (Or.inl rfl) | exact Or.inr (Or.inr rfl))(hd:(x == ("__debug__":Str))=false:=by decide)(hcd:(x == ("__classdict__":Str))=false:=by decide) :
  Eq1 K X i0 (.Subscript (.Name x p) (.Constant (.str "house") k p2) pos) (M0 (t9 i0) (tC (.str "house"))) iu:=⟨D5 (by omega) (D4 hN hv hd hcd) z7 (λ_ _=>rfl),zC⟩
def Ej {f:My->My->Option My}(hr:IxR X (rD2 K f))(ha:Em K X i0 a ta ma)(hb:Em K X i0 b tb mb)(hs:lB b:=by intro _ _;rfl):Em K X i0 (.Subscript a b pos) (tOp (rD2 K f) ta tb) (s2 f ma mb):=⟨N4 hr ha.pe hb.pe hs,λd B0 A0 H0 B A E μ σ H Q r μ' S e q=>by
 obtain⟨⟨x,μ1⟩,e1,e⟩:=bS9 e;obtain⟨⟨y,μ2⟩,e2,e⟩:=bS9 e;obtain⟨z,e3,e⟩:=bS9 e;cases e;refine ha.ok d B0 A0 H0 B A E μ σ H _ x μ1 S e1 λv H1 B1 A1 S1 s1 h1=>?_
 refine hb.ok d B0 A0 H0 B1 A1 E μ1 σ H1 _ y _ S1 e2 λw H2 B2 A2 S2 s2 h2=>⟨tabP K,B2,x,y,_,S2.I.bk,cf (h1.same s2) S2.I.fB,cf h2 S2.I.fB,e3,λu H3 s hu=>?_⟩
 exact q u H3 B2 A2 (S2.step (Kp.same s) (S2.I.fd.same s).2) ((s1.trans s2).trans (S2.sm (Kp.same s))) hu⟩
def qR {k}(hK:X.K=K)(hu:X.A.units+65<On)(hl:X.mg "len" = none)(hN:X.N[i0]? = some x:=by rfl)(hv:Vis X.env.scope x:=by first | exact Or.inl rfl | exact Or.inr (Or.inl rfl) | exact Or.inr (Or.inr rfl))(hd:(x == ("__debug__":Str))=false:=by decide)(hcd:(x == ("__classdict__":Str))=false:=by decide)(hg:Gl X "len":=by rfl)
  (he:Oa [.Subscript (.Name x p) (.Constant (.str "line") k p2) p3] X.env=(false,eval (.Subscript (.Name x p) (.Constant (.str "line") k p2) p3) X.env)::Oa [] X.env:=by rfl) (hpl:(Od pos (Oa [] X.env)).any (·.1)=false:=by rfl) :
  Eq1 K X i0 (.Call (.Name "len" p4) [.Subscript (.Name x p) (.Constant (.str "line") k p2) p3] [] pos) (tCB (Bv K) (v6 (M0 (t9 i0) (tC (.str "line"))) F0)) mQ:=by
 subst hK;refine⟨Y6 L0 hg hl MF (i8 (D5 (by omega) (D4 hN hv hd hcd) z7 (λ_ _=>rfl)) l6 he) (by decide) (by decide) he hpl,λd B0 A0 H0 B A E μ σ H Q r μ' S e q=>?_⟩;cases e;obtain⟨ha,l,b,ps,rs,_,h⟩:=S.rg;exact⟨_,S.at0,d,_,rfl,bH h.hd,l,_,rfl,.inl (SqL.of h.hl),by rw[Jf,h.pl.1];exact q _ H rfl S (λ_ _=>rfl) (d8.refl _) a7.int⟩
def xK {k}(hK:X.K=K)(hu:X.A.units+65<On)(hl:X.mg "len" = none)(hN:X.N[i0]? = some x:=by rfl)(hv:Vis X.env.scope x:=by first | exact Or.inl rfl | exact Or.inr (Or.inl rfl) | exact Or.inr (Or.inr rfl))(hd:(x == ("__debug__":Str))=false:=by decide)(hcd:(x == ("__classdict__":Str))=false:=by decide)(hg:Gl X "len":=by rfl)
  (he:Oa [.Subscript (.Name x p) (.Constant (.str "book") k p2) p3] X.env=(false,eval (.Subscript (.Name x p) (.Constant (.str "book") k p2) p3) X.env)::Oa [] X.env:=by rfl) (hpl:(Od pos (Oa [] X.env)).any (·.1)=false:=by rfl) :
  Eq1 K X i0 (.Call (.Name "len" p4) [.Subscript (.Name x p) (.Constant (.str "book") k p2) p3] [] pos) (tCB (Bv K) (v6 (M0 (t9 i0) (tC (.str "book"))) F0)) uD:=by
 subst hK;refine⟨Y6 L0 hg hl MF (i8 (D5 (by omega) (D4 hN hv hd hcd) z7 (λ_ _=>rfl)) l6 he) (by decide) (by decide) he hpl,λd B0 A0 H0 B A E μ σ H Q r μ' S e q=>?_⟩;cases e;obtain⟨ha,l,b,ps,rs,_,h⟩:=S.rg;exact⟨_,S.at0,d,_,rfl,gA h.hd,b,_,rfl,.inl (SqL.of h.hb),by rw[Jf,h.pb.1];exact q _ H rfl S (λ_ _=>rfl) (d8.refl _) a7.int⟩
end
end
section
def wK (K:Fg):R2:=λx y H Q=>∃a b xs,x = .ref a/\y = .ref b/\SqL K H a xs/\SqL K H b []/\Q (.bl xs.isEmpty) H
def wy {X:Cx}(hu:X.A.units<On):OpR X (compareOp .Eq) (wK X.K):=by
 intro pins s σ H x y v u Q I rx ry h;obtain⟨a,b,xs,rfl,rfl,ha,hb,q⟩:=h;cases rx;cases ry;obtain⟨its,rv,p,hz⟩:=I.list ha;obtain⟨its2,rv2,p2,hz2⟩:=I.list hb;cases rv2;cases rv with
 | nil=>exact(SeqAt.RcAt.lists (e:=λ_=>true) p.isList p2.isList rfl hu λj h1 _=>absurd h1 (by simp)) _ _ _ _ ⟨.bl true,H,I,rfl,q⟩
 | cons r1 r2=>exact(SeqAt.RcAt.lists_lengths p.isList p2.isList (by simp) hu) _ _ _ _ ⟨.bl false,H,I,rfl,q⟩
section
variable [LamC]
local instance regI7:Feeds:=G4
variable {K:Fg}{X:Cx}{i0:Nat}{a b c e tg iter:NX}{es:List NX}{st:NW}{sts rest:List NW}{ta tb te:TE}{ma mb m:DE->M My}{t u:TS}{mt mu:DE->M Out}{pos pos' p p2 p3 p4:Pos}{x:Str}{j j2:Option Str}
def tT {ps:List NP}{xs:List Per}(h:ps.length=xs.length):(ps.map V.ref).isEmpty=xs.isEmpty:=by
 cases ps <;> cases xs <;> simp at h ⊢
def DA {R:R2}{f:Bool->Bool}(hR:∀{l p:NP} {ys:List V} {H:Hp} {Q:VK},SqL K H l ys->SqL K H p []->Q (.bl (f ys.isEmpty)) H->R (.ref l) (.ref p) H Q):TEq K i0 (tOp R (M0 (t9 i0) (tC (.str "line"))) (cz F0)) (λ_ μ=>some (.bool (f (Mac.line μ).isEmpty),μ)):=λd B0 A0 H0 B A E μ σ H Q r μ' S e q=>by
 cases e;obtain⟨ha,l,b,ps,rs,_,h⟩:=S.rg;refine⟨_,S.at0,d,_,rfl,bH h.hd,Ka _,λp hp=>hR (SqL.of (by rw[a8 (e8 h.hl hp)];exact h.hl)) (SqL.of c7) ?_⟩;rw[tT h.pl.1];exact q _ _ rfl (S.step (Kp.upd hp) (S.I.fd.same (d8.upd hp)).2) (S.kept (Kp.upd hp)) (S.sm (Kp.upd hp)) a7.bl
def yP {k}(hK:X.K=K)(hu:X.A.units+65<On)(hN:X.N[i0]? = some x:=by rfl)(hv:Vis X.env.scope x:=by first | exact Or.inl rfl | exact Or.inr (Or.inl rfl) | exact Or.inr (Or.inr rfl))(hd:(x == ("__debug__":Str))=false:=by decide)(hcd:(x == ("__classdict__":Str))=false:=by decide)(hm:behindInMarks .Eq (.List [] p4)=false:=by first | exact X5 _ | rfl) :
  Etm K X i0 (.Compare (.Subscript (.Name x p) (.Constant (.str "line") k p2) p3) [.Eq] [.List [] p4] pos) (bf (tOp (wK K) (M0 (t9 i0) (tC (.str "line"))) (cz F0))) (uB AF):=by
 subst hK;exact⟨R8 (wy (by omega)) (D5 (by omega) (D4 hN hv hd hcd) z7 (λ_ _=>rfl)) (P7 l6) hm,Bc (q_m (DA (f:=id) λh1 h2 q=>⟨_,_,_,rfl,rfl,h1,h2,q⟩))⟩
section
variable {d:NP}{B0 A0:List NP}{H0:Hp}{B A:List NP}{E:DE}{μ μ':Mac}{σ:St}{H H':Hp}
def SitMB.remake {A':List NP}(S:SitMB K i0 d B0 A0 H0 B A E μ σ H)(kp:∀b o,H b=some o->b ∉ A->H' b=some o)(hA:∀a∈A',a∈A\/H a=none)(al:∀a∈A,∃o,H' a=some o)(rg:∀{W:Hp},d8 (hid H B) W->zU K W H' d μ' A'):SitMB K i0 d B0 A0 H0 (A'++B) A' E μ' σ H'/\d8 (hid H B) (hid H' (A'++B)):=by
 have tn:∀b∈A,b ∉ tabP K:=λb hb=>(S.aB b hb).2.1
 have nB:∀a,H a=none->a ∉ B:=λa e=>S.I.bk.nin e
 refine S.called ⟨?_,λa ha=>?_,λb o e _ n=>kp b o e n,?_,λb hb=>?_⟩
 .refine rg λb o eb=>?_
  by_cases hB:b∈B
  .rw[z9 hB]at eb;cases eb
  .rw[e9 hB]at eb;rw[e9 λz=>(Jj.1 z).elim (λz=>(hA b z).elim (λz=>hB (S.aB b z).1) λz=>by rw[z]at eb;cases eb) hB];exact kp b o eb λz=>hB (S.aB b z).1
 .rcases hA a ha with h | h
  .exact⟨tn a h,.inl h⟩
  .exact⟨λz=>nB a h (S.s a (S.tB a z)),.inr ⟨h,nB a h⟩⟩
 .refine S.I.fd.2.congr λb hb=>?_
  obtain⟨o,e,n⟩:∃o,H b=some o/\b ∉ A:=by
   rcases hb with hb | ⟨φ,e⟩
   .obtain⟨t,ht,rfl⟩:=JS.1 hb;obtain⟨ps,e,_⟩:=S.I.fd.2 t ht;exact⟨_,e,λz=>tn _ z (KZ ht)⟩
   .refine⟨_,e,λz=>?_⟩;obtain⟨ha,l,bb,ps,rs,ea,h⟩:=S.rg;rw[ea]at z;rcases Jl.1 z with rfl | z
    .rw[h.hd]at e;cases e
    .obtain⟨ys,ey⟩:=h.has b z;rw[ey]at e;cases e
  rw[e];exact kp b o e n
 .by_cases hb':b∈A
  .exact al b hb'
  .obtain⟨o,e⟩:=S.I.bk b hb;exact⟨o,kp b o e hb'⟩
end
def jS:List My->Option Per
 | [.int n,.int r,.int l,.bool b]=>some ⟨n,r,l,b⟩
 | _=>none
def jK:List My->Option Row
 | [.str w,.int t,.none,.int q]=>some ⟨w,t,none,q⟩
 | _=>none
def yS {H:Hp}{ds:List My}{vs:List V}{y:Per}(h:jS ds=some y)(hd:a6 K H ds vs):vs=dR y:=by
 unfold jS at h;split at h
 .cases h;simp only[a6,a7]at hd;obtain⟨_,_,rfl,rfl,_,_,rfl,rfl,_,_,rfl,rfl,_,_,rfl,rfl,rfl⟩:=hd;rfl
 .cases h
def yJ {H:Hp}{ds:List My}{vs:List V}{y:Row}(h:jK ds=some y)(hd:a6 K H ds vs):vs=mV y:=by
 unfold jK at h;split at h
 .cases h;simp only[a6,a7]at hd;obtain⟨_,_,rfl,rfl,_,_,rfl,rfl,_,_,rfl,rfl,_,_,rfl,rfl,rfl⟩:=hd;rfl
 .cases h
def mB (ms:DE->M (List My)):DE->M Out:=λE μ=>(ms E μ).bind λp=>(jS p.1).bind λy=>if (Mac.line p.2).length<NZ/\p.1.length<=NZ then some (.nx E,{ (p.2:Mac) with line:=Mac.line p.2++[y] }) else none
def nC (ms:DE->M (List My)):DE->M Out:=λE μ=>(ms E μ).bind λp=>(jK p.1).bind λy=>if (Mac.book p.2).length<NZ/\p.1.length<=NZ then some (.nx E,{ (p.2:Mac) with book:=Mac.book p.2++[y] }) else none
def BI {ta:TA}{ms:DE->M (List My)}(h:TAq K i0 ta ms):TSm K i0 (cb (tBM K "list" R7 (M0 (t9 i0) (tC (.str "line"))) (v6 (cz ta) F0))) (mB ms):=λd B0 A0 H0 B A E μ σ H D r μ' S e q=>by
 obtain⟨⟨ds,μ1⟩,e1,e⟩:=bS9 e;obtain⟨y,e2,e⟩:=bS9 e;split at e
 .rename_i hsz;cases e;obtain⟨ha,l,b,ps,rs,ea,hm⟩:=S.rg;refine⟨_,S.at0,d,_,rfl,bH hm.hd,.inl ⟨rfl,_,SqL.of hm.hl⟩,h d B0 A0 H0 B A E μ σ H _ ds μ1 S e1 λvs H1 em S1 k1 s1 h1=>⟨by rw[h1.length];exact hsz.2,λz hz=>?_⟩⟩;subst em;have ev:=yS e2 h1;subst ev;have hm1:MacIn K (hid H1 B) H1 d _ ha l b ps rs:=hm.keep s1 (ea▸k1);have nz:z ∉ A:=λzz=>by
   obtain⟨o,eo⟩:=Regs.has S1.rg z zz;rw[hz]at eo;cases eo
  have nd:=hm1.nd;have hlz:l≠z:=λzz=>nz (by rw[ea,<-zz];simp)
  refine⟨l,ps.map V.ref,.ref z,rfl,rfl,by rw[a8 hlz];exact hm1.hl,by rw[Jf,hm1.pl.1];exact hsz.1,?_⟩;have hH:∀a,a≠z->a≠l->(upd (upd H1 z (.lst (dR y))) l (.lst (ps.map V.ref++[.ref z]))) a=H1 a:=λa n1 n2=>by rw[a8 n2,a8 n1]
  obtain⟨Z,_⟩:=S1.remake (A':=d::l::b::((ps++[z])++rs)) (H':=upd (upd H1 z (.lst (dR y))) l (.lst (ps.map V.ref++[.ref z]))) (μ':={ (μ1:Mac) with line:=Mac.line μ1++[y] })
   (λb' o eo n=>by rw[hH b' (λzz=>by rw[zz,hz]at eo;cases eo) (λzz=>n (by rw[ea,zz];simp))];exact eo)
   (λa ha=>by
    simp only[Jl,Jj,Ko,Lv,Nm]at ha;rw[ea];simp only[Jl,Jj];rcases ha with h | h | h | (h | h) | h
    .exact .inl (.inl h)
    .exact .inl (.inr (.inl h))
    .exact .inl (.inr (.inr (.inl h)))
    .exact .inl (.inr (.inr (.inr (.inl h))))
    .exact .inr (h▸hz)
    .exact .inl (.inr (.inr (.inr (.inr h)))))
   (λa ha=>by
    by_cases h1:a=l
    .subst h1;exact⟨_,c7⟩
    .obtain⟨o,eo⟩:=Regs.has S1.rg a ha;rw[hH a (λzz=>nz (zz▸ha)) h1];exact⟨o,eo⟩)
   (λ{W} sW=>by
    have nl:l ∉ d::b::(ps++rs):=by simp at nd ⊢;grind
    have nzz:z ∉ d::l::b::(ps++rs):=ea▸nz;refine⟨ha,l,b,ps++[z],rs,rfl,?_,?_,hm1.hh.same sW,?_,?_,?_,?_⟩
    .simp at nd nzz ⊢;grind
    .rw[hH d (by simp at nzz;grind) (by simp at nl;grind)];exact hm1.hd
    .rw[c7,JE];rfl
    .rw[hH b (by simp at nzz;grind) (by simp at nl;grind)];exact hm1.hb
    .refine B9.snoc (hm1.pl.keep λa ha=>hH a (by simp at nzz;grind) (by simp at nl;grind)) ?_;rw[a8 (JV hlz)];exact c7
    .exact hm1.pb.keep λa ha=>hH a (by simp at nzz;grind) (by simp at nl;grind))
  exact q _ _ σ _ Z
 .cases e
def Bj {ta:TA}{ms:DE->M (List My)}(h:TAq K i0 ta ms):TSm K i0 (cb (tBM K "list" R7 (M0 (t9 i0) (tC (.str "book"))) (v6 (cz ta) F0))) (nC ms):=λd B0 A0 H0 B A E μ σ H D r μ' S e q=>by
 obtain⟨⟨ds,μ1⟩,e1,e⟩:=bS9 e;obtain⟨y,e2,e⟩:=bS9 e;split at e
 .rename_i hsz;cases e;obtain⟨ha,l,b,ps,rs,ea,hm⟩:=S.rg;refine⟨_,S.at0,d,_,rfl,gA hm.hd,.inl ⟨rfl,_,SqL.of hm.hb⟩,h d B0 A0 H0 B A E μ σ H _ ds μ1 S e1 λvs H1 em S1 k1 s1 h1=>⟨by rw[h1.length];exact hsz.2,λz hz=>?_⟩⟩;subst em;have ev:=yJ e2 h1;subst ev;have hm1:MacIn K (hid H1 B) H1 d _ ha l b ps rs:=hm.keep s1 (ea▸k1);have nz:z ∉ A:=λzz=>by
   obtain⟨o,eo⟩:=Regs.has S1.rg z zz;rw[hz]at eo;cases eo
  have nd:=hm1.nd;have hlz:b≠z:=λzz=>nz (by rw[ea,<-zz];simp)
  refine⟨b,rs.map V.ref,.ref z,rfl,rfl,by rw[a8 hlz];exact hm1.hb,by rw[Jf,hm1.pb.1];exact hsz.1,?_⟩;have hH:∀a,a≠z->a≠b->(upd (upd H1 z (.lst (mV y))) b (.lst (rs.map V.ref++[.ref z]))) a=H1 a:=λa n1 n2=>by rw[a8 n2,a8 n1]
  obtain⟨Z,_⟩:=S1.remake (A':=d::l::b::(ps++(rs++[z]))) (H':=upd (upd H1 z (.lst (mV y))) b (.lst (rs.map V.ref++[.ref z]))) (μ':={ (μ1:Mac) with book:=Mac.book μ1++[y] })
   (λb' o eo n=>by rw[hH b' (λzz=>by rw[zz,hz]at eo;cases eo) (λzz=>n (by rw[ea,zz];simp))];exact eo)
   (λa ha=>by
    simp only[Jl,Jj,Ko,Lv,Nm]at ha;rw[ea];simp only[Jl,Jj];rcases ha with h | h | h | h | (h | h)
    .exact .inl (.inl h)
    .exact .inl (.inr (.inl h))
    .exact .inl (.inr (.inr (.inl h)))
    .exact .inl (.inr (.inr (.inr (.inl h))))
    .exact .inl (.inr (.inr (.inr (.inr h))))
    .exact .inr (h▸hz))
   (λa ha=>by
    by_cases h1:a=b
    .subst h1;exact⟨_,c7⟩
    .obtain⟨o,eo⟩:=Regs.has S1.rg a ha;rw[hH a (λzz=>nz (zz▸ha)) h1];exact⟨o,eo⟩)
   (λ{W} sW=>by
    have nl:b ∉ d::l::(ps++rs):=by simp at nd ⊢;grind
    have nzz:z ∉ d::l::b::(ps++rs):=ea▸nz;refine⟨ha,l,b,ps,rs++[z],rfl,?_,?_,hm1.hh.same sW,?_,?_,?_,?_⟩
    .simp at nd nzz ⊢;grind
    .rw[hH d (by simp at nzz;grind) (by simp at nl;grind)];exact hm1.hd
    .rw[hH l (by simp at nzz;grind) (by simp at nl;grind)];exact hm1.hl
    .rw[c7,JE];rfl
    .exact hm1.pl.keep λa ha=>hH a (by simp at nzz;grind) (by simp at nl;grind)
    .refine B9.snoc (hm1.pb.keep λa ha=>hH a (by simp at nzz;grind) (by simp at nl;grind)) ?_;rw[a8 (JV hlz)];exact c7)
  exact q _ _ σ _ Z
 .cases e
end
end
section
def isInt:My->Bool
 | .int _=>true
 | _=>false
def gc:DE->Bool
 | []=>true
 | some (.own _)::_=>false
 | _::r=>gc r
theorem jH:∀{E:DE} {i:Nat} {ds:List My},gc E=true->E[i]? ≠ some (some (DV.own ds))
 | [],i,ds,_=>by simp
 | x::r,0,ds,h=>by
  intro z;simp at z;subst z;simp[gc]at h
 | x::r,i+1,ds,h=>by
  have:gc r=true:=by
   cases x with
   | none=>simpa [gc] using h
   | some y=>cases y <;> simp[gc]at h <;> exact h
  simpa using jH (i:=i) (ds:=ds) this
theorem nE {K:Fg}{H H':Hp}:∀{ds:List My} {ws:List V},ds.all isInt=true->a6 K H ds ws->a6 K H' ds ws
 | [],ws,_,h=>by simpa only[a6] using h
 | d::ds,ws,hi,h=>by
  simp only[List.all_cons,LJ]at hi;simp only[a6]at h ⊢;obtain⟨x,r,e,h1,h2⟩:=h;refine⟨x,r,e,?_,nE hi.2 h2⟩;cases d <;> simp[isInt]at hi;simpa only[a7] using h1
section
variable [LamC]
local instance regI8:Feeds:=G4
variable {K:Fg}{X:Cx}{i0:Nat}{a b c e tg iter:NX}{es:List NX}{st:NW}{sts rest:List NW}{ta tb te:TE}{ma mb m:DE->M My}{t u:TS}{mt mu:DE->M Out}{pos pos' p p2 p3 p4 px py:Pos}{x y:Str}
def AR {H:Hp}{a:NP}{q:Per}(h:H a=some (.lst (dR q))):a7 K H (cS q) (.ref a):=by
 unfold cS;exact a7.lst h (.cons a7.int (.cons a7.int (.cons a7.int (.cons a7.bl a6.nil))))
def Bh {H:Hp}{a:NP}{q:Row}(h:H a=some (.lst (mV q))):a7 K H (vv q) (.ref a):=by
 unfold vv;exact a7.lst h (.cons a7.st (.cons a7.int (.cons rO (.cons a7.int a6.nil))))
theorem iR {α:Type}{f:α->List V}{g:α->My}{H:Hp}{B:List NP}(hg:∀{a:NP} {q:α},hid H B a=some (.lst (f q))->a7 K (hid H B) (g q) (.ref a)):∀{ps:List NP} {xs:List α},B9 f H ps xs->(∀a∈ps,a ∉ B)->a6 K (hid H B) (xs.map g) (ps.map V.ref)
 | [],[],_,_=>by simp[a6]
 | [],x::xs,h,_=>by have:=h.1;simp at this
 | a::ps,[],h,_=>by have:=h.1;simp at this
 | a::ps,x::xs,h,hn=>by
  refine .cons (hg ?_) (iR hg ⟨by have:=h.1;simpa using this,λi b y h1 h2=>h.2 (i+1) b y (by simpa using h1) (by simpa using h2)⟩ λb hb=>hn b (Jh _ hb));rw[e9 (hn a Jv)];exact h.2 0 a x rfl rfl
def mJ (μ:Mac):My:=.list (μ.line.map cS)
def nO (μ:Mac):My:=.list (μ.book.map vv)
section
variable {d:NP}{B0 A0:List NP}{H0:Hp}{B A:List NP}{E:DE}{μ μ':Mac}{σ:St}{H H':Hp}{ha l bb:NP}{ps rs:List NP}
def MacIn.lineIs (h:MacIn K (hid H B) H d μ ha l bb ps rs){B':List NP}(n:∀a∈l::bb::(ps++rs),a ∉ B'):a7 K (hid H B') (mJ μ) (.ref l):=by
 refine a7.lst ?_ (iR (λz=>AR z) h.pl λa ha=>n a (by simp[ha]));rw[e9 (n l (by simp))];exact h.hl
def MacIn.bookIs (h:MacIn K (hid H B) H d μ ha l bb ps rs){B':List NP}(n:∀a∈l::bb::(ps++rs),a ∉ B'):a7 K (hid H B') (nO μ) (.ref bb):=by
 refine a7.lst ?_ (iR (λz=>Bh z) h.pb λa ha=>n a (by simp[ha]));rw[e9 (n bb (by simp))];exact h.hb
def SitMB.reveal (S:SitMB K i0 d B0 A0 H0 B A E μ σ H)(ea:A=d::l::bb::(ps++rs)):SitE K none (wo B (l::bb::(ps++rs))) E μ σ H:=by
 have mA:∀a∈l::bb::(ps++rs),a∈A:=λa h=>ea▸Jh _ h
 refine⟨S.I.fd,λb hb=>iG.2 ⟨S.s b (S.tB b hb),λz=>(S.aB b (mA b z)).2.1 hb⟩,λb hb=>S.I.bk b (iG.1 hb).1,S.I.ln,λi x ei=>?_⟩;obtain⟨v,v1,v2⟩:=S.I.loc i x ei;refine⟨v,v1,?_⟩;have sub:∀b∈wo B (l::bb::(ps++rs)),b∈B:=λb hb=>(iG.1 hb).1
 cases x with
 | dat y=>exact a7.same (show a7 K (hid H B) y v from v2) (M7 sub)
 | feed=>exact v2
 | fn _=>exact v2
 | adr _=>exact v2
 | own ys =>
  obtain⟨a',xs,rfl,hB,hf,hx,hd⟩:=v2;exact⟨a',xs,rfl,iG.2 ⟨hB,λz=>(S.own i ys a' ei v1).2 (mA _ z)⟩,hf,hx,hd.same (M7 sub)⟩
end
def bu (j:Nat)(mu:DE->M (List My)):DE->M Out:=λE μ=>if j<E.length/\gc E=true then(mu (E.set j (some (.dat (mJ μ)))) μ).bind λp=>if p.1.all isInt=true then some (.rt (.list p.1),μ) else none else none
def jX {E:DE}{j:Nat}{d:My}(h:gc E=true):∀(i:Nat) (ds:List My),(E.set j (some (.dat d)))[i]? ≠ some (some (DV.own ds)):=λi ds e=>by
 by_cases hj:j=i
 .subst hj;by_cases hl:j<E.length
  .rw[Ju hl]at e;cases e
  .rw[Kx (by simpa using hl)]at e;cases e
 .rw[Jp hj]at e;exact jH h e
def xr {j:Nat}{u:TS}{mu:DE->M (List My)}(h:∀(G:GF) (B0:List NP) (H0:Hp) (E:DE) (F:FS) (σ:St) (H:Hp) (D:Ends) (ds:List My) (F':FS),Sit K G B0 H0 E F σ H->mu E F=some (ds,F') ->
  (∀a ws H',H0 a=none->H' a=some (.lst ws)->Kp (n6 K G) H0 H'->FAt K G H' F'->a6 K (hid H' (a::B0)) ds ws->D.rt (.ref a) H')->u D σ H):TSm K i0 (T5 (N0 (M0 (t9 i0) (tC (.str "line"))) (K0 j)) u) (bu j mu):=λd B0 A0 H0 B A E μ σ H D r μ' S e q=>by
 unfold bu at e;split at e
 .rename_i hc;obtain⟨⟨ds,μ1⟩,e1,e⟩:=bS9 e;split at e
  .rename_i hi;cases e;obtain⟨ha,l,bb,ps,rs,ea,hm⟩:=S.rg;have nn:∀a∈l::bb::(ps++rs),a ∉ wo B (l::bb::(ps++rs)):=λa h z=>(iG.1 z).2 h
   have I0:=S.reveal ea;refine⟨_,S.at0,d,_,rfl,bH hm.hd,?_⟩;refine h none (wo B (l::bb::(ps++rs))) H _ μ _ H D ds μ1 ⟨⟨_,λ_ z=>z,λb hb=>.inl hb,I0.set (hm.lineIs nn) hc.1⟩,I0.fB,Kp.refl,λi es a ei _=>absurd ei (jX hc.2 i es),λi k es fs a ei _ _ _=>absurd ei (jX hc.2 i es)⟩ e1 λa ws H' hn hw k f hd=>?_
   have S':=S.step k f.2;refine q _ H' A S'.fin.1 (a7.lst ?_ (nE hi hd));rw[e9 λz=>?_]
   .exact hw
   .refine S.I.bk.nin hn ?_;rcases Jj.1 z with z | z
    .exact(S.aB a z).1
    .exact S.s a z
  .cases e
 .cases e
def ud (j:Nat){k}{u:TS}{mu:DE->M (List My)}(hu:X.A.units+65<On)(hN:X.N.Nodup)(h:SsG K X rest u mu)(h0:X.N[i0]? = some x:=by rfl)(hv:Vis X.env.scope x:=by first | exact Or.inl rfl | exact Or.inr (Or.inl rfl) | exact Or.inr (Or.inr rfl))(hd:(x == ("__debug__":Str))=false:=by decide)(hcd:(x == ("__classdict__":Str))=false:=by decide)
  (hi:X.N[j]? = some y:=by rfl) (hx:Loc X.env.scope y:=by first | exact Or.inl rfl | exact Or.inr rfl) (hs:Oh (.Subscript (.Name x px) (.Constant (.str "line") k p2) p3) (some (.Name y py)) pos.line X.env=pure false:=by rfl) (hf:X.fn y=true\/X.env.scope.names.lookup y=some .local:=by first | exact .inl rfl | exact .inr rfl | assumption) :
  SmsR K X i0 (.Assign [.Name y py] (.Subscript (.Name x px) (.Constant (.str "line") k p2) p3) pos::rest) (T5 (N0 (M0 (t9 i0) (tC (.str "line"))) (K0 j)) u) (bu j mu) :=
 ⟨l3 (N1 hN hi hx (D5 (by omega) (D4 h0 hv hd hcd) z7 (λ_ _=>rfl)) hs hf) h.ps,xr h.ok⟩
def zF {k}{ap cp pl:Pos}{ta:TA}{ms:DE->M (List My)}(hK:X.K=K)(hu:X.A.units+65<On)(h:Eaq K X i0 es ta ms)(h0:X.N[i0]? = some x:=by rfl)(hv:Vis X.env.scope x:=by first | exact Or.inl rfl | exact Or.inr (Or.inl rfl) | exact Or.inr (Or.inr rfl))(hd:(x == ("__debug__":Str))=false:=by decide)(hcd:(x == ("__classdict__":Str))=false:=by decide)
  (hbase:Oi (.Subscript (.Name x px) (.Constant (.str "line") k p2) p3) "append" X.env (eval (.Subscript (.Name x px) (.Constant (.str "line") k p2) p3) X.env)=eval (.Subscript (.Name x px) (.Constant (.str "line") k p2) p3) X.env:=by rfl)
  (hfew:((Od cp (Oa [.List es pl] X.env)).all (λx=>!x.1)&&(Os cp (Ot [] X.env)).all (λx=>x.1.isSome)
   && decide ([NX.List es pl].length+([]:List Oe).length+(if ([]:List Oe).isEmpty then 0 else 1)<30))=true:=by rfl)
  (hline:(ap.endLine == cp.line)=true:=by rfl) (hst:Oa [.List es pl] X.env=(false,eval (.List es pl) X.env)::Oa [] X.env:=by rfl) (hplain:(Od cp (Oa [] X.env)).any (·.1)=false:=by rfl)
  (hs:Oh (.Call (.Attribute (.Subscript (.Name x px) (.Constant (.str "line") k p2) p3) "append" ap) [.List es pl] [] cp) none pos.line X.env=pure false:=by rfl) :
  SmR K X i0 (.Expr (.Call (.Attribute (.Subscript (.Name x px) (.Constant (.str "line") k p2) p3) "append" ap) [.List es pl] [] cp) pos) (cb (tBM K "list" R7 (M0 (t9 i0) (tC (.str "line"))) (v6 (cz ta) F0))) (mB ms):=by
 subst hK;exact⟨ag (gS KU KP KQ L7 (D5 (by omega) (D4 h0 hv hd hcd) z7 (λ_ _=>rfl)) (i8 (P7 h.pa) l6 hst) hbase hfew hline hst hplain) hs,BI h.ok⟩
def yz {k}{ap cp pl:Pos}{ta:TA}{ms:DE->M (List My)}(hK:X.K=K)(hu:X.A.units+65<On)(h:Eaq K X i0 es ta ms)(h0:X.N[i0]? = some x:=by rfl)(hv:Vis X.env.scope x:=by first | exact Or.inl rfl | exact Or.inr (Or.inl rfl) | exact Or.inr (Or.inr rfl))(hd:(x == ("__debug__":Str))=false:=by decide)(hcd:(x == ("__classdict__":Str))=false:=by decide)
  (hbase:Oi (.Subscript (.Name x px) (.Constant (.str "book") k p2) p3) "append" X.env (eval (.Subscript (.Name x px) (.Constant (.str "book") k p2) p3) X.env)=eval (.Subscript (.Name x px) (.Constant (.str "book") k p2) p3) X.env:=by rfl)
  (hfew:((Od cp (Oa [.List es pl] X.env)).all (λx=>!x.1)&&(Os cp (Ot [] X.env)).all (λx=>x.1.isSome)
   && decide ([NX.List es pl].length+([]:List Oe).length+(if ([]:List Oe).isEmpty then 0 else 1)<30))=true:=by rfl)
  (hline:(ap.endLine == cp.line)=true:=by rfl) (hst:Oa [.List es pl] X.env=(false,eval (.List es pl) X.env)::Oa [] X.env:=by rfl) (hplain:(Od cp (Oa [] X.env)).any (·.1)=false:=by rfl)
  (hs:Oh (.Call (.Attribute (.Subscript (.Name x px) (.Constant (.str "book") k p2) p3) "append" ap) [.List es pl] [] cp) none pos.line X.env=pure false:=by rfl) :
  SmR K X i0 (.Expr (.Call (.Attribute (.Subscript (.Name x px) (.Constant (.str "book") k p2) p3) "append" ap) [.List es pl] [] cp) pos) (cb (tBM K "list" R7 (M0 (t9 i0) (tC (.str "book"))) (v6 (cz ta) F0))) (nC ms):=by
 subst hK;exact⟨ag (gS KU KP KQ L7 (D5 (by omega) (D4 h0 hv hd hcd) z7 (λ_ _=>rfl)) (i8 (P7 h.pa) l6 hst) hbase hfew hline hst hplain) hs,Bj h.ok⟩
end
end
section
section
variable [LamC]
local instance regI9:Feeds:=G4
variable {K:Fg}{X:Cx}{i0:Nat}{a b c e tg iter:NX}{es:List NX}{st:NW}{sts rest:List NW}{ta tb te:TE}{ma mb m:DE->M My}{t u:TS}{mt mu:DE->M Out}{pos pos' p p2 p3 p4 px py:Pos}{x y:Str}
def Ac:My->Option (Option Int)
 | .none=>some none
 | .int i=>some (some i)
 | _=>none
def bE:My->Option Mac
 | .tuple [.int h,c,.str u]=>(Ac c).bind λc=>some ⟨h,c,u,[],[],0⟩
 | _=>none
def uh (hv:V)(l b:NP):fx [] (C4 hv l b 0)=C4 hv l b 0:=by
 have e1:O1 ([]:List (Key×V)) (Sum.inr "house") hv=([(Sum.inr "house",hv)]:List (Key×V)):=dW _ rfl;have e2:O1 ([(Sum.inr "house",hv)]:List (Key×V)) (Sum.inr "line") (V.ref l)=([(Sum.inr "house",hv),(Sum.inr "line",V.ref l)]:List (Key×V)):=dW _ (by rw[B8 (by rw[P1];exact mn1)];rfl);have e3:O1 ([(Sum.inr "house",hv),(Sum.inr "line",V.ref l)]:List (Key×V)) (Sum.inr "book") (V.ref b)=([(Sum.inr "house",hv),(Sum.inr "line",V.ref l),(Sum.inr "book",V.ref b)]:List (Key×V)) :=
  dW _ (by rw[B8 (by rw[P1];exact mn2),B8 (by rw[P1];exact mn4)];rfl)
 have e4:O1 ([(Sum.inr "house",hv),(Sum.inr "line",V.ref l),(Sum.inr "book",V.ref b)]:List (Key×V)) (Sum.inr "at") (V.int 0)=C4 hv l b 0 :=
  dW _ (by rw[B8 (by rw[P1];exact mn3),B8 (by rw[P1];exact mn5),B8 (by rw[P1];exact mn6)];rfl)
 show O1 (O1 (O1 (O1 ([]:List (Key×V)) (Sum.inr "house") hv) (Sum.inr "line") (V.ref l)) (Sum.inr "book") (V.ref b)) (Sum.inr "at") (V.int 0)=_;rw[e1,e2,e3,e4]
def DI:TE:=Az [(tC (.str "house"),t9 0),(tC (.str "line"),cz F0),(tC (.str "book"),cz F0),(tC (.str "at"),tC (.int 0))]
def DD {vs:List V}{H:Hp}{Q:VK}{E:XK}{D:Ends}{N:List Str}(h:spN K bE vs H Q E)(hD:D.rt=Q):oK DI D (L2.E8 N vs) H:=by
 obtain⟨B,hh,μ,v,rfl,bk,hd,hm,q⟩:=h;obtain⟨hn,c,u,ec,rfl,rfl⟩:∃hn c u,True/\hh = .tuple [.int hn,gq c,.str u] /\ μ=⟨hn,c,u,[],[],0⟩:=by
  unfold bE at hm;split at hm
  .rename_i h1 c1 u1;obtain⟨c2,e1,e2⟩:=bS9 hm;cases e2;refine⟨_,c2,_,trivial,?_,rfl⟩;unfold Ac at e1;split at e1
   .cases e1;rfl
   .cases e1;rfl
   .cases e1
  .cases hm
 simp only[a7]at hd;obtain⟨ha,xs,rfl,hq,hx⟩:=hd;have hx:xs=[.int hn,wc c,.str u]:=by
  simp only[a6,a7]at hx;obtain⟨_,_,rfl,rfl,y,_,rfl,h2,_,_,rfl,rfl,rfl⟩:=hx;cases c with
  | none =>
   have:y = .non:=by simpa only[gq,a7] using h2
   subst this;rfl
  | some i =>
   have:y = .int i:=by simpa only[gq,a7] using h2
   subst this;rfl
 subst hx;show DI (L2.E8 N [.ref ha]) H D.rt;rw[hD];intro p hp;refine⟨_,rfl,Ka _,λl hl=>⟨Ka _,λb hb=>?_⟩⟩;have pl:p≠l:=e8 c7 hl;have lb:l≠b:=e8 c7 hb;have hb1:=hb;rw[a8 (JV lb)]at hb1;have pb:p≠b:=e8 c7 hb1;have hl0:H l=none:=by rw[a8 (JV pl)]at hl;exact hl
 have hb0:H b=none:=by rw[a8 (JV pb)]at hb1;exact hb1
 refine⟨by rw[a8 pb,a8 pl];exact c7,C4 (.ref ha) l b 0,rfl,by show 4<=15;decide,?_⟩;rw[uh];have sm:d8 H (upd (upd (upd (upd H p (.dK [])) l (.lst [])) b (.lst [])) p (.dK (C4 (.ref ha) l b 0))):=λx o e=>by
  rw[a8 (e8 e hp),a8 (e8 e hb0),a8 (e8 e hl0),a8 (e8 e hp)];exact e
 refine q p [p,l,b] _ sm (λa hm=>?_) ⟨ha,l,b,[],[],rfl,?_,c7,hq.same λx o e=>?_,?_,?_,⟨rfl,λi x y h1 _=>by simp at h1⟩,⟨rfl,λi x y h1 _=>by simp at h1⟩⟩
 .simp at hm;rcases hm with rfl | rfl | rfl
  .exact hp
  .exact hl0
  .exact hb0
 .simp[pl,pb,lb]
 .by_cases hB:x∈B
  .rw[z9 hB]at e;cases e
  .rw[e9 hB]at e;rw[e9 λz=>?_]
   .exact sm x o e
   .simp at z;rcases z with z | z | z | z
    .rw[z,hp]at e;cases e
    .rw[z,hl0]at e;cases e
    .rw[z,hb0]at e;cases e
    .exact hB z
 .rw[a8 (JV pl),a8 lb];exact c7
 .rw[a8 (JV pb)];exact c7
end
end
section
structure BS where
 line:List Per
 book:List Row
 stay:List Per
 turned:List Per
 gone:List Int
def fJ:Option My->Option Bool
 | some (.bool b)=>some b
 | _=>none
def hZ {o:Option My}{b:Bool}(h:fJ o=some b):o=some (.bool b):=by
 unfold fJ at h;split at h
 .cases h;rfl
 .cases h
def nN:My:=.tuple [.str "first",.str "last",.str "short",.str "front"]
def je (u:Str):Option Bool:=fJ (inD false (.str u) nN)
def inB (some:My)(k:Nat):Option Bool:=fJ (inD false (.int k) some)
def di (kp tn:Bool)(t:Int)(k:Nat)(pk:Bool)(s:BS):Option BS :=
 (s.line[k]?).bind λp=>(ixN s.book.length p.n).bind λj=>(s.book[j]?).bind λrow =>
  let p1:Per:=if pk=true then⟨p.n,p.r,p.l-1,kp⟩ else p
  let row1:Row:=if pk=true then row else⟨row.w,row.t,row.m,row.q+1⟩
  some (if p1.l=0 then⟨s.line.set k p1,s.book.set j ⟨"gone",row1.t,some t,row1.q⟩,s.stay,s.turned,s.gone++[p.n]⟩
   else if pk=true/\tn=true then⟨s.line.set k p1,s.book.set j row1,s.stay,s.turned++[p1],s.gone⟩
   else⟨s.line.set k p1,s.book.set j row1,s.stay++[p1],s.turned,s.gone⟩)
def ah (kp tn:Bool)(t:Int)(some:My):Nat->Nat->BS->Option BS
 | 0,_,s=>Option.some s
 | n+1,k,s=>(inB some k).bind λpk=>(di kp tn t k pk s).bind λs'=>ah kp tn t some n (k+1) s'
def ot (some:My)(μ:Mac):Option (List Int×Mac):=if μ.line.length<NZ/\(μ.line.length:Int)<2 ^ 62 then
 (je μ.u).bind λkp=>(ah kp (decide (μ.u = "turns")) (μ.t+1) some μ.line.length 0 ⟨μ.line,μ.book,[],[],[]⟩).bind λs=>Option.some (s.gone,{ μ with line:=s.stay++s.turned,book:=s.book,t:=μ.t+1 }) else none
section
variable (K:Fg)
def tML:TE:=M0 (t9 0) (tC (.str "line"))
def tMB:TE:=M0 (t9 0) (tC (.str "book"))
def Bw:TE:=tOp (Bg K) (M0 (t9 0) (tC (.str "house"))) (tC (.int 2))
def tP (i:Int):TE:=tOp (uu K) (t9 8) (tC (.int i))
def tR (i:Int):TE:=tOp (uu K) (t9 9) (tC (.int i))
def tIn:TT:=bf (tOp (rD2 K (inD false)) (t9 7) (t9 3))
def mR (i:Nat)(te:TE):TS:=cb (tBM K "list" R7 (t9 i) (v6 te F0))
def Aw:TS :=
 T5 (N0 (tOp (uu K) tML (t9 7)) (K0 8))
 (T5 (N0 (tOp (uu K) tMB (tP K 0)) (K0 9))
 (T5 (lX (tIn K)
   (T5 (N0 (tOp (rI0 λi j=>.int (i-j)) (tP K 2) (tC (.int 1))) (kH (t9 8) (tC (.int 2)) cY))
    (N0 (tOp (rD2 K (inD false)) (Bw K) (Q2 nN)) (kH (t9 8) (tC (.int 3)) cY)))
   (N0 (tOp (rI0 λi j=>.int (i+j)) (tR K 3) (tC (.int 1))) (kH (t9 9) (tC (.int 3)) cY)))
  (lX (bf (tOp rEq (tP K 2) (tC (.int 0))))
   (T5 (N0 (tC (.str "gone")) (kH (t9 9) (tC (.int 0)) cY))
   (T5 (N0 (M0 (t9 0) (tC (.str "at"))) (kH (t9 9) (tC (.int 2)) cY))
    (mR K 6 (tP K 0))))
   (lX (zl (tIn K) (bf (tOp rEq (Bw K) (tC (.str "turns")))))
    (mR K 5 (t9 8)) (mR K 4 (t9 8))))))
def Dx:TS :=
 T5 (uO (t9 0) (tC (.str "at")) (tOp (rI0 λi j=>.int (i+j)) (M0 (t9 0) (tC (.str "at"))) (tC (.int 1))))
 (T5 (N0 (cz F0) (K0 4)) (T5 (N0 (cz F0) (K0 5)) (T5 (N0 (cz F0) (K0 6))
 (T5 (sG (uE (v6 (tCB (Bv K) (v6 tML F0)) F0)) (K0 7) (Aw K))
 (T5 (uO (t9 0) (tC (.str "line")) (tOp DS (t9 4) (t9 5)))
  (oK (sF (v6 (t9 2) (v6 (t9 6) F0)))))))))
end
structure LP (K:Fg) (B A:List NP) (Hs:Hp) (d ha l b:NP) (ps rs:List NP) (st tu go:NP) (h:Int) (c:Option Int) (u:Str) (t:Int) (sa ta:List NP) (s:BS) (H:Hp):Prop where
 mi:MacIn K (hid H B) H d ⟨h,c,u,s.line,s.book,t⟩ ha l b ps rs
 hst:H st=some (.lst (sa.map V.ref))
 htu:H tu=some (.lst (ta.map V.ref))
 hgo:H go=some (.lst (s.gone.map V.int))
 so:B9 dR H sa s.stay
 to:B9 dR H ta s.turned
 kp:∀x o,Hs x=some o->x ∉ A->H x=some o
 bk:BOk H B
section
variable {K:Fg}{B A:List NP}{Hs:Hp}{d ha l b:NP}{ps rs:List NP}{st tu go:NP}{h:Int}{c:Option Int}{u:Str}{t:Int}{sa ta:List NP}{s:BS}{H H':Hp}
def LP.same (L:LP K B A Hs d ha l b ps rs st tu go h c u t sa ta s H)(sm:d8 H H'):LP K B A Hs d ha l b ps rs st tu go h c u t sa ta s H':=by
 have ob:∀{α:Type} {f:α->List V} {qs:List NP} {xs:List α},B9 f H qs xs->B9 f H' qs xs:=λo=>⟨o.1,λi a x h1 h2=>sm _ _ (o.2 i a x h1 h2)⟩
 exact⟨⟨L.mi.nd,sm _ _ L.mi.hd,L.mi.hh.same ((Kp.same (fp:=[]) sm).hid (by simp)),sm _ _ L.mi.hl,sm _ _ L.mi.hb,ob L.mi.pl,ob L.mi.pb⟩,sm _ _ L.hst,sm _ _ L.htu,sm _ _ L.hgo,ob L.so,ob L.to,λx o e n=>sm _ _ (L.kp x o e n),λx hx=>by obtain⟨o,e⟩:=L.bk x hx;exact⟨o,sm _ _ e⟩⟩
end
def lJ {xs:List NP}(nd:xs.Nodup){i j:Nat}{a:NP}(h1:xs[i]? = some a)(h2:xs[j]? = some a):i=j:=by
 obtain⟨hi,ei⟩:=Jm.1 h1;obtain⟨hj,ej⟩:=Jm.1 h2;rcases Nat.lt_trichotomy i j with h | h | h
 .exact absurd (ei.trans ej.symm) (KB.1 nd i j hi hj h)
 .exact h
 .exact absurd (ej.trans ei.symm) (KB.1 nd j i hj hi h)
def B9.set {α:Type}{f:α->List V}{H:Hp}{ps:List NP}{xs:List α}{k:Nat}{a:NP}{x:α}(o:B9 f H ps xs)(ha:ps[k]? = some a)(nd:ps.Nodup):B9 f (upd H a (.lst (f x))) ps (xs.set k x):=by
 refine⟨by simp[o.1],λi b y h1 h2=>?_⟩;obtain⟨hk,ek⟩:=Jm.1 ha;obtain⟨hi,ei⟩:=Jm.1 h1;by_cases hik:k=i
 .subst hik;rw[ha]at h1;cases h1;rw[Ju (by rw[<-o.1];exact hk)]at h2;cases h2;exact c7
 .rw[Jp hik]at h2;have hne:b≠a:=λz=>hik (lJ nd ha (z▸h1))
  rw[a8 hne];exact o.2 i b y h1 h2
def B9.other {α:Type}{f:α->List V}{H:Hp}{ps:List NP}{xs:List α}{a:NP}{v:HO}(o:B9 f H ps xs)(n:a ∉ ps):B9 f (upd H a v) ps xs:=o.keep λb hb=>a8 λz=>n (z▸hb)
end
section
section
variable {K:Fg}{B A:List NP}{Hs:Hp}{d ha l b:NP}{ps rs:List NP}{st tu go:NP}{h:Int}{c:Option Int}{u:Str}{t:Int}{sa ta:List NP}{s:BS}{H H':Hp}{a r:NP}{k j:Nat}
structure Apart (B A:List NP) (Hs:Hp) (d l b:NP) (ps rs:List NP) (st tu go:NP):Prop where
 nd:(st::tu::go::d::l::b::(ps++rs)).Nodup
 hid:∀x∈st::tu::go::d::l::b::(ps++rs),x∈B
 eA:A=d::l::b::(ps++rs)
 new:Hs st=none/\Hs tu=none/\Hs go=none
def Apart.per (P:Apart B A Hs d l b ps rs st tu go)(ha:ps[k]? = some a):a ∉ rs/\a≠st/\a≠tu/\a≠go/\a≠d/\a≠l/\a≠b/\a∈A/\a∈B:=by
 have hm:=JW ha;have:=P.nd;have hb:=P.hid a (by simp[hm]);rw[P.eA];simp[KO]at this;refine⟨?_,?_,?_,?_,?_,?_,?_,by simp[hm],hb⟩ <;> grind
def Apart.row (P:Apart B A Hs d l b ps rs st tu go)(hr:rs[j]? = some r):r ∉ ps/\r≠st/\r≠tu/\r≠go/\r≠d/\r≠l/\r≠b/\r∈A/\r∈B:=by
 have hm:=JW hr;have:=P.nd;have hb:=P.hid r (by simp[hm]);rw[P.eA];simp[KO]at this;refine⟨?_,?_,?_,?_,?_,?_,?_,by simp[hm],hb⟩ <;> grind
def Apart.nps (P:Apart B A Hs d l b ps rs st tu go):ps.Nodup/\rs.Nodup:=by
 have:=P.nd;simp[KO]at this;grind
def Apart.lists (P:Apart B A Hs d l b ps rs st tu go):(∀x∈[st,tu,go],x ∉ A/\x∈B)/\st≠tu/\st≠go/\tu≠go:=by
 have h1:=P.nd;have h2:=P.hid;rw[P.eA];refine⟨λx hx=>⟨?_,h2 x ?_⟩,?_,?_,?_⟩
 .simp at hx h1 ⊢;grind
 .simp at hx ⊢;grind
 all_goals (simp at h1;grind)
def lM {x:NP}{o:HO}(h:BOk H B):BOk (upd H x o) B:=λy hy=>by
 by_cases z:y=x
 .subst z;exact⟨_,c7⟩
 .rw[a8 z];exact h y hy
def LP.setP {q:Per}(L:LP K B A Hs d ha l b ps rs st tu go h c u t sa ta s H)(P:Apart B A Hs d l b ps rs st tu go)(hp:ps[k]? = some a)(n1:a ∉ sa)(n2:a ∉ ta):LP K B A Hs d ha l b ps rs st tu go h c u t sa ta ⟨s.line.set k q,s.book,s.stay,s.turned,s.gone⟩ (upd H a (.lst (dR q))):=by
 obtain⟨m1,m2,m3,m4,m5,m6,m7,m8,m9⟩:=P.per hp;refine⟨⟨L.mi.nd,by rw[a8 (JV m5)];exact L.mi.hd,by rw[W0 m9];exact L.mi.hh,by rw[a8 (JV m6)];exact L.mi.hl,by rw[a8 (JV m7)];exact L.mi.hb,B9.set L.mi.pl hp P.nps.1,B9.other L.mi.pb m1⟩,
  by rw[a8 (JV m2)];exact L.hst,by rw[a8 (JV m3)];exact L.htu,by rw[a8 (JV m4)];exact L.hgo,L.so.other n1,L.to.other n2,λx o e n=>(a8 (λz=>n (by rw[z];exact m8))).trans (L.kp x o e n),lM L.bk⟩
def LP.setR {q:Row}(L:LP K B A Hs d ha l b ps rs st tu go h c u t sa ta s H)(P:Apart B A Hs d l b ps rs st tu go)(hr:rs[j]? = some r)(n1:r ∉ sa)(n2:r ∉ ta):LP K B A Hs d ha l b ps rs st tu go h c u t sa ta ⟨s.line,s.book.set j q,s.stay,s.turned,s.gone⟩ (upd H r (.lst (mV q))):=by
 obtain⟨m1,m2,m3,m4,m5,m6,m7,m8,m9⟩:=P.row hr;refine⟨⟨L.mi.nd,by rw[a8 (JV m5)];exact L.mi.hd,by rw[W0 m9];exact L.mi.hh,by rw[a8 (JV m6)];exact L.mi.hl,by rw[a8 (JV m7)];exact L.mi.hb,B9.other L.mi.pl m1,B9.set L.mi.pb hr P.nps.2⟩,
  by rw[a8 (JV m2)];exact L.hst,by rw[a8 (JV m3)];exact L.htu,by rw[a8 (JV m4)];exact L.hgo,L.so.other n1,L.to.other n2,λx o e n=>(a8 (λz=>n (by rw[z];exact m8))).trans (L.kp x o e n),lM L.bk⟩
def LP.other {x:NP}{o:HO}(L:LP K B A Hs d ha l b ps rs st tu go h c u t sa ta s H)(nA:x ∉ A)(eA:A=d::l::b::(ps++rs))(hx:Hs x=none)(xB:x∈B)(sub:∀y∈sa++ta,y∈ps):MacIn K (hid (upd H x o) B) (upd H x o) d ⟨h,c,u,s.line,s.book,t⟩ ha l b ps rs/\B9 dR (upd H x o) sa s.stay/\B9 dR (upd H x o) ta s.turned/\(∀y o',Hs y=some o'->y ∉ A->(upd H x o) y=some o')/\BOk (upd H x o) B:=by
 have ne:∀y∈A,y≠x:=λy hy z=>nA (z▸hy)
 have inA:∀y∈ps,y∈A:=λy hy=>by rw[eA];simp[hy]
 refine⟨?_,L.so.other λz=>nA (inA _ (sub _ (Jj.2 (.inl z)))),L.to.other λz=>nA (inA _ (sub _ (Jj.2 (.inr z)))),λy o' e n=>by rw[a8 λz=>by rw[z,hx]at e;cases e];exact L.kp y o' e n,lM L.bk⟩;rw[W0 xB];exact L.mi.keep (d8.refl _) λy hy=>a8 (ne y (eA▸hy))
def Br {D:Ends}{σ:St}{v3:V}{sm:My}{kb pk:Bool}{s':BS}(L:LP K B A Hs d ha l b ps rs st tu go h c u t sa ta s H)(P:Apart B A Hs d l b ps rs st tu go)
  (hnd:(sa++ta).Nodup) (htk:∀x∈sa++ta,x∈ps.take k) (hk:k<ps.length) (h0:σ[0]? = some (some (.ref d))) (h3:σ[3]? = some (some v3)) (h4:σ[4]? = some (some (.ref st))) (h5:σ[5]? = some (some (.ref tu))) (h6:σ[6]? = some (some (.ref go))) (h7:σ[7]? = some (some (.int k))) (hl10:σ.length=10)
  (hv3:∀H',(∀x o,Hs x=some o->x ∉ A->H' x=some o)->a7 K (hid H' B) sm v3) (hkp:je u=some kb) (hpk:inB sm k=some pk) (hst:di kb (decide (u = "turns")) t k pk s=some s') (hlen:s.stay.length+s.turned.length+s.gone.length<NZ)
  (fin:∀σ' H' sa' ta',LP K B A Hs d ha l b ps rs st tu go h c u t sa' ta' s' H'->(sa'++ta').Nodup->(∀x∈sa'++ta',x∈ps.take (k+1))->s'.line.length=s.line.length->s'.stay.length+s'.turned.length+s'.gone.length=s.stay.length+s.turned.length+s.gone.length+1->(∀i,i<7->σ'[i]? = σ[i]?)->σ'.length=10->D.nx σ' H'):Aw K D σ H:=by
 obtain⟨p,hp,hst⟩:=bS9 hst;obtain⟨j,hj,hst⟩:=bS9 hst;obtain⟨row,hrow,hst⟩:=bS9 hst;obtain⟨a,hpa⟩:∃a,ps[k]? = some a:=⟨ps[k],by simp[hk]⟩;have hjl:=(Jm.1 hrow).1;obtain⟨r,hrj⟩:∃r,rs[j]? = some r:=⟨rs[j]'(by rw[L.mi.pb.1];exact hjl),by simp[L.mi.pb.1]⟩;have nat:∀x∈sa++ta,x≠a:=λx hx z=>by
  subst z;have:=htk x hx;obtain⟨i,hi⟩:=LG.1 this;rw[LU]at hi;split at hi
  .rename_i hik;exact absurd (lJ P.nps.1 hi hpa) (by omega)
  .cases hi
 have sub:∀x∈sa++ta,x∈ps:=λx hx=>Lo (htk x hx)
 have n1:a ∉ sa:=λz=>nat a (Jj.2 (.inl z)) rfl
 have n2:a ∉ ta:=λz=>nat a (Jj.2 (.inr z)) rfl
 obtain⟨rp,_⟩:=P.row hrj;have n3:r ∉ sa:=λz=>rp (sub r (Jj.2 (.inl z)))
 have n4:r ∉ ta:=λz=>rp (sub r (Jj.2 (.inr z)))
 obtain⟨lb,ne1,ne2,ne3⟩:=P.lists;have hHa:=L.mi.pl.2 k a p hpa hp;have at1:atI (ps.map V.ref) (k:Int)=some (.ref a):=W1 (by rw[Js,hpa];rfl);have at2:atI (rs.map V.ref) p.n=some (.ref r):=by
  unfold atI;rw[Jf,L.mi.pb.1,show ixN s.book.length p.n=some j from hj,JC,Js,hrj];rfl
 refine⟨_,h0,d,_,rfl,bH L.mi.hd,_,h7,l,_,k,_,rfl,rfl,SqL.of L.mi.hl,at1,?_⟩;have g8:((σ.set 8 (some (.ref a))))[8]? = some (some (.ref a)):=Ju (by omega);refine⟨_,(Jp (by decide)).trans h0,d,_,rfl,gA L.mi.hd,_,g8,a,_,0,_,rfl,rfl,SqL.of hHa,rfl,b,_,p.n,_,rfl,rfl,SqL.of L.mi.hb,at2,?_⟩;have q9:(((σ.set 8 (some (.ref a))).set 9 (some (.ref r))))[9]? = some (some (.ref r)):=Ju (by simp;omega);have q8:(((σ.set 8 (some (.ref a))).set 9 (some (.ref r))))[8]? = some (some (.ref a)):=(Jp (by decide)).trans g8;have qi:∀i,i<8->(((σ.set 8 (some (.ref a))).set 9 (some (.ref r))))[i]? = σ[i]?:=λi hi=>by rw[Jp (by omega),Jp (by omega)]
 have ql:((σ.set 8 (some (.ref a))).set 9 (some (.ref r))).length=10:=by simp[hl10]
 show T5 _ _ D ((σ.set 8 (some (V.ref a))).set 9 (some (V.ref r))) H;generalize (σ.set 8 (some (V.ref a))).set 9 (some (V.ref r)) = τ at q9 q8 qi ql ⊢;have t0:=(qi 0 (by decide)).trans h0;have t3:=(qi 3 (by decide)).trans h3;have t4:=(qi 4 (by decide)).trans h4;have t5:=(qi 5 (by decide)).trans h5;have t6:=(qi 6 (by decide)).trans h6;have t7:=(qi 7 (by decide)).trans h7;have isin:∀{s0:BS} {H1:Hp} {Q:Bool->Hp->Prop},LP K B A Hs d ha l b ps rs st tu go h c u t sa ta s0 H1->(∀H2,LP K B A Hs d ha l b ps rs st tu go h c u t sa ta s0 H2->Q pk H2)->tIn K τ H1 Q:=λ{s0 H1 Q} L1 q =>
  ⟨_,t7,_,t3,[],B,.int k,sm,.bool pk,L1.bk,cf a7.int (by simp),cf (hv3 H1 L1.kp) (by simp),hZ hpk,λv H2 s2 hv=>⟨pk,by simpa only[a7] using hv,q H2 (L1.same s2)⟩⟩
 have rest:∀{s1:BS} {H1:Hp} {p1:Per} {row1:Row},LP K B A Hs d ha l b ps rs st tu go h c u t sa ta s1 H1->s1.line[k]? = some p1->s1.book[j]? = some row1->p1.n=p.n->s1.stay=s.stay->s1.turned=s.turned->s1.gone=s.gone->s1.line.length=s.line.length ->
   s'=(if p1.l=0 then⟨s1.line,s1.book.set j ⟨"gone",row1.t,some t,row1.q⟩,s1.stay,s1.turned,s1.gone++[p.n]⟩
    else if pk=true/\decide (u = "turns")=true then⟨s1.line,s1.book,s1.stay,s1.turned++[p1],s1.gone⟩ else⟨s1.line,s1.book,s1.stay++[p1],s1.turned,s1.gone⟩) ->
   lX (bf (tOp rEq (tP K 2) (tC (.int 0))))
   (T5 (N0 (tC (.str "gone")) (kH (t9 9) (tC (.int 0)) cY))
   (T5 (N0 (M0 (t9 0) (tC (.str "at"))) (kH (t9 9) (tC (.int 2)) cY))
    (mR K 6 (tP K 0))))
   (lX (zl (tIn K) (bf (tOp rEq (Bw K) (tC (.str "turns")))))
    (mR K 5 (t9 8)) (mR K 4 (t9 8))) D τ H1:=λ{s1 H1 p1 row1} L1 e1 e2 en es et eg el es'=>by
  have hHa1:=L1.mi.pl.2 k a p1 hpa e1;have hHr1:=L1.mi.pb.2 j r row1 hrj e2;have tk1:∀x∈sa++ta,x∈ps.take (k+1):=λx hx=>List.take_subset_take_left ps (LI k) (htk x hx)
  have atk:a∈ps.take (k+1):=by
   refine LG.2 ⟨k,?_⟩;rw[LU,Jk (Lu k)];exact hpa
  refine⟨_,q8,a,_,2,_,rfl,rfl,SqL.of hHa1,rfl,rfl,_,rfl,nV (λhz=>?_) (λhz=>?_)⟩
  .have hz:p1.l=0:=by simpa using hz
   rw[Jk hz]at es';refine⟨_,q9,r,_,0,0,rfl,rfl,hHr1,rfl,?_⟩;have L2:=L1.setR (q:=⟨"gone",row1.t,row1.m,row1.q⟩) P hrj n3 n4;have hHr2:(upd H1 r (.lst ((mV row1).set 0 (.str "gone")))) r=some (.lst (mV ⟨"gone",row1.t,row1.m,row1.q⟩)):=c7;refine⟨_,t0,d,_,rfl,xm L2.mi.hd,_,q9,r,_,2,2,rfl,rfl,hHr2,rfl,?_⟩;have L3:=L2.setR (q:=⟨"gone",row1.t,some t,row1.q⟩) P hrj n3 n4;have hHa3:=L3.mi.pl.2 k a p1 hpa e1;refine⟨_,t6,.inl ⟨rfl,_,SqL.of L3.hgo⟩,_,q8,a,_,0,_,rfl,rfl,SqL.of hHa3,rfl,go,_,_,rfl,rfl,L3.hgo,by rw[Jf,eg];omega,?_⟩;obtain⟨z1,z2,z3,z4,z5⟩:=L3.other (o:=.lst (s1.gone.map V.int++[.int p1.n])) (lb go (by simp)).1 P.eA P.new.2.2 (lb go (by simp)).2 sub;refine fin τ _ sa ta ?_ hnd tk1 (by rw[es'];exact el) (by rw[es'];simp[es,et,eg];omega) (λi hi=>qi i (by omega)) ql;rw[es'];refine⟨by have z:=z1;simp only[List.set_set]at z;exact z,by rw[a8 ne2];exact L3.hst,by rw[a8 ne3];exact L3.htu,?_,z2,z3,z4,z5⟩;show upd _ go _ go=_;rw[c7,JE,<-en];rfl
  .have hz:¬p1.l=0:=by simpa using hz
   rw[Jo hz]at es';have toS:∀{H2:Hp},LP K B A Hs d ha l b ps rs st tu go h c u t sa ta s1 H2->¬(pk=true/\decide (u = "turns")=true)->mR K 4 (t9 8) D τ H2:=λ{H2} L2 hn=>by
    rw[Jo hn]at es';refine⟨_,t4,.inl ⟨rfl,_,SqL.of L2.hst⟩,_,q8,st,_,_,rfl,rfl,L2.hst,by rw[Jf,L2.so.1,es];omega,?_⟩;obtain⟨z1,z2,z3,z4,z5⟩:=L2.other (o:=.lst (sa.map V.ref++[.ref a])) (lb st (by simp)).1 P.eA P.new.1 (lb st (by simp)).2 sub;refine fin τ _ (sa++[a]) ta ?_ (by simp[KO]at hnd ⊢;grind) (λx hx=>by
     simp only[Jj,Ko]at hx;rcases hx with (hx | hx) | hx
     .exact tk1 x (Jj.2 (.inl hx))
     .exact hx▸atk
     .exact tk1 x (Jj.2 (.inr hx))) (by rw[es'];exact el) (by rw[es'];simp[es,et,eg];omega) (λi hi=>qi i (by omega)) ql
    rw[es'];refine⟨z1,by rw[c7,JE];rfl,by rw[a8 (JV ne1)];exact L2.htu,by rw[a8 (JV ne2)];exact L2.hgo,z2.snoc ?_,z3,z4,z5⟩;rw[a8 (P.per hpa).2.1];exact L2.mi.pl.2 k a p1 hpa e1
   have toT:∀{H2:Hp},LP K B A Hs d ha l b ps rs st tu go h c u t sa ta s1 H2->(pk=true/\decide (u = "turns")=true)->mR K 5 (t9 8) D τ H2:=λ{H2} L2 hn=>by
    rw[Jk hn]at es';refine⟨_,t5,.inl ⟨rfl,_,SqL.of L2.htu⟩,_,q8,tu,_,_,rfl,rfl,L2.htu,by rw[Jf,L2.to.1,et];omega,?_⟩;obtain⟨z1,z2,z3,z4,z5⟩:=L2.other (o:=.lst (ta.map V.ref++[.ref a])) (lb tu (by simp)).1 P.eA P.new.2.1 (lb tu (by simp)).2 sub;refine fin τ _ sa (ta++[a]) ?_ (by simp[KO]at hnd ⊢;grind) (λx hx=>by
     simp only[Jj,Ko]at hx;rcases hx with hx | hx | hx
     .exact tk1 x (Jj.2 (.inl hx))
     .exact tk1 x (Jj.2 (.inr hx))
     .exact hx▸atk) (by rw[es'];exact el) (by rw[es'];simp[es,et,eg];omega) (λi hi=>qi i (by omega)) ql
    rw[es'];refine⟨z1,by rw[a8 ne1];exact L2.hst,by rw[c7,JE];rfl,by rw[a8 (JV ne3)];exact L2.hgo,z2,z3.snoc ?_,z4,z5⟩;rw[a8 (P.per hpa).2.2.1];exact L2.mi.pl.2 k a p1 hpa e1
   refine isin L1 λH2 L2=>?_
   cases pk with
   | false=>exact wY (wY (toS L2 (by simp)))
   | true =>
    refine Er ⟨_,t0,d,_,rfl,gO L2.mi.hd,ha,_,2,_,rfl,rfl,L2.mi.hh.same d6,rfl,rfl,_,rfl,?_⟩;refine nV (λhc=>toT L2 ⟨rfl,?_⟩) (λhc=>toS L2 λhc2=>hc ?_)
    .simpa using hc
    .simpa using hc2.2
 refine isin L λH1 L1=>?_
 cases pk with
 | false =>
  refine wY ?_;have hHr1:=L1.mi.pb.2 j r row hrj hrow;refine⟨_,q9,r,_,3,_,rfl,rfl,SqL.of hHr1,rfl,row.q,1,rfl,rfl,_,q9,r,_,3,3,rfl,rfl,hHr1,rfl,?_⟩;have L2:=L1.setR (q:=⟨row.w,row.t,row.m,row.q+1⟩) P hrj n3 n4;have hpl:k<s.line.length:=(Jm.1 hp).1;refine rest (p1:=p) (row1:=⟨row.w,row.t,row.m,row.q+1⟩) L2 hp (by rw[Ju hjl]) rfl rfl rfl rfl rfl ?_;have hst:=Jt hst;rw[<-hst];have e0:s.line.set k p=s.line:=by
   have:=(Jm.1 hp).2;rw[<-this,List.set_getElem_self]
  simp[e0]
 | true =>
  refine Er ?_;have hHa1:=L1.mi.pl.2 k a p hpa hp;have hpl:k<s.line.length:=(Jm.1 hp).1;refine⟨_,q8,a,_,2,_,rfl,rfl,SqL.of hHa1,rfl,p.l,1,rfl,rfl,_,q8,a,_,2,2,rfl,rfl,hHa1,rfl,?_⟩;have L2:=L1.setP (q:=⟨p.n,p.r,p.l-1,p.b⟩) P hpa n1 n2;have hHa2:(upd H1 a (.lst ((dR p).set 2 (.int (p.l-1))))) a=some (.lst (dR ⟨p.n,p.r,p.l-1,p.b⟩)):=c7;refine⟨_,t0,d,_,rfl,gO L2.mi.hd,ha,_,2,_,rfl,rfl,L2.mi.hh.same d6,rfl,Q8 (by show 4<=1000;decide) |> KA,λq hq=>⟨[],B,.str u,nN,.bool kb,(L2.same (d8.upd hq)).bk,cf a7.st (by simp),cf (U4 L2.bk hq (.cons a7.st (.cons a7.st (.cons a7.st (.cons a7.st a6.nil))))) (by simp),hZ hkp,λv H4 s4 hv=>?_⟩⟩;have hv:v = .bl kb:=by simpa only[a7] using hv
  subst hv;have L4:=(L2.same (d8.upd hq)).same s4;have hHa4:=L4.mi.pl.2 k a ⟨p.n,p.r,p.l-1,p.b⟩ hpa (Ju hpl);refine⟨_,q8,a,_,3,3,rfl,rfl,hHa4,rfl,?_⟩;have L5:=L4.setP (q:=⟨p.n,p.r,p.l-1,kb⟩) P hpa n1 n2;refine rest (p1:=⟨p.n,p.r,p.l-1,kb⟩) (row1:=row) L5 (Ju (by simpa using hpl)) hrow rfl rfl rfl rfl (by simp) ?_;have hst:=Jt hst;rw[<-hst];have e0:s.book.set j row=s.book:=by
   have:=(Jm.1 hrow).2;rw[<-this,List.set_getElem_self]
  simp[e0]
end
end
section
def rJ (E:DE)(i:Nat):Option My:=match E[i]? with
 | some (some (.dat d))=>some d
 | _=>none
def iW {E:DE}{i:Nat}{d:My}(h:rJ E i=some d):E[i]? = some (some (.dat d)):=by
 unfold rJ at h;split at h
 .rename_i hx;cases h;exact hx
 .cases h
section
variable [LamC]
local instance regI10:Feeds:=G4
variable {K:Fg}
def rl:DE->M Out:=λE μ=>(rJ E 2).bind λlost=>(rJ E 3).bind λsm=>if E.length=10 then(ot sm μ).bind λz=>some (.rt (.tuple [lost,.list (z.1.map My.int)]),z.2) else none
theorem iy {H:Hp}:∀(ns:List Int),a6 K H (ns.map My.int) (ns.map V.int)
 | []=>a6.nil
 | n::ns=>.cons a7.int (iy ns)
def AM:TSm K 0 (Dx K) rl:=λd B0 A0 H0 B A E μ σ H D r μ' S e q=>by
 obtain⟨lost,e2,e⟩:=bS9 e;obtain⟨sm,e3,e⟩:=bS9 e;have e2:=iW e2;have e3:=iW e3
 .split at e
  .rename_i hE;obtain⟨⟨gn,μ1⟩,eb,e⟩:=bS9 e;cases e;unfold ot at eb;split at eb
   .rename_i hsz;obtain⟨kb,ekb,eb⟩:=bS9 eb;obtain⟨sE,ego,eb⟩:=bS9 eb;cases eb;obtain⟨ha,l,b,ps,rs,ea,hm⟩:=S.rg;obtain⟨v2,w2,dv2⟩:=S.I.loc 2 _ e2;obtain⟨v3,w3,dv3⟩:=S.I.loc 3 _ e3;have dv2:a7 K (hid H B) lost v2:=dv2;have dv3:a7 K (hid H B) sm v3:=dv3;have h0:=S.at0;have hl10:σ.length=10:=by rw[<-S.I.ln];exact hE
    have inA:∀x∈d::l::b::(ps++rs),x∈A:=λx hx=>ea▸hx
    refine⟨_,h0,d,_,rfl,xm hm.hd,μ.t,1,rfl,rfl,_,h0,d,_,rfl,Dd (μ.t+1) hm.hd,?_⟩;refine⟨Ka _,λst hst=>⟨Ka _,λtu htu=>⟨Ka _,λgo hgo=>?_⟩⟩⟩;have nd:=hm.nd;have pres:∀x∈A,∃o,(upd H d (.dK (C4 (.ref ha) l b (μ.t+1)))) x=some o:=λx hx=>by
     by_cases z:x=d
     .subst z;exact⟨_,c7⟩
     .rw[a8 z];exact Regs.has S.rg x hx
    have nst:st ∉ A:=λz=>by obtain⟨o,eo⟩:=pres st z;rw[hst]at eo;cases eo
    have sdn:st≠d:=λz=>nst (z▸inA d (by simp))
    have Hst:H st=none:=by rw[a8 sdn]at hst;exact hst
    have tus:tu≠st:=(e8 c7 htu).symm;have htu1:=htu;rw[a8 tus]at htu1;have ntu:tu ∉ A:=λz=>by obtain⟨o,eo⟩:=pres tu z;rw[htu1]at eo;cases eo
    have tdn:tu≠d:=λz=>ntu (z▸inA d (by simp))
    have Htu:H tu=none:=by rw[a8 tdn]at htu1;exact htu1
    have gtn:go≠tu:=(e8 c7 hgo).symm;have hgo1:=hgo;rw[a8 gtn]at hgo1;have gsn:go≠st:=(e8 c7 hgo1).symm;rw[a8 gsn]at hgo1;have ngo:go ∉ A:=λz=>by obtain⟨o,eo⟩:=pres go z;rw[hgo1]at eo;cases eo
    have gdn:go≠d:=λz=>ngo (z▸inA d (by simp))
    have Hgo:H go=none:=by rw[a8 gdn]at hgo1;exact hgo1
    have Ap:Apart (st::tu::go::B) A H d l b ps rs st tu go:=by
     refine⟨?_,λx hx=>?_,ea,Hst,Htu,Hgo⟩
     .rw[ea]at nst ntu ngo;refine Kt.2 ⟨?_,Kt.2 ⟨?_,Kt.2 ⟨ngo,nd⟩⟩⟩
      .intro z;rcases Jl.1 z with z | z
       .exact tus z.symm
       .rcases Jl.1 z with z | z
        .exact gsn z.symm
        .exact nst z
      .intro z;rcases Jl.1 z with z | z
       .exact gtn z.symm
       .exact ntu z
     .rcases Jl.1 hx with z | z
      .simp[z]
      .rcases Jl.1 z with z | z
       .simp[z]
       .rcases Jl.1 z with z | z
        .simp[z]
        .exact Jh _ (Jh _ (Jh _ (S.aB x (inA x z)).1))
    have Hx:∀x,x≠d->x≠st->x≠tu->x≠go->(upd (upd (upd (upd H d (.dK (C4 (.ref ha) l b (μ.t+1)))) st (.lst [])) tu (.lst [])) go (.lst [])) x=H x:=λx n1 n2 n3 n4=>by rw[a8 n4,a8 n3,a8 n2,a8 n1]
    have g4:(upd (upd (upd (upd H d (.dK (C4 (.ref ha) l b (μ.t+1)))) st (.lst [])) tu (.lst [])) go (.lst [])) st=some (.lst []):=by rw[a8 (JV gsn),a8 (JV tus)];exact c7
    have g5:(upd (upd (upd (upd H d (.dK (C4 (.ref ha) l b (μ.t+1)))) st (.lst [])) tu (.lst [])) go (.lst [])) tu=some (.lst []):=by rw[a8 (JV gtn)];exact c7
    have g6:(upd (upd (upd (upd H d (.dK (C4 (.ref ha) l b (μ.t+1)))) st (.lst [])) tu (.lst [])) go (.lst [])) go=some (.lst []):=c7;have gd:(upd (upd (upd (upd H d (.dK (C4 (.ref ha) l b (μ.t+1)))) st (.lst [])) tu (.lst [])) go (.lst [])) d=some (.dK (C4 (.ref ha) l b (μ.t+1))):=by rw[a8 (JV gdn),a8 (JV tdn),a8 (JV sdn)];exact c7
    generalize (upd (upd (upd (upd H d (.dK (C4 (.ref ha) l b (μ.t+1)))) st (.lst [])) tu (.lst [])) go (.lst []))=H4 at Hx g4 g5 g6 gd;have nef:∀x∈A,x≠st/\x≠tu/\x≠go:=λx hx=>⟨λz=>nst (z▸hx),λz=>ntu (z▸hx),λz=>ngo (z▸hx)⟩
    have kp4:∀x o,H x=some o->x ∉ A->H4 x=some o:=λx o eo n=>by
     rw[Hx x (λz=>n (z▸inA d (by simp))) (λz=>by rw[z,Hst]at eo;cases eo) (λz=>by rw[z,Htu]at eo;cases eo) (λz=>by rw[z,Hgo]at eo;cases eo)];exact eo
    have sm4:d8 (hid H B) (hid H4 (st::tu::go::B)):=λx o eo=>by
     by_cases hB:x∈B
     .rw[z9 hB]at eo;cases eo
     .rw[e9 hB]at eo;rw[e9 λz=>?_]
      .exact kp4 x o eo λz=>hB (S.aB x z).1
      .rcases Jl.1 z with z | z
       .rw[z,Hst]at eo;cases eo
       .rcases Jl.1 z with z | z
        .rw[z,Htu]at eo;cases eo
        .rcases Jl.1 z with z | z
         .rw[z,Hgo]at eo;cases eo
         .exact hB z
    have Lb:LP K (st::tu::go::B) A H d ha l b ps rs st tu go μ.h μ.c μ.u (μ.t+1) [] [] ⟨μ.line,μ.book,[],[],[]⟩ H4:=by
     have ne:∀x∈l::b::(ps++rs),x≠d:=λx hx z=>by
      subst z;exact(Kt.1 nd).1 hx
     have eqA:∀x∈l::b::(ps++rs),H4 x=H x:=λx hx=>by
      obtain⟨n1,n2,n3⟩:=nef x (inA x (Jh _ hx));exact Hx x (ne x hx) n1 n2 n3
     refine⟨⟨nd,gd,hm.hh.same sm4,(eqA l (by simp)).trans hm.hl,(eqA b (by simp)).trans hm.hb,hm.pl.keep λx hx=>eqA x (by simp[hx]),hm.pb.keep λx hx=>eqA x (by simp[hx])⟩,g4,g5,g6,⟨rfl,λi x y h1 _=>by simp at h1⟩,⟨rfl,λi x y h1 _=>by simp at h1⟩,kp4,λx hx=>?_⟩;rcases Jl.1 hx with z | z
     .exact⟨_,z▸g4⟩
     .rcases Jl.1 z with z | z
      .exact⟨_,z▸g5⟩
      .rcases Jl.1 z with z | z
       .exact⟨_,z▸g6⟩
       .by_cases hxA:x∈A
        .rw[ea]at hxA;rcases Jl.1 hxA with zz | zz
         .exact⟨_,zz▸gd⟩
         .obtain⟨ys,ey⟩:=hm.has x zz;exact⟨_,(eqA x zz).trans ey⟩
        .obtain⟨o,eo⟩:=S.I.bk x z;exact⟨o,kp4 x o eo hxA⟩
    have hv3:∀H',(∀x o,H x=some o->x ∉ A->H' x=some o)->a7 K (hid H' (st::tu::go::B)) sm v3:=λH' k=>dv3.same λx o eo=>by
     by_cases hB:x∈B
     .rw[z9 hB]at eo;cases eo
     .rw[e9 hB]at eo;rw[e9 λz=>?_]
      .exact k x o eo λz=>hB (S.aB x z).1
      .rcases Jl.1 z with z | z
       .rw[z,Hst]at eo;cases eo
       .rcases Jl.1 z with z | z
        .rw[z,Htu]at eo;cases eo
        .rcases Jl.1 z with z | z
         .rw[z,Hgo]at eo;cases eo
         .exact hB z
    have y0:(((σ.set 4 (some (.ref st))).set 5 (some (.ref tu))).set 6 (some (.ref go)))[0]? = some (some (.ref d)):=by simpa using h0
    have y2:(((σ.set 4 (some (.ref st))).set 5 (some (.ref tu))).set 6 (some (.ref go)))[2]? = some (some v2):=by simpa using w2
    have y3:(((σ.set 4 (some (.ref st))).set 5 (some (.ref tu))).set 6 (some (.ref go)))[3]? = some (some v3):=by simpa using w3
    have y4:(((σ.set 4 (some (.ref st))).set 5 (some (.ref tu))).set 6 (some (.ref go)))[4]? = some (some (.ref st)):=by simp[NB,hl10]
    have y5:(((σ.set 4 (some (.ref st))).set 5 (some (.ref tu))).set 6 (some (.ref go)))[5]? = some (some (.ref tu)):=by simp[NB,hl10]
    have y6:(((σ.set 4 (some (.ref st))).set 5 (some (.ref tu))).set 6 (some (.ref go)))[6]? = some (some (.ref go)):=by simp[NB,hl10]
    have yl:(((σ.set 4 (some (.ref st))).set 5 (some (.ref tu))).set 6 (some (.ref go))).length=10:=by simp[hl10]
    show T5 _ _ D (((σ.set 4 (some (.ref st))).set 5 (some (.ref tu))).set 6 (some (.ref go))) H4;generalize ((σ.set 4 (some (V.ref st))).set 5 (some (V.ref tu))).set 6 (some (V.ref go)) = τ at y0 y2 y3 y4 y5 y6 yl ⊢;have epl:(ps.map V.ref).length=ps.length:=Jf ..;have en:ps.length = μ.line.length:=hm.pl.1;refine⟨_,y0,d,_,rfl,bH gd,l,_,rfl,.inl (SqL.of Lb.mi.hl),((ps.map V.ref).length:Int),rfl,by omega,by rw[epl,en];exact hsz.2,?_⟩;refine⟨λi m τ' H'=>m=ps.length-i/\i<=ps.length/\∃sa ta s,LP K (st::tu::go::B) A H d ha l b ps rs st tu go μ.h μ.c μ.u (μ.t+1) sa ta s H'/\(sa++ta).Nodup/\(∀x∈sa++ta,x∈ps.take i)/\s.line.length=ps.length/\s.stay.length+s.turned.length+s.gone.length=i/\(∀i,i<7->τ'[i]? = τ[i]?) /\ τ'.length=10/\ah kb (decide (μ.u = "turns")) (μ.t+1) sm (ps.length-i) i s=some sE,
     ⟨ps.length,by simp,Ka _,[],[],_,Lb,by simp,by simp,en.symm,rfl,λ_ _=>rfl,yl,by rw[en];exact ego⟩,?_⟩
    rintro i mm τ' H' ⟨rfl,hi,sa,ta,s,L,hnd,htk,hsl,hcnt,hτ,hτl,hgo'⟩;have z0:=(hτ 0 (by decide)).trans y0;have z2:=(hτ 2 (by decide)).trans y2;have z3:=(hτ 3 (by decide)).trans y3;have z4:=(hτ 4 (by decide)).trans y4;have z5:=(hτ 5 (by decide)).trans y5;have z6:=(hτ 6 (by decide)).trans y6;by_cases hlt:i<ps.length
    .refine .inr ⟨by show i<(((ps.map V.ref).length:Int)).toNat;rw[epl];simpa using hlt,λτ'' H''=>i+1<=ps.length/\∃sa ta s,LP K (st::tu::go::B) A H d ha l b ps rs st tu go μ.h μ.c μ.u (μ.t+1) sa ta s H''/\(sa++ta).Nodup/\(∀x∈sa++ta,x∈ps.take (i+1))/\s.line.length=ps.length/\s.stay.length+s.turned.length+s.gone.length=i+1/\(∀i,i<7->τ''[i]? = τ[i]?) /\ τ''.length=10/\ah kb (decide (μ.u = "turns")) (μ.t+1) sm (ps.length-(i+1)) (i+1) s=some sE,λτ'' H'' ⟨a1,a2⟩=>⟨ps.length-(i+1),by omega,rfl,a1,a2⟩,λx H2 hy=>?_⟩;obtain⟨rfl,rfl⟩:=hy;obtain⟨n',hn'⟩:∃n',ps.length-i=n'+1:=⟨ps.length-(i+1),by omega⟩;rw[hn',ah]at hgo';obtain⟨pk,hpk,hgo'⟩:=bS9 hgo';obtain⟨s',hs',hgo'⟩:=bS9 hgo';have en':n'=ps.length-(i+1):=by omega
     subst en';refine Br (k:=i) (pk:=pk) (s':=s') L Ap hnd htk hlt ((Jp (by decide)).trans z0) ((Jp (by decide)).trans z3) ((Jp (by decide)).trans z4) ((Jp (by decide)).trans z5) ((Jp (by decide)).trans z6) (by rw[Ju (by omega)];simp) (by simp[hτl]) hv3 ekb hpk hs' (by rw[hcnt];have:=hsz.1;omega) λσ' H'' sa' ta' L' nd' tk' hl' hc' hσ' hσl'=>?_
     exact⟨hlt,sa',ta',s',L',nd',tk',hl'.trans hsl,by omega,λi hi=>(hσ' i hi).trans ((Jp (by omega)).trans (hτ i hi)),hσl',hgo'⟩
    .have ei:i=ps.length:=by omega
     subst ei;rw[Nat.sub_self,ah]at hgo';cases hgo';refine .inl ⟨by show(((ps.map V.ref).length:Int)).toNat<=ps.length;rw[epl];simp,?_⟩;have hsz1:=hsz.1;refine⟨_,z4,_,z5,st,tu,_,_,rfl,rfl,L.hst,L.htu,by rw[Jf,Jf,L.so.1,L.to.1];omega,λl' hl'=>⟨_,z0,d,_,rfl,xO l' (by rw[a8 (e8 L.mi.hd hl')];exact L.mi.hd),?_⟩⟩;refine⟨_,z2,_,z6,Q8 (by show 2<=1000;decide) |> KA,λz hz=>?_⟩;obtain⟨lb,ne1,ne2,ne3⟩:=Ap.lists;have nl'B:l' ∉ st::tu::go::B:=L.bk.nin hl';have nl'A:l' ∉ A:=λzz=>nl'B (Jh _ (Jh _ (Jh _ (S.aB l' zz).1)))
     have ldn:l'≠d:=λzz=>nl'A (zz▸inA d (by simp))
     have hz1:=hz;have zdn:z≠d:=(e8 c7 hz1).symm;rw[a8 zdn]at hz1;have zln:z≠l':=(e8 c7 hz1).symm;rw[a8 zln]at hz1;have nzB:z ∉ st::tu::go::B:=L.bk.nin hz1;have HF:∀x,x≠d->x≠l'->x≠z->(upd (upd (upd H' l' (.lst (sa.map V.ref++ta.map V.ref))) d (.dK (C4 (.ref ha) l' b (μ.t+1)))) z (.tup [v2,.ref go])) x=H' x:=λx a1 a2 a3=>by rw[a8 a3,a8 a1,a8 a2]
     have fd:(upd (upd (upd H' l' (.lst (sa.map V.ref++ta.map V.ref))) d (.dK (C4 (.ref ha) l' b (μ.t+1)))) z (.tup [v2,.ref go])) d=some (.dK (C4 (.ref ha) l' b (μ.t+1))):=by rw[a8 (JV zdn)];exact c7
     have fl:(upd (upd (upd H' l' (.lst (sa.map V.ref++ta.map V.ref))) d (.dK (C4 (.ref ha) l' b (μ.t+1)))) z (.tup [v2,.ref go])) l'=some (.lst (sa.map V.ref++ta.map V.ref)):=by rw[a8 (JV zln),a8 ldn];exact c7
     have fz:(upd (upd (upd H' l' (.lst (sa.map V.ref++ta.map V.ref))) d (.dK (C4 (.ref ha) l' b (μ.t+1)))) z (.tup [v2,.ref go])) z=some (.tup [v2,.ref go]):=c7;show D.rt (.ref z) (upd (upd (upd H' l' (.lst (sa.map V.ref++ta.map V.ref))) d (.dK (C4 (.ref ha) l' b (μ.t+1)))) z (.tup [v2,.ref go]));generalize (upd (upd (upd H' l' (.lst (sa.map V.ref++ta.map V.ref))) d (.dK (C4 (.ref ha) l' b (μ.t+1)))) z (.tup [v2,.ref go]))=HE at HF fd fl fz ⊢;have sub:∀x∈sa++ta,x∈ps:=λx hx=>Lo (htk x hx)
     have zA:∀x∈A,x≠z:=λx hx zz=>nzB (zz▸Jh _ (Jh _ (Jh _ (S.aB x hx).1)))
     have lA:∀x∈A,x≠l':=λx hx zz=>nl'A (zz▸hx)
     have Hl':H l'=none:=by
      cases qq:H l' with
      | none=>rfl
      | some o=>rw[L.kp l' o qq nl'A]at hl';cases hl'
     have eqA:∀x∈A,x≠d->HE x=H' x:=λx hx n=>HF x n (lA x hx) (zA x hx)
     have dn:∀x∈l::b::(ps++rs),x≠d:=λx hx zz=>(Kt.1 nd).1 (zz▸hx)
     obtain⟨Z,sZ⟩:=S.remake (A':=d::l'::b::((sa++ta)++rs)) (H':=HE) (μ':={ μ with line:=sE.stay++sE.turned,book:=sE.book,t:=μ.t+1 })
      (λx o eo n=>by
       rw[HF x (λzz=>n (zz▸inA d (by simp))) (λzz=>by rw[zz,Hl']at eo;cases eo) (λzz=>by have:=L.kp x o eo n;rw[zz,hz1]at this;cases this)];exact L.kp x o eo n)
      (λx hx=>by
       simp only[Jl,Jj]at hx;rcases hx with hx | hx | hx | hx | hx
       .exact .inl (inA x (by simp[hx]))
       .exact .inr (hx▸Hl')
       .exact .inl (inA x (by simp[hx]))
       .exact .inl (inA x (by simp[sub x (Jj.2 hx)]))
       .exact .inl (inA x (by simp[hx])))
      (λx hx=>by
       by_cases zz:x=d
       .exact⟨_,zz▸fd⟩
       .rw[eqA x hx zz];exact L.bk x (Jh _ (Jh _ (Jh _ (S.aB x hx).1))))
      (λ{W} sW=>by
       refine⟨ha,l',b,sa++ta,rs,rfl,?_,fd,hm.hh.same sW,by rw[fl,JE],(eqA b (inA b (by simp)) (dn b (by simp))).trans L.mi.hb,?_,?_⟩
       .have d1:∀x∈sa++ta,x ∉ rs/\x≠d/\x≠b:=λx hx=>by
         have:=sub x hx;simp[KO]at nd;grind
        have d2:rs.Nodup:=Ap.nps.2;have d3:b ∉ rs/\d≠b/\d ∉ rs:=by
         simp[KO]at nd;grind
        have d4:l' ∉ sa++ta/\l' ∉ rs/\l'≠b:=⟨λzz=>nl'A (inA _ (by simp[sub _ zz])),λzz=>nl'A (inA _ (by simp[zz])),λzz=>nl'A (inA _ (by simp[zz]))⟩;refine Kt.2 ⟨?_,Kt.2 ⟨?_,Kt.2 ⟨?_,KO.2 ⟨hnd,d2,λx hx y hy zz=>(d1 x hx).1 (zz▸hy)⟩⟩⟩⟩
        .simp only[Jl,Jj];grind
        .simp only[Jl,Jj];grind
        .simp only[Jj];grind
       .have ob:∀{qs:List NP} {xs:List Per},B9 dR H' qs xs->(∀x∈qs,x∈ps)->B9 dR HE qs xs:=λo hq=>o.keep λx hx=>eqA x (inA x (by simp[hq x hx])) (dn x (by simp[hq x hx]))
        have o1:=ob L.so λx hx=>sub x (Jj.2 (.inl hx))
        have o2:=ob L.to λx hx=>sub x (Jj.2 (.inr hx))
        refine⟨by simp[o1.1,o2.1],λi x y h1 h2=>?_⟩;by_cases hi':i<sa.length
        .rw[JL hi']at h1;rw[JL (by rw[<-o1.1];exact hi')]at h2;exact o1.2 i x y h1 h2
        .rw[JR (by omega)]at h1;rw[JR (by rw[<-o1.1];omega),<-o1.1]at h2;exact o2.2 _ x y h1 h2
       .exact L.mi.pb.keep λx hx=>eqA x (inA x (by simp[hx])) (dn x (by simp[hx])))
     obtain⟨F1,F2⟩:=Z.fin;have nB':∀x,x ∉ st::tu::go::B->x ∉ B:=λx n zz=>n (Jh _ (Jh _ (Jh _ zz)))
     have nAA:∀x,x ∉ A->x≠l'->x ∉ d::l'::b::((sa++ta)++rs):=λx n1 n2 zz=>by
      simp only[Jl,Jj]at zz;rcases zz with zz | zz | zz | zz | zz
      .exact n1 (inA x (by simp[zz]))
      .exact n2 zz
      .exact n1 (inA x (by simp[zz]))
      .exact n1 (inA x (by simp[sub x (Jj.2 zz)]))
      .exact n1 (inA x (by simp[zz]))
     refine q _ HE _ F1 (a7.same (a7.tup (xs:=[v2,.ref go]) ?_ (.cons (dv2.same sZ) (.cons (a7.lst (xs:=sE.gone.map V.int) ?_ (iy _)) a6.nil))) F2)
     .rw[e9 λzz=>(Jj.1 zz).elim (nAA z (λa1=>zA z a1 rfl) zln) (nB' z nzB)];exact fz
     .have ngl:go≠l':=λzz=>nl'B (zz▸by simp)
      have ngz:go≠z:=λzz=>nzB (zz▸by simp)
      rw[e9 λzz=>(Jj.1 zz).elim (nAA go ngo ngl) (S.I.bk.nin Hgo),HF go gdn ngl ngz];exact L.hgo
   .cases eb
  .cases e
end
end
section
section
variable [Regs]
local instance regI66:Feeds:=G4
def pSq (a b:DE->M Out):DE->M Out:=λE μ=>(a E μ).bind λp=>match p.1 with
 | .nx E1=>b E1 p.2
 | _=>none
variable {K:Fg}{X:Cx}{i0:Nat}{e:NX}{st:NW}{rest:List NW}{te:TE}{m:DE->M My}{t u:TS}{mt mu:DE->M Out}{pos p p2:Pos}{x:Str}
def pP {a b:DE->M Out}(h:∀E μ E1 μ1,b E μ=some (.nx E1,μ1)->False):∀E μ E1 μ1,pSq a b E μ=some (.nx E1,μ1)->False:=λE μ E1 μ1 e=>by
 obtain⟨⟨o,μ2⟩,e1,e⟩:=bS9 e;cases o with
 | nx E2=>exact h _ _ _ _ e
 | rt _=>cases e
 | bk _=>cases e
 | ct _=>cases e
end
section
variable [Fam][Regs]
variable {K:Fg}{P:NR}{w:NS}{mg:Str->Option NO}{base:NY}{st:NW}
end
section
variable [Fam]{K:Fg}{X:Cx}{e:NX}{es:List NX}{pos pos2 p p2:Pos}
end
end
section
section
variable [Regs]
local instance regI67:Feeds:=G4
structure SmsB (K:Fg) (X:Cx) (i0:Nat) (sts:List NW) (ts:TS) (m:DE->M Out):Prop where
 ps:PSs X sts ts
 ok:∀(d:NP) (B0 A0:List NP) (H0:Hp) (B A:List NP) (E:DE) (μ:FS) (σ:St) (H:Hp) (D:Ends) (r:My) (μ':FS),SitMB K i0 d B0 A0 H0 B A E μ σ H->m E μ=some (.rt r,μ') ->
  (∀v H' A',EndM K d B0 A0 H0 μ' H' A'->(∀C:List NP,(∀b∈C,b∈B0/\b ∉ A')->a7 K (hid H' C) r v)->D.rt v H')->ts D σ H
variable {K:Fg}{X:Cx}{i0:Nat}{e:NX}{st:NW}{rest:List NW}{te:TE}{m:DE->M My}{t u:TS}{mt mu:DE->M Out}{pos p p2:Pos}{x:Str}
def kJ (h1:SmR K X i0 st t mt)(h2:SmsB K X i0 rest u mu):SmsB K X i0 (st::rest) (T5 t u) (pSq mt mu):=⟨l3 h1.ps h2.ps,λd B0 A0 H0 B A E μ σ H D r μ' S e q=>by
 obtain⟨⟨o,μ1⟩,e1,e⟩:=bS9 e;refine h1.ok d B0 A0 H0 B A E μ σ H _ o μ1 S e1 ?_;cases o with
 | nx E1=>exact λB1 A1 σ' H' S'=>h2.ok d B0 A0 H0 B1 A1 E1 μ1 σ' H' D r μ' S' e q
 | rt d=>cases e
 | bk E1=>cases e
 | ct E1=>cases e⟩
end
section
variable [LamC]
local instance regI68:Feeds:=G4
variable {K:Fg}{X:Cx}{i0 i1 i2:Nat}{pos p p1 p2 p3 p4 p5:Pos}{x y z:Str}
def mBk (i1 i2:Nat):DE->M Out:=λE μ=>match E[i1]?,E[i2]? with
 | some (some (.own d1)),some (some (.own d2))=>some (.rt (.tuple [nO μ,.list d1,.list d2]),μ)
 | _,_=>none
def DY {i1 i2:Nat}:∀(E:DE) μ E1 μ1,mBk i1 i2 E μ=some (.nx E1,μ1)->False:=λE μ E1 μ1 e=>by
 unfold mBk at e;split at e <;> cases e
def gC {i:Nat}{d:NP}{B0 A0:List NP}{H0:Hp}{B A:List NP}{E:DE}{μ:FS}{σ:St}{H H':Hp}{ds:List My}(S:SitMB K i0 d B0 A0 H0 B A E μ σ H)(e:E[i]? = some (some (.own ds)))(sm:d8 H H') :
  ∃a,σ[i]? = some (some (.ref a))/\∀C:List NP,(∀b∈C,b∈B0/\b ∉ A)->a7 K (hid H' C) (.list ds) (.ref a):=by
 obtain⟨v,v1,a,xs,rfl,hB,hf,ha,hd⟩:=S.I.loc i _ e;obtain⟨h1,h2⟩:=S.own i ds a e v1;refine⟨a,v1,λC hC=>a7.lst ?_ (hd.same λb o eb=>?_)⟩
 .rw[e9 λz=>h1.2 (hC a z).1];exact sm _ _ ha
 .by_cases hb:b∈B
  .rw[z9 hb]at eb;cases eb
  .rw[e9 hb]at eb;rw[e9 λz=>hb (S.s b (hC b z).1)];exact sm _ _ eb
def BF {k k2}(hu:X.A.units+65<On)(h0:X.N[i0]? = some x:=by rfl)(hv:Vis X.env.scope x:=by first | exact Or.inl rfl | exact Or.inr (Or.inl rfl) | exact Or.inr (Or.inr rfl))(hd:(x == ("__debug__":Str))=false:=by decide)(hcd:(x == ("__classdict__":Str))=false:=by decide)
  (h1:X.N[i1]? = some y:=by rfl) (hv1:Vis X.env.scope y:=by first | exact Or.inl rfl | exact Or.inr (Or.inl rfl) | exact Or.inr (Or.inr rfl)) (hd1:(y == ("__debug__":Str))=false:=by decide) (hcd1:(y == ("__classdict__":Str))=false:=by decide)
  (h2:X.N[i2]? = some z:=by rfl) (hv2:Vis X.env.scope z:=by first | exact Or.inl rfl | exact Or.inr (Or.inl rfl) | exact Or.inr (Or.inr rfl)) (hd2:(z == ("__debug__":Str))=false:=by decide) (hcd2:(z == ("__classdict__":Str))=false:=by decide)
  (hs0:Oa [.Subscript (.Name x p) (.Constant (.str "book") k2 p1) p2,.Name y p3,.Name z p4] X.env=(false,eval (.Subscript (.Name x p) (.Constant (.str "book") k2 p1) p2) X.env)::Oa [.Name y p3,.Name z p4] X.env:=by rfl)
  (hs1:Oa [.Name y p3,.Name z p4] X.env=(false,eval (.Name y p3) X.env)::Oa [.Name z p4] X.env:=by rfl) (hs2:Oa [.Name z p4] X.env=(false,eval (.Name z p4) X.env)::Oa [] X.env:=by rfl) :
  SmsB K X i0 [.Return (some (.Tuple [.Subscript (.Name x p) (.Constant (.str "book") k2 p1) p2,.Name y p3,.Name z p4] k p5)) pos] (oK (sF (v6 (M0 (t9 i0) (tC (.str "book"))) (v6 (t9 i1) (v6 (t9 i2) F0))))) (mBk i1 i2):=⟨C6 (X7 (gY (i8 (D5 (by omega) (D4 h0 hv hd hcd) z7 (λ_ _=>rfl)) (i8 (D4 h1 hv1 hd1 hcd1) (i8 (D4 h2 hv2 hd2 hcd2) l6 hs2) hs1) hs0))),λd B0 A0 H0 B A E μ σ H D r μ' S e q=>by
 unfold mBk at e;split at e
 .rename_i d1 d2 e1 e2;cases e;obtain⟨ha,l,bb,ps,rs,ea,hm⟩:=S.rg;refine⟨_,S.at0,d,_,rfl,gA hm.hd,?_⟩;obtain⟨a1,s1,_⟩:=gC S e1 (d8.refl _);obtain⟨a2,s2,_⟩:=gC S e2 (d8.refl _);refine⟨_,s1,_,s2,⟨KA (Q8 (by show 3<=1000;decide)),λp hp=>?_⟩⟩;have sm:d8 H (upd H p (.tup [.ref bb,.ref a1,.ref a2])):=d8.upd hp;have S2:=S.step (H':=upd H p (.tup [.ref bb,.ref a1,.ref a2])) (Kp.upd hp) (S.I.fd.same sm).2;refine q _ _ A S2.fin.1 λC hC=>?_
  have pC:p ∉ C:=λz=>by
   obtain⟨o,eo⟩:=S.I.bk p (S.s p (hC p z).1);rw[hp]at eo;cases eo
  obtain⟨b1,t1,g1⟩:=gC S e1 sm;obtain⟨b2,t2,g2⟩:=gC S e2 sm;rw[s1]at t1;cases t1;rw[s2]at t2;cases t2;have hb:a7 K (hid (upd H p (.tup [.ref bb,.ref a1,.ref a2])) C) (nO μ) (.ref bb):=by
   obtain⟨ha',l',bb',ps',rs',ea',hm'⟩:=S2.rg;have hq:bb'=bb:=by
    have x1:=hm'.hd;have x2:=sm _ _ hm.hd;rw[x1]at x2;simp[C4]at x2;exact x2.2.2
   subst hq;exact hm'.bookIs λa hm z=>(hC a z).2 (ea'▸Jh _ hm)
  exact a7.tup (by rw[e9 pC];exact c7) (.cons hb (.cons (g1 C hC) (.cons (g2 C hC) a6.nil)))
 .cases e⟩
end
section
variable [Fam][Regs]
variable {K:Fg}{P:NR}{w:NS}{mg:Str->Option NO}{base:NY}{st:NW}
def yw {x qual:Str}{f:NP}{fd:NV}{N ps:List Str}{k i0 j:Nat}{mkh:My->Option Regs.S}{m:DE->@M G4 Out}(hlam:Regs.lam=Fam.lam)(Fn:Fun K x qual st f fd)(S:FnScope N ps (defScope st))(hi0:i0<N.length)(hpi:ps.length<=i0)(hno:∀E μ E1 μ1,m E μ=some (.nx E1,μ1)->False)
  (hbody:∀(cdv:NO) (A:NT) (outer:List Oc) (s:NQ) (H:Hp) (E:XK),Room k (A.deeper (envOfC qual (defScope st) s.heap.objs.size f cdv)) ->
   ∃st0 rest ts,defBody st=st0::rest/\PS (O6 CX0 P w K mg base N qual (defScope st) f cdv A outer s H E).nox st0 (N0 (dA (spN K mkh) [] E0 (v6 (t9 j) F0)) (K0 i0))/\SmsB K (O6 CX0 P w K mg base N qual (defScope st) f cdv A outer s H E).nox i0 rest ts m) :
  FnOk P w K mg base CX0 (k+1) f fd ps (@spD fdI K ps.length (rW N i0 j mkh m)):=by
 refine Fn.ok S (λvs H Q E h=>?_) (λcdv A outer s H vs Q E hr h=>?_)
 .obtain⟨G,B,F,args,d,F',hl,_⟩:=h;exact hl
 .obtain⟨G,B,F,args,r,F',hl,fB,bk,fa,ha,hm,q⟩:=h;obtain⟨ds,e1,hm⟩:=bS9 hm;obtain⟨h,e2,hm⟩:=bS9 hm;obtain⟨μ0,e3,hm⟩:=bS9 hm;obtain⟨r',e4,hm⟩:=bS9 hm;cases hm;have:=aW e1;subst this;have hd:=jY ha;obtain⟨st0,rest,ts,eb,hps,hts⟩:=hbody cdv A outer s H E hr;refine⟨T5 (N0 (dA (spN K mkh) [] E0 (v6 (t9 j) F0)) (K0 i0)) ts,by rw[eb];exact l3 hps hts.ps,?_⟩;obtain⟨v,v1,v2⟩:=a6.item hd e2;have hjl:j<vs.length:=(Jm.1 v1).1;have hsj:(L2.E8 N vs)[j]? = some (some v):=by
   unfold L2.E8;rw[JL (by simpa using hjl),Js,v1];rfl
  refine⟨v,hsj,?_⟩;simp only[F0,Kg];refine⟨B,h,μ0,v,rfl,bk,v2,e3,λd A1 H1 sm fr rg=>?_⟩;have te:=qD (K:=K) hlam;have tB:∀b ∈ @tabP G4 K,b∈B:=λb hb=>fB b (lr (te▸hb))
  obtain⟨o,μ',a1,a2⟩:=zk e4 d;have hlen:vs.length=ds.length:=hd.length;have tb0:D3 (tabsK Fam.lam K) H1:=(@FAt.same fdI K G H H1 F fa sm).2;have tb1:D3 (tabsK Regs.lam K) H1:=by rw[hlam];exact tb0
  have hdl:ds.length<=i0:=by rw[<-hlen,hl];exact hpi
  have SM:=oF (i0:=i0) (N:=N) hi0 hdl tB bk sm fr tb1 rg hd;cases o with
  | rt d' =>
   cases a2;refine hts.ok d (A1++B) A1 H1 (A1++B) A1 _ μ0 _ H1 _ r μ' SM a1 λv H2 A2 Z hv=>?_
   have kk:∀b o,H b=some o->b ∉ @tabP fdI K->H2 b=some o:=λb o e n=>Z.kp b o (sm b o e) (λz=>n (te▸z)) λz=>by rw[fr b z]at e;cases e
   refine q v H2 (λb o e n=>kk b o e λz=>n (lr z)) (yN fa (by rw[<-hlam];exact Z.tb) kk) (hv B λb hb=>⟨Jj.2 (.inr hb),λz=>?_⟩);rcases(Z.aB b z).2 with h | h
   .exact bk.nin (fr b h) hb
   .exact h.2 (Jj.2 (.inr hb))
  | nx E'=>exact(hno _ _ _ _ a1).elim
  | bk E'=>cases a2
  | ct E'=>cases a2
end
end
end L3
namespace LM
open PySem PySem.Spec PyProof.Rows L2 L3
variable [Fam][LamC]
local instance regW:Feeds:=G4
section
variable {E:DE}{F:Mac}
end
section
variable {E:DE}{F:Mac}{i:Nat}{ds:List My}{Q:Out->Mac->Prop}
def aV {v:DE->M My}(he:L3.av E i=some ds)(hl:ds.length<=100000)(q:wp (v E F) λx F1=>Q (.nx (E.set i (some (.own (ds++[x]))))) F1):wp (aC i v E F) Q:=by
 unfold aC;rw[b8];refine i4 q λx F1 h=>?_
 rw[he,JC,Jk (LS hl (by rw[JQ];decide))];exact b7.2 h
end
def J1 {bd:My->DE->Option DE}{body:DE->M Out}{Q:Out->Mac->Prop}(I:Nat->DE->Mac->Prop):∀(items:List My) (n:Nat) (E:DE) (F:Mac),I n E F ->
  (∀i d,items[i]? = some d->∀E F,I (n+i) E F->∃E1,bd d E=some E1/\wp (body E1 F) λo F'=>∃E2,o = .nx E2/\I (n+i+1) E2 F')->(∀E F,I (n+items.length) E F->Q (.nx E) F)->wp (M4 bd body items E F) Q
 | [],n,E,F,h,_,hq=>b7.2 (hq E F h)
 | d::r,n,E,F,h,st,hq=>by
  obtain⟨E1,e1,h1⟩:=st 0 d rfl E F h;rw[M4,e1,JC,b8];refine i4 h1 λo F1 ⟨E2,e2,h2⟩=>?_
  subst e2;refine J1 I r (n+1) E2 F1 h2 (λi d e E F hI=>?_) (λE F hI=>hq E F (by rw[JB];rw[show n+(r.length+1)=n+1+r.length by omega];exact hI));have:=st (i+1) d (by simpa using e) E F (by rw[show n+(i+1)=n+1+i by omega];exact hI);rw[show n+(i+1)+1=n+1+i+1 by omega]at this;exact this
section
variable {E:DE}{μ:Mac}
def bT {α:Type}{m:DE->M α}{Q:α->Mac->Prop}:wp (mE m E μ) Q↔wp (m E μ) λx _=>Q x μ:=by
 unfold mE;rw[b8];simp only[b7]
def lK (i0:Nat)(E:DE)(μ:Mac)(Q:Out->Mac->Prop):Out->Prop
 | .nx E1=>A4 E1 i0=A4 E i0/\Q (.nx E1) μ
 | .bk E1=>A4 E1 i0=A4 E i0/\Q (.bk E1) μ
 | .ct E1=>A4 E1 i0=A4 E i0/\Q (.ct E1) μ
 | .rt d=>Q (.rt d) μ
def oW {i0:Nat}{Q:Out->Mac->Prop}{E1:DE}(h:A4 E1 i0=A4 E i0)(q:Q (.nx E1) μ):lK i0 E μ Q (.nx E1):=⟨h,q⟩
def EM {i0:Nat}{Q:Out->Mac->Prop}{d:My}(q:Q (.rt d) μ):lK i0 E μ Q (.rt d):=q
def nS {i0:Nat}{m:DE->M Out}{Q:Out->Mac->Prop}:wp (mL i0 m E μ) Q↔wp (m E μ) λo _=>lK i0 E μ Q o:=by
 unfold mL;rw[b8];refine A7 λo F=>?_
 cases o with
 | rt d=>exact b7
 | nx E1=>show wp (cj i0 E μ (.nx E1)) Q↔(A4 E1 i0=A4 E i0/\Q (.nx E1) μ);unfold cj;dsimp only;split <;> rename_i h <;> simp[b7,A9,h]
 | bk E1=>show wp (cj i0 E μ (.bk E1)) Q↔(A4 E1 i0=A4 E i0/\Q (.bk E1) μ);unfold cj;dsimp only;split <;> rename_i h <;> simp[b7,A9,h]
 | ct E1=>show wp (cj i0 E μ (.ct E1)) Q↔(A4 E1 i0=A4 E i0/\Q (.ct E1) μ);unfold cj;dsimp only;split <;> rename_i h <;> simp[b7,A9,h]
def qT {mi:DE->M (List My)}{bd:My->DE->Option DE}{body:DE->M Out}{Q:Out->Mac->Prop}:wp (jL mi bd body E μ) Q↔wp (mi E μ) λds _=>wp (M4 bd body ds E μ) Q:=by
 unfold jL;rw[b8]
def gL {f:List My->Mac->Option (My×Mac)}{ms:DE->M (List My)}{Q:My->Mac->Prop}:wp (cy f ms E μ) Q↔wp (ms E μ) λxs μ1=>wp (f xs μ1) Q:=by
 unfold cy;rw[b8]
def xI {Q:My->Mac->Prop}:wp (sAt E μ) Q↔Q (.int μ.t) μ:=b7
def nP {Q:My->Mac->Prop}:wp (iu E μ) Q↔Q (fu μ) μ:=b7
def rA {Q:My->Mac->Prop}:wp (mQ E μ) Q↔Q (.int μ.line.length) μ:=b7
def zh {Q:My->Mac->Prop}:wp (uD E μ) Q↔Q (.int μ.book.length) μ:=b7
def Cc {Q:My->Mac->Prop}:wp (AF E μ) Q↔Q (.bool μ.line.isEmpty) μ:=b7
def AX {ms:DE->M (List My)}{Q:Out->Mac->Prop}(h:wp (ms E μ) λxs μ1=>∃y,jS xs=some y /\ μ1.line.length<=10000/\Q (.nx E) { μ1 with line:=μ1.line++[y] }):wp (mB ms E μ) Q:=by
 unfold mB;rw[b8];refine i4 h λxs μ1 ⟨y,e1,e2,q⟩=>?_
 have hl:xs.length=4:=by
  unfold jS at e1;split at e1
  .rfl
  .cases e1
 have z:(10000:Nat)<NZ:=by rw[JQ];decide
 show wp ((jS xs).bind _) Q;rw[e1,JC,Jk ⟨by show μ1.line.length<NZ;omega,by show xs.length<=NZ;omega⟩];exact b7.2 q
def vx {ms:DE->M (List My)}{Q:Out->Mac->Prop}(h:wp (ms E μ) λxs μ1=>∃y,jK xs=some y /\ μ1.book.length<=10000/\Q (.nx E) { μ1 with book:=μ1.book++[y] }):wp (nC ms E μ) Q:=by
 unfold nC;rw[b8];refine i4 h λxs μ1 ⟨y,e1,e2,q⟩=>?_
 have hl:xs.length=4:=by
  unfold jK at e1;split at e1
  .rfl
  .cases e1
 have z:(10000:Nat)<NZ:=by rw[JQ];decide
 show wp ((jK xs).bind _) Q;rw[e1,JC,Jk ⟨by show μ1.book.length<NZ;omega,by show xs.length<=NZ;omega⟩];exact b7.2 q
def DF {f:List DV->@M fdI My}{ds:List My}{Q:My->Mac->Prop}(h:wp (f (ds.map DV.dat) (iN [])) λd _=>Q d μ):wp (reF f (ds.map DV.dat) μ) Q:=by
 unfold reF;rw[cF,JC,b8];refine i4 h λd F q=>b7.2 q
def lx {N:List Str}{m:DE->M Out}{ds:List My}{r:My}{μ':Mac}(h:∀d:NP,wp (m (U8 N d ds) μ) λo μ1=>μ1 = μ'/\jn o=some r):lF N m ds μ=some (r,μ'):=zb λd=>by
 obtain⟨o,F,e,rfl,e2⟩:=h d;exact⟨o,e,e2⟩
def Bm {N:List Str}{i0 j:Nat}{mkh:My->Option Mac}{m:DE->M Out}{ds:List My}{h r:My}{μ0:Mac}{F:FdS}{Q:My->FdS->Prop}(hj:ds[j]? = some h)(hm:mkh h=some μ0)(hr:∀d:NP,wp (m ((x4 N (ds.map DV.dat)).set i0 (some (.adr d))) μ0) λo _=>jn o=some r)(q:Q r F):wp (rW N i0 j mkh m (ds.map DV.dat) F) Q:=by
 unfold rW;have e:=yp (N:=N) (i0:=i0) (m:=m) (μ0:=μ0) (ds:=ds) (r:=r) λd=>by
  obtain⟨o,F,e,e2⟩:=hr d;exact⟨o,F,e,e2⟩
 rw[cF,JC,hj,JC,hm,JC,e,JC];exact b7.2 q
end
end LM
namespace L3
open PySem PySem.Spec PyProof.Rows L2
variable [Fam]
def cX:List DV->M My:=Z1 ["_law_rule_here","_law_one","_law_other"] (mSq (mIf (uB (s2 (eqD true) (s2 ixD (sW 1) (sC (.int 3))) (s2 ixD (sW 2) (sC (.int 3))))) (mRt (s2 ixD (sW 1) (sC (.int 3)))) mNx)
  (mSq (mIf (uB (s2 (inD false) (sW 0) (sC (.tuple [.str "last",.str "lastoff"])))) (mRt (sC (.bool true))) mNx)
  (mSq (mIf (uB (s2 (inD false) (sW 0) (sC (.tuple [.str "short",.str "shortoff"])))) (mRt (s2 ltD (s2 ixD (sW 1) (sC (.int 2))) (s2 ixD (sW 2) (sC (.int 2))))) mNx)
  (mRt (pF (s2 (inD false) (sW 0) (sC (.tuple [.str "front",.str "frontoff"]))) (s2 ltD (s2 ixD (sW 1) (sC (.int 1))) (s2 ixD (sW 2) (sC (.int 1)))))))))
def gE (p:Per):Pn:=(p.r,p.l,p.b)
def l5 (line:List Per)(i:Nat):Per:=line.getD i ⟨0,0,0,false⟩
def pnL (line:List Per):List Pn:=line.map gE
def dI {line:List Per}{i:Nat}(h:i<line.length):pAt (pnL line) i=gE (l5 line i):=by
 unfold pAt pnL l5;simp[h]
def w4 (line:List Per):(pnL line).length=line.length:=by simp[pnL]
def kW (k:Nat)(p q:Per):Bool:=if p.b≠q.b then p.b else if k=1 then true else if k=2 then decide (p.l<q.l) else if k=3 then decide (p.r<q.r) else false
def uX {r:My}{p q:Per}{F:FdS}{Q:My->FdS->Prop}(hr:r∈W8)(hq:Q (.bool (kW (kOf r) p q)) F):wp (cX [.dat r,.dat (cS p),.dat (cS q)] F) Q:=by
 unfold cX cS;unfold kW at hq;walk_at "go";refine P6 (λh=>?_) λh=>?_
 .have hne:p.b≠q.b:=by have:=Aa h;simpa using this.symm
  rw[Jk hne]at hq;walk_at "go";exact hq
 have heq:p.b=q.b:=by have:=Aa h;simpa using this.symm
 rw[Jo (by simp[heq])]at hq;walk_at "go";refine c6 (rP hr) (c6 rfl (P6 (λh=>?_) λh=>?_))
 .rw[Jk (JT h)]at hq;walk_at "go";exact hq
 rw[Jo (Kj h)]at hq;walk_at "go";refine c6 (mY hr) (c6 rfl (P6 (λh=>?_) λh=>?_))
 .rw[Jk (JT h)]at hq;walk_at "go";exact hq
 rw[Jo (Kj h)]at hq;walk_at "go";refine c6 (nF hr) (c6 rfl (P6 (λh=>?_) λh=>?_))
 .rw[Jk (JT h)]at hq;walk_at "go";exact hq
 rw[Jo (Kj h)]at hq;walk_at "go";exact hq
def ke {k:Nat}{line:List Per}{i j:Nat}(hj:j<line.length)(hij:i<j):kW k (l5 line j) (l5 line i)=decide (C2 k true (pnL line) j i):=by
 have hi:i<line.length:=by omega
 rw[LC,Lg];unfold kW C2 V0;rw[dI hi,dI hj];generalize l5 line j=p;generalize l5 line i=q;obtain⟨pn,pr,pl,pb⟩:=p;obtain⟨qn,qr,ql,qb⟩:=q;have h1:¬j<i:=by omega
 by_cases k1:k=1
 .cases pb <;> cases qb <;> simp[gE,bI,k1,hij]
 .by_cases k2:k=2
  .cases pb <;> cases qb <;> simp[gE,bI,k2,h1]
  .by_cases k3:k=3
   .cases pb <;> cases qb <;> simp[gE,bI,k3,h1]
   .cases pb <;> cases qb <;> simp[gE,bI,k1,k2,k3,h1]
def O3 (S:Nat->Nat->Bool)(found:List Nat):Nat->Option Nat
 | 0=>none
 | j+1=>if j∈found then O3 S found j else match O3 S found j with
  | none=>some j
  | some b=>if S j b=true then some j else some b
theorem dD {S:Nat->Nat->Bool}{found:List Nat}:∀{j b:Nat},O3 S found j=some b->b<j/\b ∉ found
 | 0,b,h=>by cases h
 | j+1,b,h=>by
  unfold O3 at h;split at h
  .obtain⟨h1,h2⟩:=dD h;exact⟨by omega,h2⟩
  .rename_i hn;split at h
   .cases h;exact⟨by omega,hn⟩
   .rename_i c hc;obtain⟨h1,h2⟩:=dD hc;split at h <;> cases h
    .exact⟨by omega,hn⟩
    .exact⟨by omega,h2⟩
def bM {L:List Nat}{i:Nat}(h:i∈L):L[L.idxOf i]? = some i:=by
 have:=MA.2 h;rw[Ji this,Nr this]
def zw {L:List Nat}(nd:L.Nodup){t i:Nat}(h:L[t]? = some i):L.idxOf i=t:=by
 have h2:=bM (JW h);exact lJ nd h2 h
theorem dw {S:Nat->Nat->Bool}{L found:List Nat}{n:Nat}(hS:∀i j,i<n->j<n->i<j->(S j i=true↔L.idxOf j<L.idxOf i)):∀{j:Nat},j<=n->(∀i<j,i ∉ found->∃b,O3 S found j=some b/\L.idxOf b<=L.idxOf i)
 | 0,_,i,hi,_=>absurd hi (by omega)
 | j+1,hj,i,hi,hf=>by
  unfold O3;by_cases hjf:j∈found
  .rw[Jk hjf];have:i≠j:=λz=>hf (z▸hjf)
   exact dw hS (by omega) i (by omega) hf
  .rw[Jo hjf];cases hb:O3 S found j with
   | none =>
    by_cases hij:i=j
    .exact⟨j,rfl,by rw[hij];exact Jq _⟩
    .obtain⟨b,e,_⟩:=dw hS (show j<=n by omega) i (by omega) hf;rw[hb]at e;cases e
   | some b =>
    obtain⟨hbl,_⟩:=dD hb;have hs:=hS b j (by omega) (by omega) hbl;dsimp only;by_cases hij:i=j
    .subst hij;split
     .exact⟨_,rfl,Jq _⟩
     .rename_i hns;refine⟨b,rfl,?_⟩;have hge:¬(L.idxOf i<L.idxOf b):=λz=>hns (hs.2 z)
      omega
    .obtain⟨b',e,hle⟩:=dw hS (show j<=n by omega) i (by omega) hf;rw[hb]at e;cases e;split
     .rename_i hss;exact⟨j,rfl,by have:=hs.1 hss;omega⟩
     .exact⟨b,rfl,hle⟩
def tN {k:Nat}{kp:Bool}{ps:List Pn}{i j:Nat}(hi:i<ps.length)(hj:j<ps.length)(hij:i≠j):C2 k kp ps i j↔(order k kp ps).idxOf i<(order k kp ps).idxOf j:=by
 have mi:i∈order k kp ps:=(w6 k kp ps).mem_iff.mpr (JN.2 hi);have mj:j∈order k kp ps:=(w6 k kp ps).mem_iff.mpr (JN.2 hj);have li:=MA.2 mi;have lj:=MA.2 mj;have P:=KB.1 (dJ k kp ps);have ei:(order k kp ps)[(order k kp ps).idxOf i]=i:=Nr li;have ej:(order k kp ps)[(order k kp ps).idxOf j]=j:=Nr lj;constructor
 .intro h;rcases Nat.lt_trichotomy ((order k kp ps).idxOf i) ((order k kp ps).idxOf j) with z | z | z
  .exact z
  .have h1:=bM mi;have h2:=bM mj;rw[z,h2]at h1;exact absurd (Jt h1).symm hij
  .have:=P _ _ lj li z;rw[ei,ej]at this;exact(cT _ _ h this).elim
 .intro z;have:=P _ _ li lj z;rw[ei,ej]at this;exact this
def tm {k:Nat}{ps:List Pn}{t b:Nat}(ht:(order k true ps)[t]? = some b):O3 (λi j=>decide (C2 k true ps i j)) ((order k true ps).take t) ps.length=some b:=by
 have nd:=aX k true ps;have mb:b∈order k true ps:=JW ht;have hb:b<ps.length:=JN.1 ((w6 k true ps).mem_iff.mp mb);have ib:=zw nd ht;have hnf:b ∉ (order k true ps).take t:=λz=>by
  obtain⟨i,hi⟩:=LG.1 z;rw[LU]at hi;split at hi
  .exact absurd (lJ nd hi ht) (by omega)
  .cases hi
 obtain⟨c,e,hle⟩:=dw (S:=λi j=>decide (C2 k true ps i j)) (L:=order k true ps) (found:=(order k true ps).take t) (n:=ps.length) (λi j hi hj hij=>by simp only[Lg];exact tN hj hi (by omega)) (Jq _) b hb hnf;obtain⟨hc,hcf⟩:=dD e;have mc:c∈order k true ps:=(w6 k true ps).mem_iff.mpr (JN.2 hc);have hge:t<=(order k true ps).idxOf c:=by
  rcases Nat.lt_or_ge ((order k true ps).idxOf c) t with z | z
  .refine absurd (LG.2 ⟨(order k true ps).idxOf c,?_⟩) hcf;rw[LU,Jk z];exact bM mc
  .exact z
 have:(order k true ps).idxOf c=t:=by omega
 have h2:=bM mc;rw[this,ht]at h2;rw[e,h2]
end L3
namespace LM
open PySem PySem.Spec PyProof.Rows L2 L3
variable [Fam][LamC]
local instance regN:Feeds:=G4
def oo {bd:My->DE->Option DE}{body:DE->M Out}{Q:Out->Mac->Prop}(I:Nat->DE->Mac->Prop):∀(items:List My) (n:Nat) (E:DE) (F:Mac),I n E F ->
  (∀i d,items[i]? = some d->∀E F,I (n+i) E F->∃E1,bd d E=some E1/\wp (body E1 F) λo F'=>∃E2,(o = .nx E2\/o = .ct E2)/\I (n+i+1) E2 F')->(∀E F,I (n+items.length) E F->Q (.nx E) F)->wp (M4 bd body items E F) Q
 | [],n,E,F,h,_,hq=>b7.2 (hq E F h)
 | d::r,n,E,F,h,st,hq=>by
  obtain⟨E1,e1,h1⟩:=st 0 d rfl E F h;rw[M4,e1,JC,b8];refine i4 h1 λo F1 ⟨E2,e2,h2⟩=>?_
  have go:wp (M4 bd body r E2 F1) Q:=by
   refine oo I r (n+1) E2 F1 h2 (λi d e E F hI=>?_) (λE F hI=>hq E F (by rw[JB];rw[show n+(r.length+1)=n+1+r.length by omega];exact hI));have:=st (i+1) d (by simpa using e) E F (by rw[show n+(i+1)=n+1+i by omega];exact hI);rw[show n+(i+1)+1=n+1+i+1 by omega]at this;exact this
  rcases e2 with e2 | e2 <;> subst e2 <;> exact go
def km {l:List Nat}{i:Nat}(hl:∀j∈l,j<=1000):inD false (.int (i:Int)) (.list (j3 l))=some (.bool (decide (i∈l))):=by
 have hs:SeqAt.shaped (.list (j3 l))=true:=by
  have:=(gy hl).shaped (by decide) (by decide);simpa [SeqAt.shaped,My.canLay0,My.depth] using this
 have hi:SeqAt.shaped (.int (i:Int))=true:=by simp[SeqAt.shaped,My.canLay0,My.depth]
 show(if SeqAt.shaped (.list (j3 l))=true/\SeqAt.shaped (.int (i:Int))=true then _ else none)=_;rw[Jk ⟨hs,hi⟩,Jo (by simp)];refine Kk (λb=>some (My.bool b)) ?_;unfold j3;rw[List.any_map];have e:(l.any ((λy=>y.eqv (.int (i:Int))) ∘ λj:Nat=>My.int (j:Int)))=l.any λj=>decide (j=i):=by
  congr 1;funext j;simp only[Function.comp,lR];rw[KJ];omega
 rw[e];rw[LC];simp
def iE {j:Int}(h0:-(2 ^ 62)<=j)(h1:j<2 ^ 62):T1 [.int j]=some (af 0 j.toNat):=Jk ⟨h0,h1⟩
def wH {n:Nat}(h:n<=100000):T1 [.int (n:Int)]=some (j3 (List.range n)):=by
 rw[iE (by omega) (by omega),KN,rT]
def DR:Option Nat->My
 | none=>.none
 | some b=>.int (b:Int)
def gv:DE->M (List My):=gSq (ic 5 (cB i5))
  (gSq (du (df (b9 (sN zx (b9 (sW 1) (b9 (sN U1 (b9 (sW 4) i5)) i5))) i5)) (bN 6) (mSq (A8 7 (sC .none))
  (mSq (du (df (b9 (sN U1 (b9 (sW 4) i5)) i5)) (bN 8) (mSq (mIf (uB (s2 (inD false) (sW 8) (sW 5))) (λE F=>some (.ct E,F)) mNx)
  (mIf (uOr (uB (s2 (isD false) (sW 7) (sC .none))) (uT (v7 (reF cX) (vD (sV 3) (vD (s2 ixD (sW 4) (sW 8)) (vD (s2 ixD (sW 4) (sW 7)) E9)))))) (A8 7 (sV 8)) mNx)))
  (aC 5 (sV 7)))))
  (BL 5))
def Gj:List My->Mac->Option (My×Mac):=lF ["_law_m","_law_hands","_law_places","_law_rule_here","_law_line","_law_found","_law_hand","_law_best","_law_place"] (mSq (bR (P9 3 (j8 (bN 1) (j8 (bN 2) (j8 (bN 3) S7)))) iu) (bu 4 gv))
def rS {line:List Per}{i:Nat}(h:i<line.length):atI (line.map cS) (i:Int)=some (cS (l5 line i)):=by
 refine W1 ?_;unfold l5;simp[h]
def zV {a:DE->M Out}{b:DE->M (List My)}{E:DE}{μ:Mac}{Q:List My->Mac->Prop}(h:wp (a E μ) λo μ1=>∃E1,o = .nx E1/\wp (b E1 μ1) Q):wp (gSq a b E μ) Q:=by
 unfold gSq;rw[b8];refine i4 h λo μ1 ⟨E1,e,q⟩=>?_
 subst e;exact q
def pj {μ:Mac}{d:NP}{h:Nat}{r:My}{c8:My}(hr:r∈W8)(hl:μ.line.length<64) :
  wp (gv [some (.adr d),some (.dat (.int (h:Int))),some (.dat c8),some (.dat r),some (.dat (mJ μ)),none,none,none,none] μ) λds μ1=>μ1 = μ/\ds=j3 ((order (kOf r) true (pnL μ.line)).take h):=by
 have hol:(order (kOf r) true (pnL μ.line)).length = μ.line.length:=by rw[(w6 _ _ _).length_eq,JD,w4]
 have hsm:∀t,∀j∈(order (kOf r) true (pnL μ.line)).take t,j<=1000:=λt j hj=>by
  have:=JN.1 ((w6 (kOf r) true (pnL μ.line)).mem_iff.mp (Lo hj));rw[w4]at this;omega
 unfold gv;refine zV (dZ.2 (V5.2 (d7.2 ⟨B3 rfl,h8 rfl,_,rfl,?_⟩)));refine zV (ar.2 (dS.2 (a9.2 (E5.2 (a9.2 (g9.2 (i6 rfl (a9.2 (E5.2 (a9.2 (g9.2 (i6 rfl (d7.2 (c6 rfl (d7.2 (c6 rfl (d7.2 ?_)))))))))))))))));have emin:(if ((μ.line.map cS).length:Int)<(h:Int) then((μ.line.map cS).length:Int) else(h:Int))=((min h μ.line.length:Nat):Int):=by
  rw[Jf];split <;> omega
 show oB (T1 [.int (if ((μ.line.map cS).length:Int)<(h:Int) then((μ.line.map cS).length:Int) else(h:Int))]) _;rw[emin];refine c6 (z:=j3 (List.range (min h μ.line.length))) (wH (by omega)) ?_;refine J1 (λt E F=>F = μ/\∃o6 o7 o8,E=[some (.adr d),some (.dat (.int (h:Int))),some (.dat c8),some (.dat r),some (.dat (mJ μ)),some (.own (j3 ((order (kOf r) true (pnL μ.line)).take t))),o6,o7,o8]) _ 0 _ μ ⟨rfl,none,none,none,rfl⟩ ?_ ?_
 .rintro t dd e E F ⟨rfl,o6,o7,o8,rfl⟩;rw[JZ];obtain⟨tt,e2,rfl⟩:=gQ e;have ht:t<min h F.line.length/\tt=t:=by
   obtain⟨h1,h2⟩:=Jm.1 e2;simp at h1 h2;exact⟨by omega,h2.symm⟩
  obtain⟨ht,rfl⟩:=ht;obtain⟨b,hb⟩:∃b,(order (kOf r) true (pnL F.line))[tt]? = some b:=⟨_,Ji (by omega)⟩;refine⟨_,rfl,?_⟩;refine i9.2 (l7.2 (u7.2 ⟨h8 rfl,h9 ?_⟩));refine i9.2 (ar.2 (dS.2 (a9.2 (E5.2 (a9.2 (g9.2 (i6 rfl (d7.2 (c6 rfl (d7.2 ?_))))))))));show oB (T1 [.int ((F.line.map cS).length:Int)]) _;rw[Jf];refine c6 (z:=j3 (List.range F.line.length)) (wH (by omega)) ?_;refine oo (λj E F'=>F'=F/\∃o8,E=[some (.adr d),some (.dat (.int (h:Int))),some (.dat c8),some (.dat r),some (.dat (mJ F)),some (.own (j3 ((order (kOf r) true (pnL F.line)).take tt))),some (.dat (.int (tt:Int))),some (.dat (DR (O3 (λi j=>decide (C2 (kOf r) true (pnL F.line) i j)) ((order (kOf r) true (pnL F.line)).take tt) j))),o8]) _ 0 _ F ⟨rfl,o8,rfl⟩ ?_ ?_
  .rintro j dj ej E F' ⟨rfl,o8',rfl⟩;rw[JZ];obtain⟨jj,ej2,rfl⟩:=gQ ej;have hj:j<F'.line.length/\jj=j:=by
    obtain⟨h1,h2⟩:=Jm.1 ej2;simp at h1 h2;exact⟨by omega,h2.symm⟩
   obtain⟨hj,rfl⟩:=hj;refine⟨_,rfl,?_⟩;refine i9.2 (W2.2 (Y1.2 (n9.2 (g9.2 (i6 rfl (g9.2 (dy rfl (c6 (km (hsm tt)) (c6 rfl (P6 (λhin=>?_) λhin=>?_))))))))))
   .have hin:=JT hin;exact b7.2 (CO ⟨_,.inr rfl,rfl,_,by rw[O3,Jk hin];rfl⟩)
   .have hin:=Kj hin;refine bW.2 (h9 ?_);cases hb0:O3 (λi j=>decide (C2 (kOf r) true (pnL F'.line) i j)) ((order (kOf r) true (pnL F'.line)).take tt) jj with
    | none =>
     refine W2.2 (xj.2 (Y1.2 (n9.2 (g9.2 (i6 rfl (u7.2 (c6 rfl (c6 rfl (fK.2 (fK.2 ?_))))))))));exact l7.2 (l9.2 (l8 rfl ⟨h8 rfl,_,.inl rfl,rfl,_,by rw[O3,Jo hin,hb0];rfl⟩))
    | some bb =>
     obtain⟨hbb,_⟩:=dD hb0;refine W2.2 (xj.2 (Y1.2 (n9.2 (g9.2 (i6 rfl (u7.2 (c6 rfl (c6 rfl (fI.2 ?_)))))))));refine ui.2 (x6.2 (G5.2 (l9.2 (l8 rfl (G5.2 (n9.2 (g9.2 (i6 rfl (g9.2 (i6 rfl (c6 (rS hj) ?_)))))))))));refine G5.2 (n9.2 (g9.2 (i6 rfl (g9.2 (i6 rfl (c6 (rS (show bb<F'.line.length by omega)) (C3.2 ?_)))))));refine DF (ds:=[r,cS (l5 F'.line jj),cS (l5 F'.line bb)]) (uX hr (c6 rfl ?_));rw[ke hj hbb];refine P6 (λhs=>?_) λhs=>?_
     .exact l7.2 (l9.2 (l8 rfl ⟨h8 rfl,_,.inl rfl,rfl,_,by rw[O3,Jo hin,hb0];dsimp only;rw[Jk hs];rfl⟩))
     .exact bW.2 ⟨_,.inl rfl,rfl,_,by rw[O3,Jo hin,hb0];dsimp only;rw[Jo (by rw[hs];simp)];rfl⟩
  .rintro E F' ⟨rfl,o8',rfl⟩;rw[JZ,C7,JD];have hbest:=tm hb;rw[w4]at hbest;rw[hbest];have e3:(order (kOf r) true (pnL F'.line)).take (tt+1)=(order (kOf r) true (pnL F'.line)).take tt++[b]:=by
    rw[List.take_succ,hb];rfl
   exact h9 (aV rfl (by rw[C7,Ke];omega) (l9.2 (l8 rfl ⟨_,rfl,rfl,_,_,_,by rw[e3];simp only[j3,JE,Jy,Kl];rfl⟩)))
 .rintro E F ⟨rfl,o6,o7,o8,rfl⟩;refine⟨_,rfl,⟨_,_,rfl,rfl,?_⟩⟩;rw[JZ,C7,JD];rcases Nat.le_total h F.line.length with z | z
  .rw[NL z]
  .rw[NH z,Kw (by omega),Kw (by omega)]
end LM
namespace L3
open PySem PySem.Spec PyProof.Rows L2
variable [Fam]
def J0 (book:List Row)(j:Nat):Row:=book.getD j ⟨"",0,none,0⟩
def thP (P:Nat->Bool)(kp:Bool)(line:List Per)(i:Nat):Per:=if P i=true then⟨(l5 line i).n,(l5 line i).r,(l5 line i).l-1,kp⟩ else l5 line i
def gnP (P:Nat->Bool)(line:List Per)(i:Nat):Bool:=P i&&decide ((l5 line i).l<=1)
def row1 (P:Nat->Bool)(i:Nat)(row:Row):Row:=if P i=true then row else⟨row.w,row.t,row.m,row.q+1⟩
def iI (P:Nat->Bool)(t:Int)(line:List Per)(i:Nat)(row:Row):Row:=if gnP P line i=true then⟨"gone",(row1 P i row).t,some t,(row1 P i row).q⟩ else row1 P i row
def ni (P:Nat->Bool)(t:Int)(line:List Per)(book:List Row)(i:Nat):List Row:=book.set (l5 line i).n.toNat (iI P t line i (J0 book (l5 line i).n.toNat))
def N9 (P:Nat->Bool)(t:Int)(line:List Per)(book:List Row)(k:Nat):List Row:=(List.range k).foldl (ni P t line) book
def eQ {P:Nat->Bool}{t:Int}{line:List Per}{book:List Row}{k:Nat}:N9 P t line book (k+1)=ni P t line (N9 P t line book k) k:=by
 unfold N9;rw[Lc,MN];rfl
theorem S5 {P:Nat->Bool}{t:Int}{line:List Per}{book:List Row}:∀{k:Nat},(N9 P t line book k).length=book.length
 | 0=>rfl
 | k+1=>by rw[eQ];unfold ni;rw[Kh,S5]
def gk (P:Nat->Bool)(kp:Bool)(line:List Per)(k:Nat):List Per:=(List.range line.length).map λi=>if i<k then thP P kp line i else l5 line i
def aj (P:Nat->Bool)(kp tn:Bool)(line:List Per)(k:Nat):List Per:=((List.range k).filter λi=>!gnP P line i && !(P i&&tn)).map (thP P kp line)
def au (P:Nat->Bool)(kp tn:Bool)(line:List Per)(k:Nat):List Per:=((List.range k).filter λi=>!gnP P line i&&(P i&&tn)).map (thP P kp line)
def ee (P:Nat->Bool)(line:List Per)(k:Nat):List Int:=((List.range k).filter λi=>gnP P line i).map λi=>(l5 line i).n
def bsG (P:Nat->Bool)(kp tn:Bool)(t:Int)(line:List Per)(book:List Row)(k:Nat):BS:=⟨gk P kp line k,N9 P t line book k,aj P kp tn line k,au P kp tn line k,ee P line k⟩
def rV (line:List Per)(book:List Row):Prop:=∀i<line.length,0<=(l5 line i).n/\(l5 line i).n<book.length/\1<=(l5 line i).l
def uA (P:Nat->Bool)(kp:Bool)(line:List Per):gk P kp line 0=line:=by
 unfold gk l5;refine NI (by simp) λi h1 h2=>?_
 simp[h2]
def gH {P:Nat->Bool}{kp:Bool}{line:List Per}{k i:Nat}(h:i<line.length):(gk P kp line k)[i]? = some (if i<k then thP P kp line i else l5 line i):=by
 unfold gk;simp[h]
def uC {P:Nat->Bool}{kp:Bool}{line:List Per}{k:Nat}(h:k<line.length):(gk P kp line k).set k (thP P kp line k)=gk P kp line (k+1):=by
 refine LZ λi=>?_
 by_cases hi:i<line.length
 .rw[gH hi];by_cases hk:k=i
  .subst hk;rw[Ju (by simp[gk,hi]),Jk (Lu k)]
  .rw[Jp hk,gH hi];congr 1;by_cases h1:i<k
   .rw[Jk h1,Jk (by omega)]
   .rw[Jo h1,Jo (by omega)]
 .rw[Kx (by simp[gk];omega),Kx (by simp[gk];omega)]
def By {P:Nat->Bool}{kp tn:Bool}{t:Int}{line:List Per}{book:List Row}{k:Nat}(hk:k<line.length)(hn:rV line book):di kp tn t k (P k) (bsG P kp tn t line book k)=some (bsG P kp tn t line book (k+1)):=by
 obtain⟨n1,n2,n3⟩:=hn k hk;unfold di bsG;dsimp only;rw[gH hk,Jo (KD k),JC];have hj:ixN (N9 P t line book k).length (l5 line k).n=some (l5 line k).n.toNat:=by
  unfold ixN;rw[Jk n1,S5,Jk n2]
 rw[hj,JC];have hjl:(l5 line k).n.toNat<(N9 P t line book k).length:=by rw[S5];omega
 have hrow:(N9 P t line book k)[(l5 line k).n.toNat]? = some (J0 (N9 P t line book k) (l5 line k).n.toNat):=by
  unfold J0;simp[hjl]
 rw[hrow,JC];have e1:(if P k=true then(⟨(l5 line k).n,(l5 line k).r,(l5 line k).l-1,kp⟩:Per) else l5 line k)=thP P kp line k:=rfl;have hl0:(thP P kp line k).l=0↔gnP P line k=true:=by
  unfold thP gnP;cases hp:P k with
  | false=>simp;omega
  | true=>simp;omega
 have e2:∀row:Row,(if P k=true then row else(⟨row.w,row.t,row.m,row.q+1⟩:Row))=row1 P k row:=λ_=>rfl
 have eb:∀z,ni P t line (N9 P t line book k) k=z↔(N9 P t line book k).set (l5 line k).n.toNat (iI P t line k (J0 (N9 P t line book k) (l5 line k).n.toNat))=z:=λz=>Iff.rfl
 congr 1;rw[e1,e2];have eL:gk P kp line (k+1)=(gk P kp line k).set k (thP P kp line k):=(uC hk).symm;have eB:N9 P t line book (k+1)=(N9 P t line book k).set (l5 line k).n.toNat (iI P t line k (J0 (N9 P t line book k) (l5 line k).n.toNat)):=eQ;rw[eL,eB];by_cases hg:gnP P line k=true
 .rw[Jk (hl0.2 hg)];have r2:iI P t line k (J0 (N9 P t line book k) (l5 line k).n.toNat)=⟨"gone",(row1 P k (J0 (N9 P t line book k) (l5 line k).n.toNat)).t,some t,(row1 P k (J0 (N9 P t line book k) (l5 line k).n.toNat)).q⟩:=by unfold iI;rw[Jk hg]
  rw[r2];unfold aj au ee;rw[Lc,Kr,Kr,Kr];simp only[NJ,LF,hg,Bool.not_false,Nw,MV,Ma,ME,Bool.and_true,KL,KH,Kc,ite_true,ite_false,JE,Jy,Kl,Kg,Bool.and_self]
 .rw[Jo λz=>hg (hl0.1 z)];have hgf:gnP P line k=false:=by simpa using hg
  have r2:iI P t line k (J0 (N9 P t line book k) (l5 line k).n.toNat)=row1 P k (J0 (N9 P t line book k) (l5 line k).n.toNat):=by unfold iI;rw[Jo hg]
  rw[r2];by_cases ht:P k=true/\tn=true
  .rw[Jk ht];unfold aj au ee;rw[Lc,Kr,Kr,Kr];simp only[NJ,LF,hgf,ht.1,ht.2,Bool.not_false,Nw,MV,Ma,ME,Bool.and_true,KL,KH,Kc,ite_true,ite_false,JE,Jy,Kl,Kg,Bool.and_self]
  .rw[Jo ht];have ht':(P k&&tn)=false:=Bool.eq_false_iff.2 λz=>ht (by simpa using z)
   unfold aj au ee;rw[Lc,Kr,Kr,Kr];simp only[NJ,LF,hgf,ht',Bool.not_false,Nw,MV,Ma,ME,Bool.and_true,KL,KH,Kc,ite_true,ite_false,JE,Jy,Kl,Kg,Bool.and_self]
theorem Dt {P:Nat->Bool}{kp tn:Bool}{t:Int}{line:List Per}{book:List Row}{sm:My}(hn:rV line book)(hin:∀i<line.length,inB sm i=some (P i)):∀{m k:Nat},m+k=line.length->ah kp tn t sm m k (bsG P kp tn t line book k)=some (bsG P kp tn t line book line.length)
 | 0,k,h=>by rw[ah,show k=line.length by omega]
 | m+1,k,h=>by
  rw[ah,hin k (by omega),JC,By (by omega) hn,JC];exact Dt hn hin (by omega)
def fO (P:Nat->Bool)(kp tn:Bool)(μ:Mac):Mac:={ μ with line:=aj P kp tn μ.line μ.line.length++au P kp tn μ.line μ.line.length,book:=N9 P (μ.t+1) μ.line μ.book μ.line.length,t:=μ.t+1 }
def zi {P:Nat->Bool}{kp:Bool}{sm:My}{μ:Mac}(hl:μ.line.length<=1000)(hk:je μ.u=some kp)(hn:rV μ.line μ.book)(hin:∀i < μ.line.length,inB sm i=some (P i)) :
  ot sm μ=some (ee P μ.line μ.line.length,fO P kp (decide (μ.u = "turns")) μ):=by
 unfold ot;have z:(1000:Nat)<NZ:=by rw[JQ];decide
 rw[Jk ⟨by omega,by omega⟩,hk,JC];have e0:(⟨μ.line,μ.book,[],[],[]⟩:BS)=bsG P kp (decide (μ.u = "turns")) (μ.t+1) μ.line μ.book 0:=by
  unfold bsG;rw[uA];rfl
 rw[e0,Dt hn hin rfl];rfl
def V4 (pl:Option Nat)(n:Nat):Bool:=match pl with
 | none=>false
 | some v=>decide (v<=n)
def y8 (pl:Option Nat)(s:Mac×Nat)(c:Int×Int):Mac×Nat :=
 if V4 pl s.1.line.length=true then({ s.1 with book:=s.1.book++[⟨"lost",s.1.t,none,0⟩] },s.2+1)
 else({ s.1 with line:=s.1.line++[⟨(s.1.book.length:Int),c.1,c.2,false⟩],book:=s.1.book++[⟨"in",s.1.t,none,0⟩] },s.2)
def g7 (pl:Option Nat)(bt:Bt)(s:Mac×Nat):Mac×Nat:=bt.foldl (y8 pl) s
theorem gu {pl:Option Nat}:∀{bt:Bt} {s:Mac×Nat},pnL (g7 pl bt s).1.line=i3 pl (pnL s.1.line) bt/\(g7 pl bt s).2=s.2+(bt.length-k7 pl s.1.line.length bt.length)
 | [],s=>by
  constructor
  .unfold g7 i3;simp
  .unfold g7 k7;simp
 | c::bt,s=>by
  obtain⟨h1,h2⟩:=gu (pl:=pl) (bt:=bt) (s:=y8 pl s c);have e:g7 pl (c::bt) s=g7 pl bt (y8 pl s c):=rfl;rw[e,h1,h2];unfold y8;cases hf:V4 pl s.1.line.length with
  | true =>
   rw[Jk rfl];obtain⟨v,rfl,hv⟩:∃v,pl=some v/\v<=s.1.line.length:=by
    unfold V4 at hf;split at hf
    .cases hf
    .exact⟨_,rfl,JT hf⟩
   constructor
   .unfold i3 k7;rw[w4];have:v-s.1.line.length=0:=by omega
    simp[this]
   .unfold k7;simp only[JB];omega
  | false =>
   rw[Jo (by simp)];constructor
   .unfold i3;have er:k7 pl (pnL s.1.line).length (c::bt).length=k7 pl (pnL (s.1.line++[⟨(s.1.book.length:Int),c.1,c.2,false⟩])).length bt.length+1:=by
     unfold V4 at hf;unfold k7;rw[w4,w4];split
     .rename_i v;have:¬v<=s.1.line.length:=Kj hf;simp only[JB,JX,KE];omega
     .simp
    rw[er,Ml];simp[pnL,gE]
   .unfold V4 at hf;unfold k7;split
    .rename_i v;have:¬v<=s.1.line.length:=Kj hf;simp only[JB,JX,KE];omega
    .simp
theorem Z5 {pl:Option Nat}:∀{bt:Bt} {s:Mac×Nat},(g7 pl bt s).1.h=s.1.h/\(g7 pl bt s).1.c=s.1.c/\(g7 pl bt s).1.u=s.1.u/\(g7 pl bt s).1.t=s.1.t/\(g7 pl bt s).1.book.length=s.1.book.length+bt.length
 | [],s=>⟨rfl,rfl,rfl,rfl,rfl⟩
 | c::bt,s=>by
  obtain⟨h1,h2,h3,h4,h5⟩:=Z5 (pl:=pl) (bt:=bt) (s:=y8 pl s c);have e:g7 pl (c::bt) s=g7 pl bt (y8 pl s c):=rfl;rw[e,h1,h2,h3,h4,h5];unfold y8;split <;> (refine⟨rfl,rfl,rfl,rfl,?_⟩;simp;omega)
end L3
namespace LM
open PySem PySem.Spec PyProof.Rows L2 L3
variable [Fam][LamC]
local instance regO:Feeds:=G4
structure HouseOk (μ:Mac) (h:Nat) (pl:Option Nat) (r:My):Prop where
 hh:μ.h=(h:Int)
 hc:gq μ.c=plD pl
 hr:r = .str μ.u
 w8:r∈W8
def sO (l:List Nat):(j3 l).all isInt=true:=by
 unfold j3;rw[List.all_map,MW];intro x _;rfl
def tO {μ:Mac}{h:Nat}{pl:Option Nat}{r:My}(H:HouseOk μ h pl r)(hl:μ.line.length<64):Gj [] μ=some (.list (j3 ((order (kOf r) true (pnL μ.line)).take h)),μ):=by
 refine lx λd=>?_
 refine i9.2 (X2.2 (nP.2 ?_));unfold fu;rw[H.hh,<-H.hr];refine c6 rfl (h9 ?_);show wp (bu 4 gv [some (.adr d),some (.dat (.int (h:Int))),some (.dat (gq μ.c)),some (.dat r),none,none,none,none,none] μ) _;unfold bu;rw[Jk ⟨h8 rfl,rfl⟩,b8];refine i4 (pj (μ:=μ) (d:=d) (h:=h) (c8:=gq μ.c) H.w8 hl) λds μ1 ⟨e1,e2⟩=>?_
 subst e1 e2;rw[Jk (sO _)];exact b7.2 ⟨rfl,rfl⟩
def GV:List My->Mac->Option (My×Mac):=lF ["_law_m","_law_comers","_law_places","_law_lost","_law_rank","_law_work","_law_is_lost"] (mSq (A8 2 (s2 ixD iu (mE (sC (.int 1)))))
  (mSq (mL 0 (A8 3 (sC (.int 0))))
  (mSq (jL (U3 (sV 1)) (P9 2 (j8 (bN 4) (j8 (bN 5) S7))) (mSq (A8 6 (pF (mE (s2 (isD true) (sW 2) (sC .none))) (s2 geD mQ (mE (sV 2)))))
  (mSq (mIf (mE (zp (uT (sW 6)))) (mB (b9 uD (b9 (mE (sV 4)) (b9 (mE (sV 5)) (b9 (mE (sC (.bool false))) i5))))) mNx)
  (mSq (nC (b9 (mE (s2 ixD (sC (.list [.str "in",.str "lost"])) (sN lT (b9 (sW 6) i5)))) (b9 sAt (b9 (mE (sC .none)) (b9 (mE (sC (.int 0))) i5)))))
  (mL 0 (A8 3 (s2 Z8 (sW 3) (sN lT (b9 (sW 6) i5)))))))))
  (mL 0 (mRt (sV 3))))))
theorem aU (pl:Option Nat):∀(bt:Bt) (s:Mac×Nat),(g7 pl bt s).1.line.length<=s.1.line.length+bt.length
 | [],s=>Jq _
 | c::bt,s=>by
  have:=aU pl bt (y8 pl s c);have e:g7 pl (c::bt) s=g7 pl bt (y8 pl s c):=rfl;rw[e];refine JM this ?_;unfold y8;split
  .simp
  .simp;omega
def yI {μ:Mac}{h:Nat}{pl:Option Nat}{r:My}{bt:Bt}(H:HouseOk μ h pl r)(hl:μ.line.length+bt.length<=1000)(hb:μ.book.length+bt.length<=5000) :
  GV [.tuple (bt.map cmD)] μ=some (.int ((g7 pl bt (μ,0)).2:Nat),(g7 pl bt (μ,0)).1):=by
 refine lx λd=>?_
 refine i9.2 (l7.2 (n9.2 (nP.2 (bT.2 (u7.2 (c6 (z:=plD pl) ?_ ?_))))))
 .unfold fu;rw[H.hc];rfl
 refine⟨h8 rfl,h9 (i9.2 (nS.2 (l7.2 (u7.2 ⟨h8 rfl,oW rfl (h9 ?_)⟩))))⟩;refine i9.2 (qT.2 (D8.2 (l9.2 (l8 rfl (c6 rfl ?_)))));refine J1 (λm E F=>F=(g7 pl (bt.take m) (μ,0)).1/\∃o4 o5 o6,E=[some (.adr d),some (.dat (.tuple (bt.map cmD))),some (.dat (plD pl)),some (.dat (.int ((g7 pl (bt.take m) (μ,0)).2:Nat))),o4,o5,o6]) _ 0 _ μ ⟨rfl,none,none,none,rfl⟩ ?_ ?_
 .rintro m dd e E F ⟨rfl,o4,o5,o6,rfl⟩;rw[JZ];rw[Js]at e;obtain⟨c,ec,rfl⟩:=JJ.1 e;obtain⟨hm,hc⟩:=Jm.1 ec;have es:g7 pl (bt.take (m+1)) (μ,0)=y8 pl (g7 pl (bt.take m) (μ,0)) c:=by
   unfold g7;rw[List.take_succ,ec,MN];rfl
  have hll:(g7 pl (bt.take m) (μ,0)).1.line.length<=1000:=by
   have:=aU pl (bt.take m) (μ,0);rw[Ke]at this;have h2:((μ,0):Mac×Nat).1.line.length = μ.line.length:=rfl;omega
  have hbl:(g7 pl (bt.take m) (μ,0)).1.book.length<=5000:=by
   have:=(Z5 (pl:=pl) (bt:=bt.take m) (s:=(μ,0))).2.2.2.2;rw[Ke]at this;have h2:((μ,0):Mac×Nat).1.book.length = μ.book.length:=rfl;omega
  rw[es];generalize g7 pl (bt.take m) (μ,0)=s at hll hbl;refine⟨_,rfl,?_⟩;have hplaces:wp (pF (mE (s2 (isD true) (sW 2) (sC .none))) (s2 geD mQ (mE (sV 2))) [some (.adr d),some (.dat (.tuple (bt.map cmD))),some (.dat (plD pl)),some (.dat (.int (s.2:Nat))),some (.dat (.int c.1)),some (.dat (.int c.2)),o6] s.1) λx μ1=>x = .bool (V4 pl s.1.line.length) /\ μ1=s.1:=by
   cases pl with
   | none=>exact oH.2 (bT.2 (n9.2 (g9.2 (i6 rfl (u7.2 (c6 rfl (c6 rfl (fI.2 ⟨rfl,rfl⟩))))))))
   | some v =>
    refine oH.2 (bT.2 (n9.2 (g9.2 (i6 rfl (u7.2 (c6 rfl (c6 rfl (fK.2 ?_))))))));refine n9.2 (rA.2 (bT.2 (l9.2 (l8 rfl (c6 rfl ⟨?_,rfl⟩)))));show My.bool _=My.bool _;unfold V4;congr 1;dsimp only;rw[KJ];omega
  refine i9.2 (l7.2 (i4 hplaces λx μ1 ⟨e1,e2⟩=>?_));subst e1 e2;refine⟨h8 rfl,h9 (i9.2 (W2.2 (bT.2 (vR.2 (ui.2 (g9.2 (i6 rfl (c6 rfl ?_))))))))⟩;cases hf:V4 pl s.1.line.length with
  | true =>
   refine fI.2 (bW.2 (h9 ?_));refine i9.2 (vx (a9.2 (bT.2 (n9.2 (u7.2 (E5.2 (a9.2 (g9.2 (i6 rfl (d7.2 (c6 rfl (c6 rfl ?_))))))))))));refine a9.2 (xI.2 (a9.2 (bT.2 (u7.2 (a9.2 (bT.2 (u7.2 (d7.2 ⟨_,rfl,by omega,h9 ?_⟩))))))));refine nS.2 (l7.2 (n9.2 (g9.2 (i6 rfl (E5.2 (a9.2 (g9.2 (i6 rfl (d7.2 (c6 rfl (c6 rfl ⟨h8 rfl,oW rfl ⟨_,rfl,by unfold y8;rw[Jk hf],_,_,_,by unfold y8;rw[Jk hf];rfl⟩⟩)))))))))))
  | false =>
   refine fK.2 (AX (a9.2 (zh.2 (a9.2 (bT.2 (l9.2 (l8 rfl (a9.2 (bT.2 (l9.2 (l8 rfl (a9.2 (bT.2 (u7.2 (d7.2 ⟨_,rfl,by omega,h9 ?_⟩)))))))))))))));refine i9.2 (vx (a9.2 (bT.2 (n9.2 (u7.2 (E5.2 (a9.2 (g9.2 (i6 rfl (d7.2 (c6 rfl (c6 rfl ?_))))))))))));refine a9.2 (xI.2 (a9.2 (bT.2 (u7.2 (a9.2 (bT.2 (u7.2 (d7.2 ⟨_,rfl,by show s.1.book.length<=10000;omega,h9 ?_⟩))))))));refine nS.2 (l7.2 (n9.2 (g9.2 (i6 rfl (E5.2 (a9.2 (g9.2 (i6 rfl (d7.2 (c6 rfl (c6 rfl ⟨h8 rfl,oW rfl ⟨_,rfl,by unfold y8;rw[Jo (show ¬V4 pl s.1.line.length=true by rw[hf];simp)],_,_,_,by unfold y8;rw[Jo (show ¬V4 pl s.1.line.length=true by rw[hf];simp)];rfl⟩⟩)))))))))))
 .rintro E F ⟨rfl,o4,o5,o6,rfl⟩;rw[JZ,Jf,LK];refine h9 (nS.2 (aT.2 (l9.2 (l8 rfl (EM ⟨rfl,rfl⟩)))))
end LM
namespace L3
open PySem PySem.Spec PyProof.Rows L2
variable [Fam]
def J4 (h k:Nat)(ps:List Pn)(i:Nat):Bool:=decide (i∈(order k true ps).take h)
def fm {h k:Nat}{kp:Bool}{ps:List Pn}{i:Nat}(hi:i<ps.length)(hb:kp=false->∀p∈ps,p.2.2=false):J4 h k ps i=decide (i∈j5 h k kp ps):=by
 have e:j5 h k kp ps=j5 h k true ps:=by
  cases kp with
  | true=>rfl
  | false=>exact(mr (hb rfl)).symm
 rw[e];unfold J4 j5;rw[KJ,JP,Lg];exact⟨λz=>⟨JN.2 hi,z⟩,λz=>z.2⟩
def R6 {l:List Nat}{p q:Nat->Bool}(h:∀i∈l,p i=q i):l.filter p=l.filter q:=MM h
def jI {h k:Nat}{kp tn:Bool}{line:List Per}(hb:kp=false->∀p∈line,p.b=false) :
  (List.filter (λi=>!gnP (J4 h k (pnL line)) line i && !(J4 h k (pnL line) i&&tn)) (List.range line.length)++List.filter (λi=>!gnP (J4 h k (pnL line)) line i&&(J4 h k (pnL line) i&&tn)) (List.range line.length))=B5 tn (j5 h k kp (pnL line)) (pnL line):=by
 have hb':kp=false->∀p∈pnL line,p.2.2=false:=λz p hp=>by
  obtain⟨q,hq,rfl⟩:=JS.1 hp;exact hb z q hq
 have pk:∀i∈List.range line.length,J4 h k (pnL line) i=decide (i∈j5 h k kp (pnL line)):=λi hi=>fm (by rw[w4];exact JN.1 hi) hb'
 have gn:∀i∈List.range line.length,gnP (J4 h k (pnL line)) line i=T6 (j5 h k kp (pnL line)) (pnL line) i:=λi hi=>by
  unfold gnP T6;rw[pk i hi,dI (JN.1 hi)];rfl
 unfold B5;cases tn with
 | false =>
  rw[Jo (by simp)];have e2:List.filter (λi=>!gnP (J4 h k (pnL line)) line i&&(J4 h k (pnL line) i&&false)) (List.range line.length)=[]:=by
   rw[List.filter_eq_nil_iff];intro i _;simp
  rw[e2,Kg,w4];exact R6 λi hi=>by rw[gn i hi];simp
 | true =>
  rw[Jk rfl];unfold Z4 N7;congr 1
  .rw[w4];refine R6 λi hi=>?_
   rw[gn i hi,pk i hi];unfold T6;cases decide (i∈j5 h k kp (pnL line)) <;> simp
  .have ep:j5 h k kp (pnL line)=(List.range line.length).filter λi=>decide (i∈j5 h k kp (pnL line)):=by
    conv=>lhs;unfold j5
    rw[w4];refine R6 λi hi=>?_
    unfold j5;rw[KJ,JP,Lg,w4];exact⟨λz=>⟨hi,z⟩,λz=>z.2⟩
   have e3:List.filter (λi=>!decide ((pAt (pnL line) i).2.1<=1)) (j5 h k kp (pnL line))=List.filter (λi=>!decide ((pAt (pnL line) i).2.1<=1)) ((List.range line.length).filter λi=>decide (i∈j5 h k kp (pnL line))):=by rw[<-ep]
   rw[e3,List.filter_filter];refine R6 λi hi=>?_
   rw[gn i hi,pk i hi];unfold T6;cases decide (i∈j5 h k kp (pnL line)) <;> simp
def xY {h k:Nat}{kp tn:Bool}{line:List Per}(hb:kp=false->∀p∈line,p.b=false) :
  pnL (aj (J4 h k (pnL line)) kp tn line line.length++au (J4 h k (pnL line)) kp tn line line.length)=after h k kp tn (pnL line):=by
 have hb':kp=false->∀p∈pnL line,p.2.2=false:=λz p hp=>by
  obtain⟨q,hq,rfl⟩:=JS.1 hp;exact hb z q hq
 have pk:∀i∈List.range line.length,J4 h k (pnL line) i=decide (i∈j5 h k kp (pnL line)):=λi hi=>fm (by rw[w4];exact JN.1 hi) hb'
 have th:∀i∈List.range line.length,gE (thP (J4 h k (pnL line)) kp line i)=P4 (j5 h k kp (pnL line)) kp (pnL line) i:=λi hi=>by
  unfold thP P4 fe;rw[pk i hi,dI (JN.1 hi)];by_cases z:i∈j5 h k kp (pnL line)
  .simp[z,gE]
  .simp[z]
 unfold aj au after;rw[<-JE];show List.map gE _=_;rw[JF];show List.map (gE ∘ thP (J4 h k (pnL line)) kp line) _=List.map (P4 (j5 h k kp (pnL line)) kp (pnL line)) (B5 tn (j5 h k kp (pnL line)) (pnL line));rw[jI hb];refine JU λi hi=>th i ?_
 have:=(aS (tn:=tn) (P:=j5 h k kp (pnL line)) (ps:=pnL line) Q9 F9).mem_iff.mp hi;unfold B5 at this;rw[Jo (by simp),w4]at this;exact(JP.1 this).1
def T8 (h:Nat)(pl:Option Nat)(r:My)(μ:Mac)(bt:Bt):Mac:=fO (J4 h (kOf r) (pnL (g7 pl bt (μ,0)).1.line)) (kb r) (tnB r) (g7 pl bt (μ,0)).1
def bh (kp:Bool)(line:List Per)(n:Nat):Prop:=∀p∈line,0<=p.n/\p.n<(n:Int)/\1<=p.l/\(kp=false->p.b=false)
def bh.num {kp:Bool}{line:List Per}{book:List Row}(h:bh kp line book.length):rV line book:=λi hi=>by
 have:l5 line i∈line:=by
  unfold l5;simp[hi]
 obtain⟨a,b,c,_⟩:=h _ this;exact⟨a,b,c⟩
theorem dq {kp:Bool}{pl:Option Nat}:∀{bt:Bt} {s:Mac×Nat},bh kp s.1.line s.1.book.length->(∀c∈bt,1<=c.2)->bh kp (g7 pl bt s).1.line (g7 pl bt s).1.book.length
 | [],s,h,_=>h
 | c::bt,s,h,hc=>by
  refine dq (bt:=bt) (s:=y8 pl s c) ?_ λx hx=>hc x (Jh _ hx)
  unfold y8;split
  .intro p hp;obtain⟨a,b,c,d⟩:=h p hp;exact⟨a,by simp;omega,c,d⟩
  .intro p hp;rcases Jj.1 hp with hp | hp
   .obtain⟨a,b,c,d⟩:=h p hp;exact⟨a,by simp;omega,c,d⟩
   .simp at hp;subst hp;exact⟨by simp,by simp;omega,hc c Jv,λ_=>rfl⟩
def sJ {line:List Per}{i:Nat}(h:i<line.length):l5 line i∈line:=by unfold l5;simp[h]
def yK {P:Nat->Bool}{kp tn:Bool}{μ:Mac}(h:bh kp μ.line μ.book.length):bh kp (fO P kp tn μ).line (fO P kp tn μ).book.length:=by
 unfold fO;dsimp only;rw[S5];have key:∀i,i < μ.line.length->gnP P μ.line i=false->(0<=(thP P kp μ.line i).n/\(thP P kp μ.line i).n<(μ.book.length:Int)/\1<=(thP P kp μ.line i).l/\(kp=false->(thP P kp μ.line i).b=false)):=λi hi hg=>by
  obtain⟨a,b,c,d⟩:=h _ (sJ hi);unfold thP;unfold gnP at hg;cases hp:P i with
  | false=>rw[Jo (by simp)];exact⟨a,b,c,d⟩
  | true =>
   rw[Jk rfl];rw[hp]at hg;have:¬(l5 μ.line i).l<=1:=by simpa using hg
   exact⟨a,b,by show 1<=(l5 μ.line i).l-1;omega,λz=>z⟩
 intro p hp;rcases Jj.1 hp with hp | hp
 .obtain⟨i,hi,rfl⟩:=JS.1 hp;obtain⟨h1,h2⟩:=JP.1 hi;exact key i (JN.1 h1) (by simp at h2;simpa using h2.1)
 .obtain⟨i,hi,rfl⟩:=JS.1 hp;obtain⟨h1,h2⟩:=JP.1 hi;exact key i (JN.1 h1) (by simp at h2;simpa using h2.1)
def rB {h:Nat}{pl:Option Nat}{r:My}{μ:Mac}{bt:Bt}(hk:bh (kb r) μ.line μ.book.length)(hc:∀c∈bt,1<=c.2):pnL (T8 h pl r μ bt).line=C1 h (kOf r) (kb r) (tnB r) pl (pnL μ.line) bt:=by
 have ok:=dq (kp:=kb r) (pl:=pl) (s:=(μ,0)) hk hc;unfold T8 fO C1;dsimp only;rw[xY λz p hp=>(ok p hp).2.2.2 z,(gu (pl:=pl) (bt:=bt) (s:=(μ,0))).1]
def yG {h:Nat}{pl:Option Nat}{r:My}{μ:Mac}{bt:Bt}(hk:bh (kb r) μ.line μ.book.length)(hc:∀c∈bt,1<=c.2):bh (kb r) (T8 h pl r μ bt).line (T8 h pl r μ bt).book.length:=yK (dq (s:=(μ,0)) hk hc)
def jC {h:Nat}{pl:Option Nat}{r:My}{μ:Mac}{bt:Bt}:(T8 h pl r μ bt).book.length = μ.book.length+bt.length/\(T8 h pl r μ bt).t = μ.t+1/\(T8 h pl r μ bt).h = μ.h/\(T8 h pl r μ bt).c = μ.c/\(T8 h pl r μ bt).u = μ.u:=by
 obtain⟨h1,h2,h3,h4,h5⟩:=Z5 (pl:=pl) (bt:=bt) (s:=(μ,0));unfold T8 fO;dsimp only;rw[S5];exact⟨h5,by rw[h4],h1,h2,h3⟩
end L3
namespace LM
open PySem PySem.Spec PyProof.Rows L2 L3
variable [Fam][LamC]
local instance regQ:Feeds:=G4
def Ge:List My->Mac->Option (My×Mac):=lF ["_law_m","_law_comers","_law_lost","_law_some","_law_stay","_law_turned","_law_gone","_law_place","_law_person","_law_row"] (mSq (A8 2 (cy GV (b9 (mE (sV 1)) i5))) (mSq (A8 3 (cy Gj i5)) rl))
def qp (h:Nat)(pl:Option Nat)(r:My)(μ:Mac)(bt:Bt):List Int:=ee (J4 h (kOf r) (pnL (g7 pl bt (μ,0)).1.line)) (g7 pl bt (μ,0)).1.line (g7 pl bt (μ,0)).1.line.length
def HouseOk.come {μ:Mac}{h:Nat}{pl:Option Nat}{r:My}(H:HouseOk μ h pl r){bt:Bt}:HouseOk (g7 pl bt (μ,0)).1 h pl r:=by
 obtain⟨h1,h2,h3,h4,h5⟩:=Z5 (pl:=pl) (bt:=bt) (s:=(μ,0));exact⟨h1.trans H.hh,(Kk gq h2).trans H.hc,H.hr.trans (by rw[h3]),H.w8⟩
def HouseOk.beat {μ:Mac}{h:Nat}{pl:Option Nat}{r:My}(H:HouseOk μ h pl r){bt:Bt}:HouseOk (T8 h pl r μ bt) h pl r:=by
 obtain⟨_,_,h1,h2,h3⟩:=jC (h:=h) (pl:=pl) (r:=r) (μ:=μ) (bt:=bt);exact⟨h1.trans H.hh,(Kk gq h2).trans H.hc,H.hr.trans (by rw[h3]),H.w8⟩
def yT {μ:Mac}{h:Nat}{pl:Option Nat}{r:My}{bt:Bt}(H:HouseOk μ h pl r)(hl:μ.line.length+bt.length<64)(hb:μ.book.length+bt.length<=5000)(hk:bh (kb r) μ.line μ.book.length)(hc:∀c∈bt,1<=c.2) :
  Ge [.tuple (bt.map cmD)] μ=some (.tuple [.int (aw pl (pnL μ.line) bt:Nat),.list ((qp h pl r μ bt).map My.int)],T8 h pl r μ bt):=by
 refine lx λd=>?_
 have hlen:=aU pl bt (μ,0);have h2:((μ,0):Mac×Nat).1.line.length = μ.line.length:=rfl;have H1:=H.come (bt:=bt);have ok:=dq (kp:=kb r) (pl:=pl) (s:=(μ,0)) hk hc;have hlost:(g7 pl bt (μ,0)).2=aw pl (pnL μ.line) bt:=by
  rw[(gu (pl:=pl) (bt:=bt) (s:=(μ,0))).2];unfold aw;rw[w4];simp
 refine i9.2 (l7.2 (gL.2 (a9.2 (bT.2 (l9.2 (l8 rfl (d7.2 ?_)))))));rw[yI H (by omega) hb];refine b7.2 ⟨h8 rfl,h9 ?_⟩;refine i9.2 (l7.2 (gL.2 (d7.2 ?_)));rw[tO H1 (by omega)];refine b7.2 ⟨h8 rfl,h9 ?_⟩;show wp (rl [some (.adr d),some (.dat (.tuple (bt.map cmD))),some (.dat (.int ((g7 pl bt (μ,0)).2:Nat))),some (.dat (.list (j3 ((order (kOf r) true (pnL (g7 pl bt (μ,0)).1.line)).take h)))),none,none,none,none,none,none] (g7 pl bt (μ,0)).1) _;unfold rl;show wp (if (10:Nat)=10 then(ot (.list (j3 ((order (kOf r) true (pnL (g7 pl bt (μ,0)).1.line)).take h))) (g7 pl bt (μ,0)).1).bind _ else none) _;rw[Jk rfl];have hkd:je (g7 pl bt (μ,0)).1.u=some (kb r):=by
  unfold je nN;rw[<-H1.hr];obtain⟨x,e,hx⟩:=Q7 H1.w8;rw[e,in4 hx];rfl
 have htn:decide ((g7 pl bt (μ,0)).1.u = "turns")=tnB r:=by rw[H1.hr];rfl
 have hin:∀i<(g7 pl bt (μ,0)).1.line.length,inB (.list (j3 ((order (kOf r) true (pnL (g7 pl bt (μ,0)).1.line)).take h))) i=some (J4 h (kOf r) (pnL (g7 pl bt (μ,0)).1.line) i):=λi hi=>by
  unfold inB;rw[km λj hj=>?_]
  .rfl
  .have:=JN.1 ((w6 _ _ _).mem_iff.mp (Lo hj));rw[w4]at this;omega
 rw[zi (by omega) hkd ok.num hin,htn];refine b7.2 ⟨rfl,?_⟩;show some (My.tuple [.int ((g7 pl bt (μ,0)).2:Nat),_])=_;rw[hlost];rfl
end LM
namespace L3
open PySem PySem.Spec PyProof.Rows L2
variable [Fam]
def G8 (h:Nat)(pl:Option Nat)(r:My)(μ:Mac)(way:List Bt)(i:Nat):Mac:=(way.take i).foldl (T8 h pl r) μ
def ai {h:Nat}{pl:Option Nat}{r:My}{μ:Mac}{way:List Bt}:G8 h pl r μ way 0 = μ:=rfl
def P8 {h:Nat}{pl:Option Nat}{r:My}{μ:Mac}{way:List Bt}{i:Nat}(hi:i<way.length):G8 h pl r μ way (i+1)=T8 h pl r (G8 h pl r μ way i) (f7 way i):=by
 unfold G8 f7;rw[List.take_succ,Ji hi,MN];simp[hi]
def dH {way:List Bt}(hw:∀b∈way,∀c∈b,1<=c.2){i:Nat}(hi:i<way.length):∀c∈f7 way i,1<=c.2:=by
 have:f7 way i∈way:=by unfold f7;simp[hi]
 exact hw _ this
theorem dC {h:Nat}{pl:Option Nat}{r:My}{μ:Mac}{way:List Bt}(hw:∀b∈way,∀c∈b,1<=c.2)(hk:bh (kb r) μ.line μ.book.length):∀{i:Nat},i<=way.length->bh (kb r) (G8 h pl r μ way i).line (G8 h pl r μ way i).book.length
 | 0,_=>hk
 | i+1,hi=>by
  rw[P8 (by omega)];exact yG (dC hw hk (by omega)) (dH hw (by omega))
theorem dM {h:Nat}{pl:Option Nat}{r:My}{μ:Mac}{way:List Bt}(hw:∀b∈way,∀c∈b,1<=c.2)(hk:bh (kb r) μ.line μ.book.length):∀{i:Nat},i<=way.length->pnL (G8 h pl r μ way i).line=P3 (C1 h (kOf r) (kb r) (tnB r) pl) (pnL μ.line) way i
 | 0,_=>by rw[U5];rfl
 | i+1,hi=>by
  rw[P8 (by omega),rB (dC hw hk (by omega)) (dH hw (by omega)),dM hw hk (by omega),Y2 (by omega)]
theorem cn {h:Nat}{pl:Option Nat}{r:My}{μ:Mac}{way:List Bt}:∀{i:Nat},i<=way.length->(G8 h pl r μ way i).book.length = μ.book.length+C0 (way.take i)/\(G8 h pl r μ way i).t = μ.t+i
 | 0,_=>by constructor <;> simp[G8,C0]
 | i+1,hi=>by
  obtain⟨h1,h2⟩:=cn (h:=h) (pl:=pl) (r:=r) (μ:=μ) (way:=way) (i:=i) (by omega);obtain⟨b1,b2,_⟩:=jC (h:=h) (pl:=pl) (r:=r) (μ:=G8 h pl r μ way i) (bt:=f7 way i);rw[P8 (by omega),b1,b2,h1,h2,N8 (by omega)];constructor
  .omega
  .push_cast;omega
end L3
namespace LM
open PySem PySem.Spec PyProof.Rows L2 L3
section
variable [Fam][LamC]
local instance regR:Feeds:=G4
theorem fH {h:Nat}{pl:Option Nat}{r:My}{μ:Mac}{way:List Bt}(H:HouseOk μ h pl r):∀{i:Nat},i<=way.length->HouseOk (G8 h pl r μ way i) h pl r
 | 0,_=>H
 | i+1,hi=>by rw[P8 (by omega)];exact(fH H (by omega)).beat
def xQ {h:Nat}{pl:Option Nat}{r:My}{μ:Mac}{way:List Bt}{i:Nat}(H:HouseOk μ h pl r)(hw:∀b∈way,∀c∈b,1<=c.2)(hk:bh (kb r) μ.line μ.book.length)(hl:μ.line.length+C0 way<64)(hb:μ.book.length<=4000)(hi:i<way.length) :
  Ge [btD (f7 way i)] (G8 h pl r μ way i)=some (.tuple [.int (aw pl (P3 (C1 h (kOf r) (kb r) (tnB r) pl) (pnL μ.line) way i) (f7 way i):Nat),.list ((qp h pl r (G8 h pl r μ way i) (f7 way i)).map My.int)],G8 h pl r μ way (i+1)):=by
 have ep:=dM (h:=h) (pl:=pl) hw hk (KA hi);have hfit:=bg (h:=h) (k:=kOf r) (kp:=kb r) (tn:=tnB r) (pl:=pl) (ps:=pnL μ.line) (way:=way) (by rw[w4];exact hl) (i:=i) hi;have elen:(G8 h pl r μ way i).line.length=(P3 (C1 h (kOf r) (kb r) (tnB r) pl) (pnL μ.line) way i).length:=by rw[<-ep,w4]
 obtain⟨hbk,_⟩:=cn (h:=h) (pl:=pl) (r:=r) (μ:=μ) (way:=way) (KA hi);have hle:C0 (way.take i)+(f7 way i).length<=C0 way:=by
  rw[<-N8 hi];exact lg way (i+1)
 rw[P8 hi,<-ep];exact yT (fH H (KA hi)) (by rw[elen];exact hfit) (by omega) (dC hw hk (KA hi)) (dH hw hi)
end
section
variable [Fam][LamC]
local instance regS:Feeds:=G4
def cI (pl:Option Nat):Option Int:=pl.map λv=>(v:Int)
def ya (pl:Option Nat):gq (cI pl)=plD pl:=by cases pl <;> rfl
def uZ {h:Nat}{pl:Option Nat}{x:Str}:bE (.tuple [.int (h:Int),plD pl,.str x])=some ⟨(h:Int),cI pl,x,[],[],0⟩:=by cases pl <;> rfl
end
end LM
namespace L3
open PySem PySem.Spec PyProof.Rows L2
variable [Fam]
abbrev V9 (h:Nat)(pl:Option Nat)(r:My)(way:List Bt):Nat->Bool:=λi=>decide ((P3 (C1 h (kOf r) (kb r) (tnB r) pl) [] way i).length=0)
end L3
namespace LM
open PySem PySem.Spec PyProof.Rows L2 L3
variable [Fam][LamC]
local instance regT:Feeds:=G4
abbrev aF (h:Nat)(pl:Option Nat)(x:Str):Mac:=⟨(h:Int),cI pl,x,[],[],0⟩
def kF {h:Nat}{pl:Option Nat}{x:Str}{kp:Bool}:bh kp (aF h pl x).line (aF h pl x).book.length:=λp hp=>by cases hp
def oZ {h:Nat}{pl:Option Nat}{x:Str}(hr:My.str x∈W8):HouseOk (aF h pl x) h pl (.str x):=⟨rfl,ya pl,rfl,hr⟩
def wd {h:Nat}{pl:Option Nat}{x:Str}{way:List Bt}{i:Nat}(hw:∀b∈way,∀c∈b,1<=c.2)(hi:i<=way.length):(G8 h pl (.str x) (aF h pl x) way i).line.isEmpty=V9 h pl (.str x) way i:=by
 have e:=dM (h:=h) (pl:=pl) (r:=.str x) (μ:=aF h pl x) hw kF hi;have e2:=Kk List.length e;rw[w4]at e2;have e3:(pnL (aF h pl x).line)=[]:=rfl;rw[e3]at e2;show _=decide ((P3 (C1 h (kOf (.str x)) (kb (.str x)) (tnB (.str x)) pl) [] way i).length=0);rw[<-e2];cases(G8 h pl (.str x) (aF h pl x) way i).line <;> simp
def CM {h:Nat}{pl:Option Nat}{x:Str}{way:List Bt}{i:Nat}(hi:i<=way.length):(G8 h pl (.str x) (aF h pl x) way i).t=(i:Int):=by
 have:=(cn (h:=h) (pl:=pl) (r:=.str x) (μ:=aF h pl x) hi).2;rw[this];show(0:Int)+i=i;omega
def Dm {h:Nat}{pl:Option Nat}{x:Str}{way:List Bt}{i:Nat}(hr:My.str x∈W8)(hw:∀b∈way,∀c∈b,1<=c.2)(hl:C0 way<64)(hi:i<way.length) :
  Ge [btD (f7 way i)] (G8 h pl (.str x) (aF h pl x) way i)=some (.tuple [.int (aw pl (P3 (C1 h (kOf (.str x)) (kb (.str x)) (tnB (.str x)) pl) [] way i) (f7 way i):Nat),.list ((qp h pl (.str x) (G8 h pl (.str x) (aF h pl x) way i) (f7 way i)).map My.int)],G8 h pl (.str x) (aF h pl x) way (i+1)) :=
 xQ (μ:=aF h pl x) (oZ hr) hw kF (by show 0+C0 way<64;omega) (by show 0<=4000;omega) hi
end LM
namespace L3
open PySem PySem.Spec PyProof.Rows L2
inductive Co where
 | inn (b w:Nat)
 | lost (b:Nat)
 | gone (b m w:Nat)
def coD:Co->My
 | .inn b w=>.tuple [.str "in",.int (b:Int),.int (w:Int)]
 | .lost b=>.tuple [.str "lost",.int (b:Int)]
 | .gone b m w=>.tuple [.str "gone",.int (b:Int),.int (m:Int),.int (w:Int)]
def aft (t:Nat)(waited gone:Bool):Co->Co
 | .inn b w=>if gone=true then .gone b (t+1) w else .inn b (w+if waited then 1 else 0)
 | c=>c
structure CS where
 told:List Co
 ins:List Nat
 st:List Pn
section
variable (h k:Nat)(kp tn:Bool)(pl:Option Nat)
def x9 (bt:Bt)(s:CS):List Nat:=s.ins++(List.range (k7 pl s.st.length bt.length)).map (s.told.length + ·)
def y9 (t:Nat)(bt:Bt)(s:CS):List Co:=s.told++(List.replicate (k7 pl s.st.length bt.length) (.inn t 0)++List.replicate (bt.length-k7 pl s.st.length bt.length) (.lost t))
def U9 (bt:Bt)(s:CS):List Nat:=j5 h k kp (i3 pl s.st bt)
def mn (t:Nat)(bt:Bt)(s:CS)(n:Nat):Co:=aft t (!decide ((x9 pl bt s).idxOf n∈U9 h k kp pl bt s)) (decide ((x9 pl bt s).idxOf n∈N2 (U9 h k kp pl bt s) (i3 pl s.st bt))) ((y9 pl t bt s).getD n (.lost 0))
def T4 (t:Nat)(bt:Bt)(s:CS):CS where
 told:=(List.range (y9 pl t bt s).length).map λn=>if n∈x9 pl bt s then mn h k kp pl t bt s n else(y9 pl t bt s).getD n (.lost 0)
 ins:=(B5 tn (U9 h k kp pl bt s) (i3 pl s.st bt)).map λi=>(x9 pl bt s).getD i 0
 st:=after h k kp tn (i3 pl s.st bt)
def M8 (way:List Bt):Nat->CS
 | 0=>⟨[],[],[]⟩
 | m+1=>T4 h k kp tn pl m (f7 way m) (M8 way m)
end
structure CsOk (s:CS):Prop where
 nd:s.ins.Nodup
 lt:∀n∈s.ins,n<s.told.length
 inn:∀n∈s.ins,∃b w,s.told.getD n (.lost 0) = .inn b w
 len:s.ins.length=s.st.length
section
variable {h k:Nat}{kp tn:Bool}{pl:Option Nat}{t:Nat}{bt:Bt}{s:CS}
def bP (pl:Option Nat)(n m:Nat):k7 pl n m<=m:=by unfold k7;split <;> omega
def cq:(y9 pl t bt s).length=s.told.length+bt.length:=by
 unfold y9;simp only[JX,KG];have:=bP pl s.st.length bt.length;omega
def fg (o:CsOk s):(x9 pl bt s).length=(i3 pl s.st bt).length:=by
 unfold x9;rw[V2,JX,Jf,JD,o.len]
def gX (o:CsOk s):(x9 pl bt s).Nodup:=by
 unfold x9;rw[KO];refine⟨o.nd,?_,λa ha b hb e=>?_⟩
 .rw[Kq,KW];exact(Kq.1 (J8 _)).imp λhne z=>hne (by omega)
 .obtain⟨j,hj,rfl⟩:=JS.1 hb;have:=o.lt a ha;omega
def iz (o:CsOk s):∀n∈x9 pl bt s,n<(y9 pl t bt s).length:=λn hn=>by
 rw[cq];rcases Jj.1 hn with hn | hn
 .have:=o.lt n hn;omega
 .obtain⟨j,hj,rfl⟩:=JS.1 hn;have:=JN.1 hj;have:=bP pl s.st.length bt.length;omega
def fD (o:CsOk s):∀n∈x9 pl bt s,∃b w,(y9 pl t bt s).getD n (.lost 0) = .inn b w:=λn hn=>by
 rcases Jj.1 hn with hn | hn
 .obtain⟨b,w,e⟩:=o.inn n hn;refine⟨b,w,?_⟩;unfold y9;rw[Jr,JL (o.lt n hn),<-Jr];exact e
 .obtain⟨j,hj,rfl⟩:=JS.1 hn;have hj:=JN.1 hj;refine⟨t,0,?_⟩;unfold y9;rw[Jr,JR (by omega),JL (by rw[KG];omega),Ki,Jk (by omega)];rfl
def gJ {l:List Nat}(hn:l.Nodup){i:Nat}(hi:i<l.length):l.idxOf l[i]=i:=hn.idxOf_getElem i hi
def aa {l:List Nat}{i:Nat}(hi:i<l.length):l.getD i 0=l[i]:=by rw[Jr,Ji hi];rfl
def cH:∀i∈U9 h k kp pl bt s,i<(i3 pl s.st bt).length:=Q9
def ux (o:CsOk s):CsOk (T4 h k kp tn pl t bt s):=by
 have hnd:=gX (pl:=pl) (bt:=bt) o;have hlen:=fg (pl:=pl) (bt:=bt) o;have hst:∀i∈B5 tn (U9 h k kp pl bt s) (i3 pl s.st bt),i<(x9 pl bt s).length/\T6 (U9 h k kp pl bt s) (i3 pl s.st bt) i=false:=λi hi=>by
  have:=gP (tn:=tn) cH F9 hi;rw[hlen];exact this
 have key:∀i∈B5 tn (U9 h k kp pl bt s) (i3 pl s.st bt),∃b w,(T4 h k kp tn pl t bt s).told.getD ((x9 pl bt s).getD i 0) (.lost 0) = .inn b w/\(x9 pl bt s).getD i 0<(T4 h k kp tn pl t bt s).told.length:=λi hi=>by
  obtain⟨h1,h2⟩:=hst i hi;have hm:=Mi h1;have hlt:=iz (pl:=pl) (t:=t) (bt:=bt) o _ hm;obtain⟨b,w,e⟩:=fD (pl:=pl) (t:=t) (bt:=bt) o _ hm;rw[aa h1];have hl2:(x9 pl bt s)[i]<(T4 h k kp tn pl t bt s).told.length:=by
   show _<(List.map _ (List.range _)).length;rw[Jf,JD];exact hlt
  have e2:(T4 h k kp tn pl t bt s).told.getD (x9 pl bt s)[i] (.lost 0)=mn h k kp pl t bt s (x9 pl bt s)[i]:=by
   show(List.map _ (List.range _)).getD _ _=_;rw[Jr,Js,Ji (by rw[JD];exact hlt)];simp only[LA,LD,Option.getD_some];rw[Jk hm]
  have hg:¬i∈N2 (U9 h k kp pl bt s) (i3 pl s.st bt):=λz=>by
   have z:=JP.1 z;unfold T6 at h2;rw[Kn z.1,z.2]at h2;cases h2
  rw[e2];unfold mn;rw[e,gJ hnd h1,JY hg];exact⟨b,_,rfl,hl2⟩
 have hsnd:(B5 tn (U9 h k kp pl bt s) (i3 pl s.st bt)).Nodup:=by
  refine(aS (tn:=tn) cH F9).nodup_iff.mpr ?_;unfold B5;rw[Jo (by simp)];exact(J8 _).sublist La
 refine⟨?_,λn hn=>?_,λn hn=>?_,?_⟩
 .show(List.map _ _).Nodup;rw[Kq,KW];refine(Kq.1 hsnd).imp_of_mem λ{a b} ha hb hne z=>hne ?_
  have h1:=(hst a ha).1;have h2:=(hst b hb).1;rw[aa h1,aa h2]at z;rw[<-gJ hnd h1,<-gJ hnd h2,z]
 .obtain⟨i,hi,rfl⟩:=JS.1 hn;obtain⟨b,w,_,h2⟩:=key i hi;exact h2
 .obtain⟨i,hi,rfl⟩:=JS.1 hn;obtain⟨b,w,h1,_⟩:=key i hi;exact⟨b,w,h1⟩
 .show(List.map _ _).length=(after h k kp tn (i3 pl s.st bt)).length;unfold after;rw[Jf,Jf];rfl
theorem lQ {way:List Bt}:∀m,CsOk (M8 h k kp tn pl way m)
 | 0=>⟨.nil,λn hn=>(by cases hn),λn hn=>(by cases hn),rfl⟩
 | m+1=>ux (lQ m)
theorem dm {way:List Bt}:∀{m:Nat},m<=way.length->(M8 h k kp tn pl way m).st=P3 (C1 h k kp tn pl) [] way m
 | 0,_=>by rw[U5];rfl
 | m+1,hm=>by
  rw[Y2 (by omega),<-dm (m:=m) (by omega)];rfl
theorem aM {way:List Bt}:∀{m:Nat},m<=way.length->(M8 h k kp tn pl way m).told.length=C0 (way.take m)
 | 0,_=>rfl
 | m+1,hm=>by
  show(List.map _ (List.range _)).length=_;rw[Jf,JD,cq,aM (m:=m) (by omega),N8 (by omega)]
end
end L3
namespace LM
open PySem PySem.Spec PyProof.Rows L2 L3
variable [Fam]
def rowOf:Co->L3.Row
 | .inn b w=>⟨"in",(b:Int),none,(w:Int)⟩
 | .lost b=>⟨"lost",(b:Int),none,0⟩
 | .gone b m w=>⟨"gone",(b:Int),some (m:Int),(w:Int)⟩
def nsL (line:List Per):List Int:=line.map (·.n)
def jk (l:List Nat):List Int:=l.map λ(n:Nat)=>(n:Int)
structure CsM (s:CS) (μ:Mac) (t:Nat):Prop where
 n:nsL μ.line=jk s.ins
 p:pnL μ.line=s.st
 b:μ.book=s.told.map rowOf
 t:μ.t=(t:Int)
def xZ {pl:Option Nat}{n m:Nat}(h:V4 pl n=false):k7 pl n (m+1)=k7 pl (n+1) m+1:=by
 unfold V4 at h;unfold k7;split
 .rename_i v;have:¬v<=n:=Kj h;omega
 .rfl
def nU {pl:Option Nat}{n m:Nat}(h:V4 pl n=true):k7 pl n m=0:=by
 unfold V4 at h;unfold k7;split
 .rename_i v;have:v<=n:=JT h;omega
 .cases h
def qW {pl:Option Nat}:∀{bt:Bt} {s:Mac×Nat},
  nsL (g7 pl bt s).1.line=nsL s.1.line++(List.range (k7 pl s.1.line.length bt.length)).map (λ(j:Nat)=>((s.1.book.length+j:Nat):Int)) /\
  (g7 pl bt s).1.book=s.1.book++(List.replicate (k7 pl s.1.line.length bt.length) ⟨"in",s.1.t,none,0⟩++List.replicate (bt.length-k7 pl s.1.line.length bt.length) ⟨"lost",s.1.t,none,0⟩)
 | [],s=>by
  have:k7 pl s.1.line.length 0=0:=by have:=bP pl s.1.line.length 0;omega
  constructor
  .show nsL s.1.line=nsL s.1.line++(List.range (k7 pl s.1.line.length 0)).map _;rw[this];simp
  .show s.1.book=s.1.book++(List.replicate (k7 pl s.1.line.length 0) _++List.replicate (0-k7 pl s.1.line.length 0) _);rw[this];simp
 | c::bt,s=>by
  obtain⟨h1,h2⟩:=qW (pl:=pl) (bt:=bt) (s:=y8 pl s c);have e:g7 pl (c::bt) s=g7 pl bt (y8 pl s c):=rfl;rw[e,h1,h2];unfold y8;cases hf:V4 pl s.1.line.length with
  | true =>
   rw[Jk rfl,JB,nU hf,nU hf];refine⟨by simp,?_⟩;simp only[List.replicate_zero,Ku,NF,MK];rw[Kd];rfl
  | false =>
   rw[Jo (by simp),JB,xZ hf];simp only[JX,JB,KE,JZ];constructor
   .unfold nsL;rw[JE,MK,LX];congr 1;rw[Jy,Jy,Kl,List.singleton_append,JF];congr 1;refine JU λj _=>?_
    show((_:Nat):Int)=((_:Nat):Int);simp only[Mm];omega
   .rw[MK];congr 1;rw[Kd,Nat.add_sub_add_right];rfl
def mq {l:List Nat}{line:List Per}(h:nsL line=jk l){i:Nat}(hi:i<line.length):(l5 line i).n=((l.getD i 0:Nat):Int)/\i<l.length:=by
 have hl:l.length=line.length:=by
  have:=Kk List.length h;unfold nsL jk at this;rw[Jf,Jf]at this;exact this.symm
 have e:(nsL line)[i]? = (jk l)[i]?:=by rw[h]
 unfold nsL jk at e;rw[Js,Js,Ji hi,Ji (by omega)]at e;unfold l5;rw[Jr,Jr,Ji hi,Ji (by omega)];exact⟨Jt e,by omega⟩
def pZ {P:Nat->Bool}{t:Int}{line:List Per}{book:List L3.Row}{l:List Nat}(hn:nsL line=jk l)(nd:l.Nodup)(hlt:∀n∈l,n<book.length):∀{k:Nat},k<=line.length->∀{j:Nat},j<book.length ->
  J0 (N9 P t line book k) j=if j∈l/\l.idxOf j<k then iI P t line (l.idxOf j) (J0 book j) else J0 book j
 | 0,_,j,_=>by rw[Jo (by omega)];rfl
 | k+1,hk,j,hj=>by
  obtain⟨e,hkl⟩:=mq hn (show k<line.length by omega);have hm:l.getD k 0∈l:=by rw[aa hkl];exact Mi hkl
  have hidx:l.idxOf (l.getD k 0)=k:=by rw[aa hkl];exact gJ nd hkl
  rw[eQ];unfold ni;rw[e,KN];by_cases hjk:l.getD k 0=j
  .subst hjk;have hlen:l.getD k 0<(N9 P t line book k).length:=by rw[S5];exact hlt _ hm
   rw[Jk ⟨hm,by omega⟩,hidx];have:J0 (N9 P t line book k) (l.getD k 0)=J0 book (l.getD k 0):=by
    rw[pZ hn nd hlt (k:=k) (by omega) (hlt _ hm),Jo (by omega)]
   rw[this];unfold J0;rw[Jr,Ju hlen];rfl
  .have e2:J0 ((N9 P t line book k).set (l.getD k 0) (iI P t line k (J0 (N9 P t line book k) (l.getD k 0)))) j=J0 (N9 P t line book k) j:=by
    unfold J0;rw[Jr,Jp hjk,<-Jr]
   rw[e2,pZ hn nd hlt (k:=k) (by omega) hj];by_cases hm2:j∈l
   .have hne:l.idxOf j≠k:=λz=>hjk (by
     have:=bM hm2;rw[z,Ji hkl]at this;rw[aa hkl];exact Jt this)
    by_cases hlt2:l.idxOf j<k
    .rw[Jk ⟨hm2,hlt2⟩,Jk ⟨hm2,by omega⟩]
    .rw[Jo (λz=>hlt2 z.2),Jo (λz=>by have:=z.2;omega)]
   .rw[Jo (λz=>hm2 z.1),Jo (λz=>hm2 z.1)]
def uf {l:List Co}{j:Nat}(h:j<l.length):J0 (l.map rowOf) j=rowOf (l.getD j (.lost 0)):=by
 unfold J0;rw[Jr,Js,Jr,Ji h];rfl
def vE {P:Nat->Bool}{t:Nat}{line:List Per}{i b w:Nat}:iI P ((t:Int)+1) line i (rowOf (.inn b w))=rowOf (aft t (!P i) (gnP P line i) (.inn b w)):=by
 unfold iI row1;cases hg:gnP P line i with
 | true =>
  have:P i=true:=by unfold gnP at hg;simp at hg;exact hg.1
  rw[Jk rfl,this,Jk rfl];rfl
 | false =>
  rw[Jo (by decide)];cases P i with
  | true=>rfl
  | false=>rfl
def xN {s:CS}{μ:Mac}{t:Nat}{pl:Option Nat}{bt:Bt}(M:CsM s μ t):nsL (g7 pl bt (μ,0)).1.line=jk (x9 pl bt s)/\pnL (g7 pl bt (μ,0)).1.line=i3 pl s.st bt/\(g7 pl bt (μ,0)).1.book=(y9 pl t bt s).map rowOf/\(g7 pl bt (μ,0)).1.t=(t:Int):=by
 obtain⟨h1,h2⟩:=qW (pl:=pl) (bt:=bt) (s:=(μ,0));have h3:=(gu (pl:=pl) (bt:=bt) (s:=(μ,0))).1;have h4:=(Z5 (pl:=pl) (bt:=bt) (s:=(μ,0))).2.2.2.1;have el:μ.line.length=s.st.length:=by rw[<-M.p,w4]
 have eb:μ.book.length=s.told.length:=by rw[M.b,Jf]
 refine⟨?_,by rw[h3];show i3 pl (pnL μ.line) bt=_;rw[M.p],?_,by rw[h4];exact M.t⟩
 .rw[h1];show nsL μ.line++List.map _ (List.range (k7 pl μ.line.length bt.length))=_;unfold x9 jk;rw[M.n,JE,JF,el];congr 1;refine JU λj _=>?_
  show((μ.book.length+j:Nat):Int)=((s.told.length+j:Nat):Int);rw[eb]
 .rw[h2];show μ.book++(List.replicate (k7 pl μ.line.length bt.length) _++List.replicate (bt.length-k7 pl μ.line.length bt.length) _)=_;unfold y9;rw[JE,JE,MB,MB,M.b,el];show _++(List.replicate _ (⟨"in",μ.t,none,0⟩:L3.Row)++List.replicate _ ⟨"lost",μ.t,none,0⟩)=_;rw[M.t];rfl
def yD {s:CS}{μ:Mac}{t h:Nat}{pl:Option Nat}{r:My}{bt:Bt}(M:CsM s μ t)(o:CsOk s)(hk:bh (kb r) μ.line μ.book.length)(hc:∀c∈bt,1<=c.2):CsM (T4 h (kOf r) (kb r) (tnB r) pl t bt s) (T8 h pl r μ bt) (t+1):=by
 obtain⟨h1,h2,h3,h4⟩:=xN (pl:=pl) (bt:=bt) M;have hk2:=dq (pl:=pl) (bt:=bt) (s:=(μ,0)) hk hc;have hpn:=rB (h:=h) (pl:=pl) (r:=r) (bt:=bt) hk hc;have nd:=gX (pl:=pl) (bt:=bt) o;have hlt:=iz (pl:=pl) (t:=t) (bt:=bt) o;have hinn:=fD (pl:=pl) (t:=t) (bt:=bt) o;have hlen:=fg (pl:=pl) (bt:=bt) o;have hb:kb r=false->∀p∈(g7 pl bt (μ,0)).1.line,p.b=false:=λz p hp=>(hk2 p hp).2.2.2 z
 have hb':kb r=false->∀p∈pnL (g7 pl bt (μ,0)).1.line,p.2.2=false:=λz p hp=>by
  obtain⟨q,hq,rfl⟩:=JS.1 hp;exact hb z q hq
 have hst:=jI (h:=h) (k:=kOf r) (tn:=tnB r) hb;have pk:∀i,i<(g7 pl bt (μ,0)).1.line.length->J4 h (kOf r) (pnL (g7 pl bt (μ,0)).1.line) i=decide (i∈j5 h (kOf r) (kb r) (pnL (g7 pl bt (μ,0)).1.line)):=λi hi=>fm (by rw[w4];exact hi) hb'
 unfold T8 fO at hpn ⊢;generalize (g7 pl bt (μ,0)).1 = ν at h1 h2 h3 h4 hk2 hpn hb hb' hst pk ⊢;have hll:ν.line.length=(i3 pl s.st bt).length:=by rw[<-h2,w4]
 have hbl:ν.book.length=(y9 pl t bt s).length:=by rw[h3,Jf]
 refine⟨?_,?_,?_,?_⟩
 .show nsL (aj _ _ _ _ _++au _ _ _ _ _)=jk (List.map _ _);unfold aj au nsL jk;rw[<-JE,hst,JF,JF,h2];show List.map _ (B5 (tnB r) (j5 h (kOf r) (kb r) (i3 pl s.st bt)) (i3 pl s.st bt))=_;refine JU λi hi=>?_
  have hi2:=(gP (tn:=tnB r) (cH (h:=h) (k:=kOf r) (kp:=kb r) (pl:=pl) (bt:=bt) (s:=s)) F9 hi).1;obtain⟨e,_⟩:=mq h1 (show i < ν.line.length by omega);show(thP _ _ _ i).n=_;have:(thP (J4 h (kOf r) (pnL ν.line)) (kb r) ν.line i).n=(l5 ν.line i).n:=by unfold thP;split <;> rfl
  rw[<-h2,this,e];rfl
 .rw[hpn,M.p];rfl
 .show N9 _ _ _ _ _=List.map rowOf (List.map _ (List.range (y9 pl t bt s).length));rw[JF];refine LZ λj=>?_
  by_cases hj:j < ν.book.length
  .have e1:(N9 (J4 h (kOf r) (pnL ν.line)) (ν.t+1) ν.line ν.book ν.line.length)[j]? = some (J0 (N9 (J4 h (kOf r) (pnL ν.line)) (ν.t+1) ν.line ν.book ν.line.length) j):=by
    unfold J0;rw[Jr,Ji (by rw[S5];exact hj)];rfl
   rw[e1,Js,Li (by omega)];show _=some (rowOf (if j∈x9 pl bt s then mn h (kOf r) (kb r) pl t bt s j else(y9 pl t bt s).getD j (.lost 0)));rw[pZ h1 nd (λn hn=>by rw[hbl];exact hlt n hn) (Jq _) hj,h4,h3,uf (by omega)];congr 1;by_cases hm:j∈x9 pl bt s
   .have hi:(x9 pl bt s).idxOf j < ν.line.length:=by
     have:=List.idxOf_lt_length_of_mem hm;omega
    rw[Jk ⟨hm,hi⟩,Jk hm];obtain⟨b,w,e⟩:=hinn j hm;rw[e,vE];unfold mn;rw[e];have hp2:=pk _ hi;rw[h2]at hp2;have e3:gnP (J4 h (kOf r) (pnL ν.line)) ν.line ((x9 pl bt s).idxOf j)=decide ((x9 pl bt s).idxOf j∈N2 (U9 h (kOf r) (kb r) pl bt s) (i3 pl s.st bt)):=by
     unfold gnP N2 U9;rw[h2,hp2,show(l5 ν.line ((x9 pl bt s).idxOf j)).l=(pAt (i3 pl s.st bt) ((x9 pl bt s).idxOf j)).2.1 from by rw[<-h2,dI hi];rfl];rw[LC];simp[JP]
    rw[e3,h2,hp2];rfl
   .rw[Jo (λz=>hm z.1),Jo hm]
  .rw[Kx (by rw[S5];omega),Kx (by rw[Jf,JD];omega)]
 .show ν.t+1=((t+1:Nat):Int);rw[h4];omega
theorem mI {h:Nat}{pl:Option Nat}{r:My}{μ:Mac}{way:List Bt}(hw:∀b∈way,∀c∈b,1<=c.2)(hl:μ.line=[])(hb:μ.book=[])(ht:μ.t=0):∀{i:Nat},i<=way.length->CsM (M8 h (kOf r) (kb r) (tnB r) pl way i) (G8 h pl r μ way i) i
 | 0,_=>⟨by rw[ai,hl];rfl,by rw[ai,hl];rfl,by rw[ai,hb];rfl,by rw[ai,ht];rfl⟩
 | i+1,hi=>by
  have hk:bh (kb r) μ.line μ.book.length:=by rw[hl];exact λp hp=>by cases hp
  rw[P8 (by omega)];exact yD (mI hw hl hb ht (by omega)) (lQ i) (dC hw hk (by omega)) (dH hw (by omega))
end LM
namespace L3
open PySem PySem.Spec PyProof.Rows L2
section
variable [Fam]
end
section
variable [Fam]
end
end L3
namespace LM
open PySem PySem.Spec PyProof.Rows L2 L3
variable [Fam][LamC]
local instance regV:Feeds:=G4
def pf {a b:DE->M Out}{E:DE}{μ:Mac}{Q:Out->Mac->Prop}(h:wp (a E μ) λo μ1=>∃E1,o = .nx E1/\wp (b E1 μ1) Q):wp (pSq a b E μ) Q:=by
 unfold pSq;rw[b8];refine i4 h λo μ1 ⟨E1,e,q⟩=>?_
 subst e;exact q
end LM
namespace L3
open L2
section
section
variable {h k:Nat}{kp tn:Bool}{pl:Option Nat}{t b:Nat}{bt:Bt}{s:CS}
end
end
section
section
variable {h k:Nat}{kp tn:Bool}{pl:Option Nat}{t b:Nat}{bt:Bt}{s:CS}
def J3 (h k:Nat)(kp tn:Bool)(pl:Option Nat)(way:List Bt)(i:Nat):Nat:=(i3 pl (M8 h k kp tn pl way i).st (f7 way i)).length
end
end
end L3
namespace LM
open PySem PySem.Spec PyProof.Rows L2 L3
variable [Fam][LamC]
local instance regX:Feeds:=G4
def Fp:List DV->@M fdI My:=rW ["_law_house_here","_law_way_here","_law_m","_law_rows","_law_empties","_law_beat_here","_law_ahead_here","_law_lost","_law_gone","_law_many"] 2 0 bE (pSq (mL 2 (ic 3 (cB i5)))
  (pSq (mL 2 (ic 4 (cB (b9 (sC (.int 0)) i5))))
  (pSq (jL (U3 (sV 1)) (bN 5) (mSq (A8 6 mQ)
  (mSq (bR (P9 2 (j8 (bN 7) (j8 (bN 8) S7))) (cy Ge (b9 (mE (sV 5)) i5)))
  (mSq (mL 2 (A8 9 (s2 fA (s2 Z8 (sW 6) (sN U1 (b9 (sW 5) i5))) (sW 7))))
  (mSq (mL 2 (aC 3 (V6 (b9 (sV 9) (b9 (sN vH (b9 (sC (.int 0)) (b9 (s2 fA (sW 9) (s2 ixD (sW 0) (sC (.int 0)))) i5))) i5)))))
  (mIf (uB AF) (aC 4 sAt) mNx))))))
  (mBk 3 4))))
def emp (v:Nat->Bool):Nat->List Nat
 | 0=>[0]
 | m+1=>if v (m+1)=true then emp v m++[m+1] else emp v m
theorem emp_le {v:Nat->Bool}:∀m,(∀e∈emp v m,e<=m)/\1<=(emp v m).length/\(emp v m).length<=m+1
 | 0=>⟨λe he=>by simp[emp]at he;omega,by simp[emp],by simp[emp]⟩
 | m+1=>by
  obtain⟨h1,h2,h3⟩:=emp_le (v:=v) m;unfold emp;split
  .refine⟨λe he=>?_,by simp,by simp;omega⟩;rcases Jj.1 he with he | he
   .have:=h1 e he;omega
   .simp at he;omega
  .exact⟨λe he=>by have:=h1 e he;omega,h2,by omega⟩
def rowI (h n:Nat):My:=.tuple [.int (n:Int),.int ((n:Int)-(min h n:Nat))]
def Bf {h:Nat}{pl:Option Nat}{r:My}{way:List Bt}{i:Nat}(hi:i<=way.length):((P3 (C1 h (kOf r) (kb r) (tnB r) pl) [] way i).length:Int)+((f7 way i).length:Nat)-(aw pl (P3 (C1 h (kOf r) (kb r) (tnB r) pl) [] way i) (f7 way i):Nat)=(J3 h (kOf r) (kb r) (tnB r) pl way i:Nat):=by
 unfold J3;rw[dm hi,V2];unfold aw;have:=bP pl (P3 (C1 h (kOf r) (kb r) (tnB r) pl) [] way i).length (f7 way i).length;omega
def counted_w {r:My}{pl:Option Nat}{h:Nat}{way:List Bt}{F:FdS}{Q:My->FdS->Prop}(hr:r∈W8)(hw:∀b∈way,∀c∈b,1<=c.2)(hl:C0 way<64)(hn:way.length<=1000)
  (q:Q (.tuple [.list (((M8 h (kOf r) (kb r) (tnB r) pl way way.length).told.map rowOf).map vv),.list ((List.range way.length).map λi=>rowI h (J3 h (kOf r) (kb r) (tnB r) pl way i)),.list ((emp (V9 h pl r way) way.length).map λ(e:Nat)=>.int (e:Int))]) F) :
  wp (Fp [.dat (.tuple [.int (h:Int),plD pl,r]),.dat (.tuple (way.map btD))] F) Q:=by
 obtain⟨x,rfl,_⟩:=Q7 hr;unfold Fp;refine Bm (ds:=[.tuple [.int (h:Int),plD pl,.str x],.tuple (way.map btD)]) rfl uZ (λd=>?_) q;refine pf (nS.2 (dZ.2 (V5.2 (d7.2 ⟨B3 rfl,h8 rfl,oW rfl ⟨_,rfl,?_⟩⟩))));refine pf (nS.2 (dZ.2 (V5.2 (a9.2 (u7.2 (d7.2 ⟨B3 rfl,h8 rfl,oW rfl ⟨_,rfl,?_⟩⟩))))));refine pf (qT.2 (D8.2 (l9.2 (l8 rfl (c6 rfl ?_)))));refine J1 (λm E F=>m<=way.length/\F=G8 h pl (.str x) (aF h pl x) way m/\∃o5 o6 o7 o8 o9,E=[some (.dat (.tuple [.int (h:Int),plD pl,.str x])),some (.dat (.tuple (way.map btD))),some (.adr d),some (.own ((List.range m).map λi=>rowI h (J3 h (kOf (.str x)) (kb (.str x)) (tnB (.str x)) pl way i))),some (.own ((emp (V9 h pl (.str x) way) m).map λ(e:Nat)=>.int (e:Int))),o5,o6,o7,o8,o9]) _ 0 _ _ ⟨Ka _,rfl,none,none,none,none,none,rfl⟩ ?_ ?_
 .rintro m dd e E F1 ⟨_,rfl,o5,o6,o7,o8,o9,rfl⟩;rw[JZ];obtain⟨hm,rfl⟩:=vf e;refine⟨_,rfl,?_⟩;have hv1:=wd (h:=h) (pl:=pl) (x:=x) hw (show m+1<=way.length from hm);have ht1:=CM (h:=h) (pl:=pl) (x:=x) (way:=way) (show m+1<=way.length from hm);have hbeat:=Dm (h:=h) (pl:=pl) hr hw hl hm;have hpn:=Kk List.length (dM (h:=h) (pl:=pl) (r:=.str x) (μ:=aF h pl x) hw kF (KA hm));rw[w4,show pnL (aF h pl x).line=[] from rfl]at hpn;have hcnt:=Bf (h:=h) (pl:=pl) (r:=.str x) (way:=way) (KA hm);have hem:=(emp_le (v:=V9 h pl (.str x) way) m).2.2;have eem:emp (V9 h pl (.str x) way) (m+1)=if V9 h pl (.str x) way (m+1)=true then emp (V9 h pl (.str x) way) m++[m+1] else emp (V9 h pl (.str x) way) m:=rfl;refine i9.2 (l7.2 (rA.2 ⟨h8 rfl,h9 ?_⟩));refine i9.2 (X2.2 (gL.2 (a9.2 (bT.2 (l9.2 (l8 rfl (d7.2 ?_)))))));rw[hbeat];refine b7.2 (c6 rfl (h9 ?_));refine i9.2 (nS.2 (l7.2 (n9.2 (n9.2 (g9.2 (i6 rfl (E5.2 (a9.2 (g9.2 (i6 rfl (d7.2 (c6 rfl (c6 wA (g9.2 (i6 rfl (c6 X3 ⟨h8 rfl,oW rfl (h9 ?_)⟩))))))))))))))));rw[Jf,hpn,hcnt];obtain⟨n,en⟩:∃n,J3 h (kOf (.str x)) (kb (.str x)) (tnB (.str x)) pl way m=n:=⟨_,rfl⟩;rw[en];refine i9.2 (nS.2 (aV rfl (by rw[Jf,JD];omega) (R1.2 (a9.2 (l9.2 (l8 rfl (a9.2 (E5.2 (a9.2 (u7.2 (a9.2 (n9.2 (g9.2 (i6 rfl (n9.2 (g9.2 (i6 rfl (u7.2 (c6 rfl (c6 X3 (d7.2 (c6 rfl (d7.2 ⟨B3 rfl,oW rfl (h9 ?_)⟩)))))))))))))))))))))));have hmx:(if ((n:Int)-(h:Int) > 0) then(n:Int)-(h:Int) else 0)=(n:Int)-(min h n:Nat):=by split <;> omega
  have er:((List.range m).map λi=>rowI h (J3 h (kOf (.str x)) (kb (.str x)) (tnB (.str x)) pl way i))++[rowI h n]=(List.range (m+1)).map λi=>rowI h (J3 h (kOf (.str x)) (kb (.str x)) (tnB (.str x)) pl way i):=by
   rw[Lc,JE,Jy,Kl,en]
  have er2:(My.tuple [.int (n:Int),.int (if ((n:Int)-(h:Int) > 0) then(n:Int)-(h:Int) else 0)])=rowI h n:=by rw[hmx];rfl
  refine W2.2 (Y1.2 (Cc.2 (c6 rfl ?_)));rw[hv1];cases hv:V9 h pl (.str x) way (m+1) with
  | false =>
   rw[hv,Jo (by decide)]at eem;refine fI.2 (bW.2 ⟨_,rfl,hm,rfl,_,_,_,_,_,by rw[<-er,<-er2,eem];rfl⟩)
  | true =>
   rw[hv,Jk rfl]at eem;refine fK.2 (aV rfl (by rw[Jf];omega) (xI.2 ⟨_,rfl,hm,rfl,_,_,_,_,_,by rw[<-er,<-er2,eem,ht1,JE];rfl⟩))
 .rintro E F1 ⟨_,rfl,o5,o6,o7,o8,o9,rfl⟩;rw[JZ,Jf];refine⟨_,rfl,?_⟩;have hb:=(mI (h:=h) (pl:=pl) (r:=.str x) (μ:=aF h pl x) hw rfl rfl rfl (Jq way.length)).b;refine b7.2 ?_;show some (My.tuple [nO _,_,_])=some (My.tuple _);unfold nO;rw[hb]
end LM
namespace L3
open PySem PySem.Spec PyProof.Rows L2
section
variable [Fam]
def DL {l:List Co}{n:Nat}(h:n<l.length):ixD (.list (l.map coD)) (.int (n:Int))=some (coD (l.getD n (.lost 0))):=by
 show atI (l.map coD) (n:Int)=_;refine W1 ?_;rw[Js,Ji h,Jr,Ji h];rfl
section
variable {F:FdS}{Q:My->FdS->Prop}
def oX {r:My}{pl:Option Nat}{h:Nat}{way:List Bt}(hr:r∈W8)(hp:∀i<way.length,jU pl (P3 (C1 h (kOf r) (kb r) (tnB r) pl) [] way i).length)(hl:C0 way<64)(hn:way.length<=1000)
  (q:Q (.list ((M8 h (kOf r) (kb r) (tnB r) pl way way.length).told.map coD)) F) :
  wp (bC [.dat (.tuple [.int (h:Int),plD pl,r]),.dat (.tuple (way.map btD))] F) Q:=by
 have hfit:=λi hi=>bg (h:=h) (k:=kOf r) (kp:=kb r) (tn:=tnB r) (pl:=pl) (ps:=[]) (way:=way) (by simpa using hl) (i:=i) hi
 have hok:=λm=>lQ (h:=h) (k:=kOf r) (kp:=kb r) (tn:=tnB r) (pl:=pl) (way:=way) m
 have hst:=λm hm=>dm (h:=h) (k:=kOf r) (kp:=kb r) (tn:=tnB r) (pl:=pl) (way:=way) (m:=m) hm
 have hln:=λm hm=>aM (h:=h) (k:=kOf r) (kp:=kb r) (tn:=tnB r) (pl:=pl) (way:=way) (m:=m) hm
 have hsc:∀m,M8 h (kOf r) (kb r) (tnB r) pl way (m+1)=T4 h (kOf r) (kb r) (tnB r) pl m (f7 way m) (M8 h (kOf r) (kb r) (tnB r) pl way m):=λm=>rfl
 generalize M8 h (kOf r) (kb r) (tnB r) pl way=cs at q hok hst hln hsc;unfold bC;refine fZ.2 ?_;dsimp only[x4,Jy,Kl,JB,KE,List.replicate,KF,Ku,Nat.reduceAdd,Nat.reduceSub];have h0:cs 0=⟨[],[],[]⟩:=by
  have a1:=hst 0 (Ka _);have a2:=hln 0 (Ka _);have a3:=(hok 0).len;rw[U5]at a1;generalize cs 0=s at a1 a2 a3;obtain⟨x,y,z⟩:=s;simp only at a1 a2 a3;subst a1;have b1:x=[]:=KS.1 (by rw[a2];rfl);have b2:y=[]:=KS.1 (by rw[a3];rfl);rw[b1,b2]
 refine i9.2 (dZ.2 (V5.2 (d7.2 ⟨sz (by decide),h8 rfl,h9 (i9.2 (oP (BD (u7.2 (ue (V5.2 (d7.2 ⟨sz (by decide),⟨h8 rfl,h8 rfl⟩,h9 (i9.2 (ar.2 (oQ (l9.2 (l8 rfl (c6 fq ?_))))))⟩)))))))⟩)));rw[yY];refine J1 (λm E F'=>F'=F/\∃o5 o6 o7 o8 o9 o10 o11 o12 o13 o14,E=[some (.dat (.tuple [.int (h:Int),plD pl,r])),some (.dat (.tuple (way.map btD))),some (.own ((cs m).told.map coD)),some (.dat (stD (cs m).st)),some (.own (j3 (cs m).ins)),o5,o6,o7,o8,o9,o10,o11,o12,o13,o14]) _ 0 _ F ⟨rfl,none,none,none,none,none,none,none,none,none,none,by rw[h0];rfl⟩ ?_ ?_
 .rintro m d e E F1 ⟨rfl,o5,o6,o7,o8,o9,o10,o11,o12,o13,o14,rfl⟩;rw[JZ];obtain⟨hm,rfl⟩:=rR e;have hpm:=hp m hm;have hfm:=hfit m hm;rw[<-hst m (by omega)]at hpm hfm;have o:=hok m;have hlm:=hln m (by omega);have hll:=N8 hm;have hll2:=lg way (m+1);rw[hsc m];generalize cs m=s at hpm hfm o hlm;have hrm:=bP pl s.st.length (f7 way m).length;have hfl:(i3 pl s.st (f7 way m)).length<64:=by rw[V2];omega
  have hil:=fg (pl:=pl) (bt:=f7 way m) o;refine⟨_,rfl,?_⟩;refine i9.2 (X2.2 (x6.2 (G5.2 (l9.2 (l8 rfl (G5.2 (l9.2 (l8 rfl (G5.2 (l9.2 (l8 rfl (C3.2 ?_))))))))))));refine gK (pl:=pl) (ps:=s.st) (bt:=f7 way m) hpm (by omega) (c6 rfl (h9 ?_));refine i9.2 (l7.2 (n9.2 (E5.2 (a9.2 (g9.2 (i6 rfl (d7.2 (c6 cR (g9.2 (i6 rfl (c6 X3 ⟨h8 rfl,h9 ?_⟩)))))))))));rw[Jf];have eb1:(((f7 way m).length:Nat):Int)-(((f7 way m).length-k7 pl s.st.length (f7 way m).length:Nat):Int)=(k7 pl s.st.length (f7 way m).length:Nat):=by omega
  rw[eb1];refine i9.2 (zK rfl (yZ (a9.2 (E5.2 (a9.2 (g9.2 (dy rfl (d7.2 (c6 qA (a9.2 (n9.2 (E5.2 (a9.2 (g9.2 (dy rfl (d7.2 (c6 qA (g9.2 (i6 rfl (c6 wA (d7.2 ?_)))))))))))))))))))));rw[Jf];refine c6 (vj (by omega) (by omega) (by omega) (by omega)) ?_;have er:(((s.told.length:Nat):Int)+(k7 pl s.st.length (f7 way m).length:Nat)-((s.told.length:Nat):Int)).toNat=k7 pl s.st.length (f7 way m).length:=by omega
  rw[er,nj];have hil0:s.ins.length<64:=by rw[o.len];omega
  refine⟨by rw[C7];simp;omega,_,rfl,by rw[C7,C7];simp;omega,h9 ?_⟩;have ei:j3 s.ins++j3 ((List.range (k7 pl s.st.length (f7 way m).length)).map (s.told.length + ·))=j3 (x9 pl (f7 way m) s):=by
   unfold x9 j3;rw[JE]
  rw[ei];refine i9.2 (zK rfl (n9.2 (n9.2 (lI.2 (a9.2 (R1.2 (a9.2 (u7.2 (a9.2 (l9.2 (l8 rfl (a9.2 (u7.2 (d7.2 ⟨B3 rfl,d7.2 ⟨B3 rfl,g9.2 (i6 rfl (c6 (zI (by omega)) ?_))⟩⟩))))))))))))));refine n9.2 (lI.2 (a9.2 (R1.2 (a9.2 (u7.2 (a9.2 (l9.2 (l8 rfl (d7.2 ⟨B3 rfl,d7.2 ⟨B3 rfl,g9.2 (i6 rfl (c6 (zI (by omega)) ?_))⟩⟩)))))))));refine c6 (Bp (by simp;omega)) ⟨_,rfl,by simp;omega,h9 ?_⟩;have et1:s.told.map coD++(List.replicate (k7 pl s.st.length (f7 way m).length) (My.tuple [.str "in",.int (m:Int),.int 0])++List.replicate ((f7 way m).length-k7 pl s.st.length (f7 way m).length) (My.tuple [.str "lost",.int (m:Int)]))=(y9 pl m (f7 way m) s).map coD:=by
   unfold y9;rw[JE,JE,MB,MB];rfl
  rw[et1];refine i9.2 (X2.2 (x6.2 (G5.2 (l9.2 (l8 rfl (G5.2 (l9.2 (l8 rfl (C3.2 ?_)))))))));refine nT (h:=h) (pl:=plD pl) hr hfl (c6 rfl (h9 ?_));have hnd:=gX (pl:=pl) (bt:=f7 way m) o;have hlt:=iz (pl:=pl) (t:=m) (bt:=f7 way m) o;have hin:=fD (pl:=pl) (t:=m) (bt:=f7 way m) o;have hst1:(T4 h (kOf r) (kb r) (tnB r) pl m (f7 way m) s).st=(B5 (tnB r) (j5 h (kOf r) (kb r) (i3 pl s.st (f7 way m))) (i3 pl s.st (f7 way m))).map (P4 (j5 h (kOf r) (kb r) (i3 pl s.st (f7 way m))) (kb r) (i3 pl s.st (f7 way m))):=rfl;have hst2:(T4 h (kOf r) (kb r) (tnB r) pl m (f7 way m) s).ins=(B5 (tnB r) (j5 h (kOf r) (kb r) (i3 pl s.st (f7 way m))) (i3 pl s.st (f7 way m))).map λi=>(x9 pl (f7 way m) s).getD i 0:=rfl
  have hst3:(T4 h (kOf r) (kb r) (tnB r) pl m (f7 way m) s).told=(List.range (y9 pl m (f7 way m) s).length).map λn=>if n∈x9 pl (f7 way m) s then aft m (!decide ((x9 pl (f7 way m) s).idxOf n∈j5 h (kOf r) (kb r) (i3 pl s.st (f7 way m)))) (decide ((x9 pl (f7 way m) s).idxOf n∈N2 (j5 h (kOf r) (kb r) (i3 pl s.st (f7 way m))) (i3 pl s.st (f7 way m)))) ((y9 pl m (f7 way m) s).getD n (.lost 0)) else(y9 pl m (f7 way m) s).getD n (.lost 0):=rfl
  have hPs:∀j∈j5 h (kOf r) (kb r) (i3 pl s.st (f7 way m)),j<=1000:=λj hj=>by have:=Q9 j hj;omega
  have hGP:∀j∈N2 (j5 h (kOf r) (kb r) (i3 pl s.st (f7 way m))) (i3 pl s.st (f7 way m)),j∈j5 h (kOf r) (kb r) (i3 pl s.st (f7 way m)):=λj hj=>(JP.1 hj).1
  have hsub:∀i∈B5 (tnB r) (j5 h (kOf r) (kb r) (i3 pl s.st (f7 way m))) (i3 pl s.st (f7 way m)),i<(x9 pl (f7 way m) s).length:=λi hi=>by rw[hil];exact(gP Q9 F9 hi).1
  have hsl:(B5 (tnB r) (j5 h (kOf r) (kb r) (i3 pl s.st (f7 way m))) (i3 pl s.st (f7 way m))).length<=1000:=by
   have:=eG (h:=h) (k:=kOf r) (kp:=kb r) (tn:=tnB r) (ps:=i3 pl s.st (f7 way m));unfold after at this;rw[Jf]at this;omega
  have htl:(y9 pl m (f7 way m) s).length<=1000:=by rw[cq];omega
  generalize T4 h (kOf r) (kb r) (tnB r) pl m (f7 way m) s=s' at hst1 hst2 hst3;generalize N2 (j5 h (kOf r) (kb r) (i3 pl s.st (f7 way m))) (i3 pl s.st (f7 way m))=G at *;generalize B5 (tnB r) (j5 h (kOf r) (kb r) (i3 pl s.st (f7 way m))) (i3 pl s.st (f7 way m))=S at *;generalize P4 (j5 h (kOf r) (kb r) (i3 pl s.st (f7 way m))) (kb r) (i3 pl s.st (f7 way m))=T at *;generalize j5 h (kOf r) (kb r) (i3 pl s.st (f7 way m))=P at *;generalize i3 pl s.st (f7 way m)=fl at *;generalize x9 pl (f7 way m) s=l at *;generalize y9 pl m (f7 way m) s=tt at *;refine i9.2 (CC rfl (ar.2 (oQ (l9.2 (l8 rfl (c6 P2 ?_))))));rw[tV];refine J1 (λp E F'=>F'=F1/\∃o13 o14,E=[some (.dat (.tuple [.int (h:Int),plD pl,r])),some (.dat (.tuple (way.map btD))),some (.own (((List.range tt.length).map λn=>if n∈l.take p then aft m (!decide (l.idxOf n∈P)) (decide (l.idxOf n∈G)) (tt.getD n (.lost 0)) else tt.getD n (.lost 0)).map coD)),some (.dat (stD s.st)),some (.dat (.list (j3 l))),some (.dat (.int (m:Int))),some (.dat (btD (f7 way m))),some (.dat (.tuple (fl.map pnD))),some (.dat (.int ((f7 way m).length-k7 pl s.st.length (f7 way m).length:Nat))),some (.dat (.int (k7 pl s.st.length (f7 way m).length:Nat))),some (.dat (.list (S.map λi=>prD (i,T i)))),some (.dat (.tuple (j3 P))),some (.dat (.tuple (j3 G))),o13,o14]) _ 0 _ F1 ⟨rfl,o13,o14,?_⟩ ?_ ?_
  .have e1:((List.range tt.length).map λn=>if n∈l.take 0 then aft m (!decide (l.idxOf n∈P)) (decide (l.idxOf n∈G)) (tt.getD n (.lost 0)) else tt.getD n (.lost 0))=tt:=by
    have:=sP (Co.lost 0) (λx:Co=>x) tt;rw[List.map_id']at this;conv=>rhs;rw[<-this]
    exact JU λn _=>by simp
   rw[e1];rfl
  .rintro p d2 e2 E F2 ⟨rfl,o13,o14,rfl⟩;rw[JZ];obtain⟨hp',rfl⟩:=rR e2;have eg:=aa hp';have hmem:=Mi hp';have hnl:=hlt _ hmem;obtain⟨b,w,ein⟩:=hin _ hmem;have eix:=gJ hnd hp';refine⟨_,rfl,(AS rfl).2 ?_⟩;rw[eg];have hnot:l[p] ∉ l.take p:=λz=>by
    obtain⟨j,hj,ej⟩:=List.getElem_of_mem z;rw[List.getElem_take]at ej;have hj2:j<p:=by simp at hj;omega
    exact absurd ((Kq.1 hnd |> KB.1) j p (by omega) hp' hj2) (by simp[ej])
   have eat:ixD (.list (((List.range tt.length).map λn=>if n∈l.take p then aft m (!decide (l.idxOf n∈P)) (decide (l.idxOf n∈G)) (tt.getD n (.lost 0)) else tt.getD n (.lost 0)).map coD)) (.int (l[p]:Nat))=some (zy b w):=by
    rw[DL (by simpa using hnl),Jr,Js,Ji (by simpa using hnl)];simp only[LA,LD,Option.getD_some];rw[Jo hnot,ein];rfl
   have done:∀(y:My) (F3:FdS),F3=F2->y=coD (aft m (!decide (p∈P)) (decide (p∈G)) (.inn b w))->wp (sV 14 [some (.dat (.tuple [.int (h:Int),plD pl,r])),some (.dat (.tuple (way.map btD))),some (.own (((List.range tt.length).map λn=>if n∈l.take p then aft m (!decide (l.idxOf n∈P)) (decide (l.idxOf n∈G)) (tt.getD n (.lost 0)) else tt.getD n (.lost 0)).map coD)),some (.dat (stD s.st)),some (.dat (.list (j3 l))),some (.dat (.int (m:Int))),some (.dat (btD (f7 way m))),some (.dat (.tuple (fl.map pnD))),some (.dat (.int ((f7 way m).length-k7 pl s.st.length (f7 way m).length:Nat))),some (.dat (.int (k7 pl s.st.length (f7 way m).length:Nat))),some (.dat (.list (S.map λi=>prD (i,T i)))),some (.dat (.tuple (j3 P))),some (.dat (.tuple (j3 G))),some (.dat (.int (p:Int))),some (.dat (.int (l[p]:Nat)))] F3) λz F4=>oB (dO z) λn=>oB (ixN (((List.range tt.length).map λn=>if n∈l.take p then aft m (!decide (l.idxOf n∈P)) (decide (l.idxOf n∈G)) (tt.getD n (.lost 0)) else tt.getD n (.lost 0)).map coD).length n) λj=>∃E2,Out.nx (([some (.dat (.tuple [.int (h:Int),plD pl,r])),some (.dat (.tuple (way.map btD))),some (.own (((List.range tt.length).map λn=>if n∈l.take p then aft m (!decide (l.idxOf n∈P)) (decide (l.idxOf n∈G)) (tt.getD n (.lost 0)) else tt.getD n (.lost 0)).map coD)),some (.dat (stD s.st)),some (.dat (.list (j3 l))),some (.dat (.int (m:Int))),some (.dat (btD (f7 way m))),some (.dat (.tuple (fl.map pnD))),some (.dat (.int ((f7 way m).length-k7 pl s.st.length (f7 way m).length:Nat))),some (.dat (.int (k7 pl s.st.length (f7 way m).length:Nat))),some (.dat (.list (S.map λi=>prD (i,T i)))),some (.dat (.tuple (j3 P))),some (.dat (.tuple (j3 G))),some (.dat (.int (p:Int))),some (.dat (.int (l[p]:Nat)))]:DE).set 2 (some (.own ((((List.range tt.length).map λn=>if n∈l.take p then aft m (!decide (l.idxOf n∈P)) (decide (l.idxOf n∈G)) (tt.getD n (.lost 0)) else tt.getD n (.lost 0)).map coD).set j y)))) = .nx E2/\F4=F2/\∃o13 o14,E2=[some (.dat (.tuple [.int (h:Int),plD pl,r])),some (.dat (.tuple (way.map btD))),some (.own (((List.range tt.length).map λn=>if n∈l.take (p+1) then aft m (!decide (l.idxOf n∈P)) (decide (l.idxOf n∈G)) (tt.getD n (.lost 0)) else tt.getD n (.lost 0)).map coD)),some (.dat (stD s.st)),some (.dat (.list (j3 l))),some (.dat (.int (m:Int))),some (.dat (btD (f7 way m))),some (.dat (.tuple (fl.map pnD))),some (.dat (.int ((f7 way m).length-k7 pl s.st.length (f7 way m).length:Nat))),some (.dat (.int (k7 pl s.st.length (f7 way m).length:Nat))),some (.dat (.list (S.map λi=>prD (i,T i)))),some (.dat (.tuple (j3 P))),some (.dat (.tuple (j3 G))),o13,o14]:=by
    rintro y F3 rfl rfl;refine l9.2 (l8 rfl (c6 rfl (c6 (z:=l[p]) ?_ ?_)))
    .unfold ixN;rw[Jk (by omega),Jk (by simp;omega),KN]
    .have es:(((List.range tt.length).map λn=>if n∈l.take p then aft m (!decide (l.idxOf n∈P)) (decide (l.idxOf n∈G)) (tt.getD n (.lost 0)) else tt.getD n (.lost 0)).map coD).set l[p] (coD (aft m (!decide (p∈P)) (decide (p∈G)) (.inn b w)))=((List.range tt.length).map λn=>if n∈l.take (p+1) then aft m (!decide (l.idxOf n∈P)) (decide (l.idxOf n∈G)) (tt.getD n (.lost 0)) else tt.getD n (.lost 0)).map coD:=by
      apply NI
      .simp
      .intro k h1 h2;simp only[Kh,Jf,JD]at h1;rw[List.getElem_set];simp only[NG,LA];have et:l.take (p+1)=l.take p++[l[p]]:=by rw[LY,Ji hp'];rfl
       by_cases hk:l[p]=k
       .rw[Jk hk,<-hk,Jk (by rw[et];exact JA _ Jv),eix,ein]
       .rw[Jo hk,et];have:(k∈l.take p++[l[p]])↔k∈l.take p:=by
         rw[Jj];constructor
         .rintro (z | z)
          .exact z
          .simp at z;exact absurd z.symm hk
         .exact .inl
        by_cases hkm:k∈l.take p
        .rw[Jk hkm,Jk (this.2 hkm)]
        .rw[Jo hkm,Jo λz=>hkm (this.1 z)]
     exact⟨_,rfl,rfl,_,_,by rw[es];rfl⟩
   refine x6.2 (G5.2 (n9.2 (g9.2 (dy rfl (g9.2 (i6 rfl (c6 eat (G5.2 (n9.2 (g9.2 (i6 rfl (g9.2 (i6 rfl (c6 (eY hPs) (G5.2 (iB.2 (Y1.2 (n9.2 (g9.2 (i6 rfl (g9.2 (i6 rfl (c6 (km λj hj=>hPs j (hGP j hj)) (c6 rfl ?_))))))))))))))))))))))));by_cases hg:p∈G
   .rw[Kn hg] at *;rw[Kn (hGP p hg)] at *;refine T3 rfl (n9.2 (g9.2 (i6 rfl (u7.2 (c6 rfl (C3.2 ?_))))));exact pH (m:=m+1) (done _ _ rfl rfl)
   .rw[JY hg] at *;exact u9 rfl (u7.2 (C3.2 (wJ (done _ _ rfl rfl))))
  .rintro E F2 ⟨rfl,o13,o14,rfl⟩;rw[JZ,Jf,JD,LK,<-hst3];refine h9 (i9.2 (dZ.2 (Ds (D8.2 (g9.2 (i6 rfl (c6 P2 ⟨sz (by rw[Jf];omega),?_⟩)))))));refine uS (x:=λi:Nat=>.int (i:Int)) (y:=λi=>pnD (T i)) (f:=λi=>.int (l.getD i 0:Nat)) S _ _ (λi hi F Q q=>?_) ?_
   .refine n9.2 (g9.2 (i6 rfl (g9.2 (i6 rfl (c6 ?_ q)))));have hi2:=hsub i hi;show atI (j3 l) (i:Int)=_;refine W1 ?_;unfold j3;rw[Js,Ji hi2,Jr,Ji hi2];rfl
   .have e3:S.map (λi=>My.int (l.getD i 0:Nat))=j3 s'.ins:=by
     rw[hst2];unfold j3;rw[JF];rfl
    rw[e3];refine⟨h8 rfl,h9 (l7.2 (E5.2 (a9.2 (S8.2 (D8.2 (g9.2 (i6 rfl (c6 P2 ⟨sz (by rw[Jf];omega),?_⟩))))))))⟩;refine uS (x:=λi:Nat=>.int (i:Int)) (y:=λi=>pnD (T i)) (f:=λi=>pnD (T i)) S _ _ (λi hi F Q q=>l9.2 (l8 rfl q)) (d7.2 (c6 rfl ⟨h8 rfl,?_⟩));have e4:S.map (λi=>pnD (T i))=s'.st.map pnD:=by rw[hst1,JF];rfl
    exact⟨_,rfl,rfl,_,_,_,_,_,_,_,_,_,_,by rw[e4];rfl⟩
 .rintro E F1 ⟨rfl,o5,o6,o7,o8,o9,o10,o11,o12,o13,o14,rfl⟩;rw[JZ,Jf,JD];exact h9 (aT.2 (g9.2 (dy rfl (ft q))))
end
variable [Fam]
section
variable {F:FdS}{Q:My->FdS->Prop}
end
variable [Fam]
def dP:List DV->M My:=Z1 ["_law_feed_here"] (mRt (s2 ixD (sC (.list [.str "first",.str "last",.str "short",.str "front",.str "lastoff",.str "shortoff",.str "frontoff",.str "turns"])) (v7 G2 (vF 0 (vD (sC (.int 8)) E9)))))
def bJ:List DV->M My:=Z1 ["_law_feed_here","_law_places"] (mSq (A8 1 (s2 ixD (sC (.list [.none,.none,.none,.int 0,.int 1,.int 2,.int 3,.int 4,.int 5,.int 6])) (v7 G2 (vF 0 (vD (sC (.int 10)) E9)))))
  (mRt (V6 (b9 (s2 Z8 (sC (.int 1)) (v7 G2 (vF 0 (vD (sC (.int 3)) E9)))) (b9 (sV 1) (b9 (v7 dP (vF 0 E9)) i5))))))
def wB:Tr dP [.feed] 1 (λd=>d∈W8):=Tr.of λF hF=>by
 unfold dP;walk_at "go";refine G9 (by decide) (by decide) (by omega) λr F1 r0 r1 t1=>?_
 obtain⟨d,e,hd⟩:∃d,ixD (.list W8) (.int r)=some d/\d∈W8:=by
  have:r=0\/r=1\/r=2\/r=3\/r=4\/r=5\/r=6\/r=7:=by omega
  rcases this with rfl | rfl | rfl | rfl | rfl | rfl | rfl | rfl
  all_goals exact⟨_,rfl,by simp[W8]⟩
 refine c6 e ?_;walk_at "go";exact⟨by omega,hd⟩
def tI:Tr bJ [.feed] 3 (λd=>∃(h:Nat) (pl:Option Nat) (r:My),d = .tuple [.int (h:Int),plD pl,r]/\1<=h/\h<=3/\r∈W8/\∀v,pl=some v->v<=6):=Tr.of λF hF=>by
 unfold bJ;walk_at "go";refine G9 (by decide) (by decide) (by omega) λu F1 u0 u1 t1=>?_
 obtain⟨pl,e,hpl⟩:∃pl:Option Nat,ixD (.list [.none,.none,.none,.int 0,.int 1,.int 2,.int 3,.int 4,.int 5,.int 6]) (.int u)=some (plD pl)/\∀v,pl=some v->v<=6:=by
  have:u=0\/u=1\/u=2\/u=3\/u=4\/u=5\/u=6\/u=7\/u=8\/u=9:=by omega
  rcases this with rfl | rfl | rfl | rfl | rfl | rfl | rfl | rfl | rfl | rfl
  .exact⟨none,rfl,λv hv=>by cases hv⟩
  .exact⟨none,rfl,λv hv=>by cases hv⟩
  .exact⟨none,rfl,λv hv=>by cases hv⟩
  .exact⟨some 0,rfl,λv hv=>by injection hv;omega⟩
  .exact⟨some 1,rfl,λv hv=>by injection hv;omega⟩
  .exact⟨some 2,rfl,λv hv=>by injection hv;omega⟩
  .exact⟨some 3,rfl,λv hv=>by injection hv;omega⟩
  .exact⟨some 4,rfl,λv hv=>by injection hv;omega⟩
  .exact⟨some 5,rfl,λv hv=>by injection hv;omega⟩
  .exact⟨some 6,rfl,λv hv=>by injection hv;omega⟩
 refine c6 e ?_;walk_at "go";refine G9 (by decide) (by decide) (by omega) λhv F2 v0 v1 t2=>?_
 walk_at "go";refine wB.wp (by omega) λr F3 t3 hr=>?_
 walk_at "go";obtain⟨h,eh,g1,g2⟩:∃h:Nat,1+hv=(h:Int)/\1<=h/\h<=3:=⟨(1+hv).toNat,by omega,by omega,by omega⟩;rw[eh];exact⟨by omega,h,pl,r,rfl,g1,g2,hr,hpl⟩
variable [Fam]
def Dc {mt:DE->M Bool}{me:DE->M My}{α:Type}{F:FdS}{x:α->My}{g:α->Bool}{f:α->My}{rest:DE}{Q:List My->FdS->Prop}(ds:List α)(o:Option DV)
  (ht:∀d∈ds,∀(F:FdS) (Q:Bool->FdS->Prop),Q (g d) F->wp (mt (some (.dat (x d))::rest) F) Q) (he:∀d∈ds,g d=true->∀(F:FdS) (Q:My->FdS->Prop),Q (f d) F->wp (me (some (.dat (x d))::rest) F) Q)
  (q:Q ((ds.filter g).map f) F):wp (Q6 (bN 0) mt me (ds.map x) (o::rest) F) Q:=by
 have key:∀(l:List α) (o:Option DV) (Q:List My->FdS->Prop),(∀d∈l,d∈ds)->Q ((l.filter g).map f) F->wp (Q6 (bN 0) mt me (l.map x) (o::rest) F) Q:=by
  intro l;induction l with
  | nil=>intro o Q _ q;exact b7.2 q
  | cons d l ih =>
   intro o Q hs q;rw[Jy,Q6];have e:bN 0 (x d) (o::rest)=some (some (.dat (x d))::rest):=rfl;rw[e,JC,b8];refine ht d (hs d Jv) F _ ?_;cases c:g d with
   | false =>
    rw[LO (by simp[c])]at q;rw[Jo (by simp)];exact ih _ _ (λz hz=>hs z (Jh _ hz)) q
   | true =>
    rw[Lr c,Jy]at q;rw[Jk rfl,b8];refine he d (hs d Jv) c F _ ?_;rw[b8];exact ih _ _ (λz hz=>hs z (Jh _ hz)) (b7.2 q)
 exact key ds o Q (λd hd=>hd) q
def CN {bd:My->DE->Option DE}{me:DE->M My}{α:Type}{F:FdS}{x:α->My}{f:α->My}{Q:List My->FdS->Prop}(Sh:DE->Prop)(ds:List α){E:DE}(h0:Sh E)
  (h:∀d∈ds,∀E,Sh E->∃E1,bd (x d) E=some E1/\Sh E1/\∀(F:FdS) (Q:My->FdS->Prop),Q (f d) F->wp (me E1 F) Q) (q:Q (ds.map f) F):wp (Q6 bd U2 me (ds.map x) E F) Q:=by
 have key:∀(l:List α) (E:DE) (Q:List My->FdS->Prop),Sh E->(∀d∈l,d∈ds)->Q (l.map f) F->wp (Q6 bd U2 me (l.map x) E F) Q:=by
  intro l;induction l with
  | nil=>intro E Q _ _ q;exact b7.2 q
  | cons d l ih =>
   intro E Q hE hs q;obtain⟨E1,e1,hE1,hm⟩:=h d (hs d Jv) E hE;rw[Jy,Q6,e1,JC,b8];refine gM.2 ?_;rw[Jk rfl,b8];refine hm F _ ?_;rw[b8];exact ih _ _ hE1 (λz hz=>hs z (Jh _ hz)) (b7.2 q)
 exact key ds E Q h0 (λd hd=>hd) q
def V8 (b e:Nat):Co->Bool
 | .gone a _ _=>decide (b<=a)&&decide (a<e)
 | _=>false
def isG:Co->Bool
 | .gone _ _ _=>true
 | _=>false
def oa:Co->Int
 | .gone a m _=>(m:Int)-a
 | _=>0
def wtC:Co->Int
 | .gone _ _ w=>w
 | _=>0
variable [Fam]
def nh (c:Co):∃z,ixD (coD c) (.int 0)=some (.str z)/\eqD false (.str z) (.str "gone")=some (.bool (isG c)):=by
 have e1:¬(("in":Str) = "gone"):=by decide +kernel
 have e2:¬(("lost":Str) = "gone"):=by decide +kernel
 cases c with
 | inn a w =>
  refine⟨"in",rfl,?_⟩;show some (My.bool (if false=true then !decide (("in":Str) = "gone") else decide (("in":Str) = "gone")))=_;rw[Jo (by decide),JY e1];rfl
 | lost a =>
  refine⟨"lost",rfl,?_⟩;show some (My.bool (if false=true then !decide (("lost":Str) = "gone") else decide (("lost":Str) = "gone")))=_;rw[Jo (by decide),JY e2];rfl
 | gone a m w=>exact⟨"gone",rfl,yi⟩
abbrev Bs:DE->M Bool:=vX (uB (s2 (eqD false) (s2 ixD (sW 0) (sC (.int 0))) (sC (.str "gone")))) (uB (sCh leD ltD (sW 1) (s2 ixD (sW 0) (sC (.int 1))) (sW 2)))
def CD {b e:Nat}{c:Co}{F:FdS}{Q:Bool->FdS->Prop}(q:Q (V8 b e c) F):wp (Bs [some (.dat (coD c)),some (.dat (.int (b:Int))),some (.dat (.int (e:Int)))] F) Q:=by
 obtain⟨z,e1,e2⟩:=nh c;refine qg.2 (Y1.2 (n9.2 (n9.2 (g9.2 (i6 rfl (u7.2 (c6 e1 (u7.2 (c6 e2 (c6 rfl ?_))))))))));cases c with
 | inn a w=>exact u9 rfl q
 | lost a=>exact u9 rfl q
 | gone a m w =>
  refine T3 rfl (Y1.2 (Ae.2 (g9.2 (i6 rfl (n9.2 (g9.2 (i6 rfl (u7.2 (c6 rfl (c6 zJ (c6 rfl (P6 (λh=>?_) λh=>?_))))))))))))
  .have h:((b:Nat):Int)<=((a:Nat):Int):=JT h;refine g9.2 (i6 rfl (c6 AC (c6 rfl ?_)));have e3:V8 b e (.gone a m w)=decide (((a:Nat):Int)<((e:Nat):Int)):=by
    show(decide (b<=a)&&decide (a<e))=_;rw[Kn (show b<=a by omega),MV,KJ];omega
   rw[<-e3];exact q
  .have h:¬((b:Nat):Int)<=((a:Nat):Int):=Kj h;have e3:V8 b e (.gone a m w)=false:=by
    show(decide (b<=a)&&decide (a<e))=_;rw[JY (show ¬b<=a by omega),Ma]
   rw[e3]at q;exact c6 rfl q
def ik {b e:Nat}{l:List Co}:∀c∈l.filter (V8 b e),∃a m w,c = .gone a m w:=λc hc=>by
 have:=(JP.1 hc).2;cases c with
 | inn a w=>cases this
 | lost a=>cases this
 | gone a m w=>exact⟨a,m,w,rfl⟩
def R9 {α:Type}(f:α->Int)(l:List α):Y3 [.list (l.map λc=>.int (f c))]=some (.int (l.map f).sum):=by
 have e:l.map (λc=>My.int (f c))=(l.map f).map .int:=by rw[JF];rfl
 rw[e];exact CB
variable [Fam]
def kK:List DV->M My:=Z1 ["house","way","begin","end","between","stays","waited","stands","filled","present","unpicked"] (mSq (A8 4 (sLC (U3 (v7 bC (vD (sV 0) (vD (sV 1) E9)))) 1 [2,3] (bN 0) Bs (sV 0)))
  (mSq (A8 5 (sN Y3 (b9 (sLC (U3 (sW 4)) 4 [] (P9 4 (j8 (bN 0) (j8 (bN 1) (j8 (bN 2) (j8 (bN 3) S7))))) U2 (s2 fA (sW 2) (sW 1))) i5)))
  (mSq (A8 6 (sN Y3 (b9 (sLC (U3 (sW 4)) 4 [] (P9 4 (j8 (bN 0) (j8 (bN 1) (j8 (bN 2) (j8 (bN 3) S7))))) U2 (sV 3)) i5)))
  (mSq (A8 7 (s2 ixD (v7 qG (vD (sV 0) (vD (sV 1) (vD (sC (.tuple [])) E9)))) (sC (.int 0))))
  (mSq (A8 8 (sLC (qK (b9 (sV 2) (b9 (sV 3) i5))) 1 [0,7,1] (bN 0) U2 (s2 ixD (v7 Y7 (vD (sV 1) (vD (s2 ixD (sW 2) (sW 0)) (vD (s2 ixD (sW 3) (sW 0)) E9)))) (sC (.int 0)))))
  (mSq (A8 9 (sN Y3 (b9 (sLC (U3 (sW 8)) 1 [] (bN 0) U2 (sN U1 (b9 (sW 0) i5))) i5)))
  (mSq (A8 10 (sN Y3 (b9 (sLC (U3 (sW 8)) 1 [0] (bN 0) U2 (s2 fA (sN U1 (b9 (sW 0) i5)) (v7 bD (vD (sV 1) (vD (sV 0) E9))))) i5)))
  (mRt (V6 (b9 (sV 5) (b9 (sV 9) (b9 (sV 6) (b9 (sV 10) i5)))))))))))))
section
variable {F:FdS}{Q:My->FdS->Prop}
def Cy {r:My}{pl:Option Nat}{h b e:Nat}{way:List Bt}(hr:r∈W8)(hp:∀i<way.length,jU pl (P3 (C1 h (kOf r) (kb r) (tnB r) pl) [] way i).length)(hl:C0 way<64)(hn:way.length<=1000)(hbe:b<=e)(hen:e<=way.length)
  (q:Q (.tuple [.int (((M8 h (kOf r) (kb r) (tnB r) pl way way.length).told.filter (V8 b e)).map oa).sum,.int ((List.range (e-b)).map λi=>((J3 h (kOf r) (kb r) (tnB r) pl way (b+i):Nat):Int)).sum,
   .int (((M8 h (kOf r) (kb r) (tnB r) pl way way.length).told.filter (V8 b e)).map wtC).sum,.int ((List.range (e-b)).map λi=>((J3 h (kOf r) (kb r) (tnB r) pl way (b+i):Nat):Int)-(min h (J3 h (kOf r) (kb r) (tnB r) pl way (b+i)):Nat)).sum]) F) :
  wp (kK [.dat (.tuple [.int (h:Int),plD pl,r]),.dat (.tuple (way.map btD)),.dat (.int (b:Int)),.dat (.int (e:Int))] F) Q:=by
 have hfit:=λi hi=>bg (h:=h) (k:=kOf r) (kp:=kb r) (tn:=tnB r) (pl:=pl) (ps:=[]) (way:=way) (by simpa using hl) (i:=i) hi
 have hln:=aM (h:=h) (k:=kOf r) (kp:=kb r) (tn:=tnB r) (pl:=pl) (way:=way) (m:=way.length) (Jq _);have hst:=λm hm=>dm (h:=h) (k:=kOf r) (kp:=kb r) (tn:=tnB r) (pl:=pl) (way:=way) (m:=m) hm
 rw[LK]at hln;unfold kK;refine fZ.2 ?_;dsimp only[x4,Jy,Kl,JB,KE,List.replicate,KF,Ku,Nat.reduceAdd,Nat.reduceSub];refine i9.2 (l7.2 (S8.2 (D8.2 (x6.2 (G5.2 (l9.2 (l8 rfl (G5.2 (l9.2 (l8 rfl (C3.2 ?_)))))))))));refine oX hr hp hl hn (c6 P2 ⟨sz (by rw[Jf];omega),?_⟩);refine Dc (x:=coD) (g:=V8 b e) (f:=coD) _ _ (λc hc F Q q=>CD q) (λc hc _ F Q q=>l9.2 (l8 rfl q)) ⟨h8 rfl,h9 ?_⟩;have hfl:=Ky (V8 b e) (M8 h (kOf r) (kb r) (tnB r) pl way way.length).told;have hgo:=ik (b:=b) (e:=e) (l:=(M8 h (kOf r) (kb r) (tnB r) pl way way.length).told);generalize (M8 h (kOf r) (kb r) (tnB r) pl way way.length).told.filter (V8 b e)=gl at q hfl hgo;refine i9.2 (l7.2 (E5.2 (a9.2 (S8.2 (D8.2 (g9.2 (i6 rfl (c6 P2 ⟨sz (by rw[Jf];omega),?_⟩))))))));refine CN (x:=coD) (f:=λc=>.int (oa c)) (λE=>∃o0 o1 o2 o3,E=[o0,o1,o2,o3]) gl ⟨_,_,_,_,rfl⟩ (λc hc E ⟨o0,o1,o2,o3,eE⟩=>?_) (d7.2 (c6 (R9 oa gl) ⟨h8 rfl,h9 ?_⟩))
 .subst eE;obtain⟨a,m,w,rfl⟩:=hgo c hc;refine⟨_,rfl,⟨_,_,_,_,rfl⟩,λF Q q=>?_⟩;exact n9.2 (g9.2 (i6 rfl (g9.2 (i6 rfl (c6 X3 q)))))
 refine i9.2 (l7.2 (E5.2 (a9.2 (S8.2 (D8.2 (g9.2 (i6 rfl (c6 P2 ⟨sz (by rw[Jf];omega),?_⟩))))))));refine CN (x:=coD) (f:=λc=>.int (wtC c)) (λE=>∃o0 o1 o2 o3,E=[o0,o1,o2,o3]) gl ⟨_,_,_,_,rfl⟩ (λc hc E ⟨o0,o1,o2,o3,eE⟩=>?_) (d7.2 (c6 (R9 wtC gl) ⟨h8 rfl,h9 ?_⟩))
 .subst eE;obtain⟨a,m,w,rfl⟩:=hgo c hc;exact⟨_,rfl,⟨_,_,_,_,rfl⟩,λF Q q=>l9.2 (l8 rfl q)⟩
 refine i9.2 (l7.2 (n9.2 (x6.2 (G5.2 (l9.2 (l8 rfl (G5.2 (l9.2 (l8 rfl (G5.2 (u7.2 (C3.2 ?_))))))))))));refine Ep (ps:=[]) hr hp (by simpa using hl) hn (u7.2 (c6 rfl ⟨h8 rfl,h9 ?_⟩));refine i9.2 (l7.2 (S8.2 (BN (a9.2 (l9.2 (l8 rfl (a9.2 (l9.2 (l8 rfl (d7.2 ?_))))))))));refine c6 (vj (by omega) (by omega) (by omega) (by omega)) ?_;have er:(((e:Nat):Int)-((b:Nat):Int)).toNat=e-b:=by omega
 rw[er,nj];refine⟨sz (by rw[C7];simp;omega),?_⟩;have en:j3 ((List.range (e-b)).map (b + ·))=(List.range (e-b)).map λi=>My.int ((b+i:Nat):Int):=by unfold j3;rw[JF];rfl
 rw[en];refine oS (x:=λi=>My.int ((b+i:Nat):Int)) (f:=λi=>stD (i3 pl (M8 h (kOf r) (kb r) (tnB r) pl way (b+i)).st (f7 way (b+i)))) _ _ (λi hi F Q q=>?_) ⟨h8 rfl,h9 ?_⟩
 .have hi:=JN.1 hi;have hm:b+i<way.length:=by omega
  have h1:=hfit _ hm;have h2:=hp _ hm;rw[hst _ (by omega)]at q;have eb:ixD (.tuple (way.map btD)) (.int ((b+i:Nat):Int))=some (btD (f7 way (b+i))):=by
   show atI (way.map btD) ((b+i:Nat):Int)=_;refine W1 ?_;rw[Js,Ji hm];unfold f7;simp[hm]
  refine n9.2 (x6.2 (G5.2 (l9.2 (l8 rfl (G5.2 (n9.2 (g9.2 (i6 rfl (g9.2 (i6 rfl (c6 (Bi (f:=λi=>stD (P3 (C1 h (kOf r) (kb r) (tnB r) pl) [] way i)) (n:=way.length+1) (i:=b+i) (by omega)) (G5.2 (n9.2 (g9.2 (i6 rfl (g9.2 (i6 rfl (c6 eb (C3.2 ?_))))))))))))))))))) ;exact gK h2 (by omega) (u7.2 (c6 rfl q))
 refine i9.2 (l7.2 (E5.2 (a9.2 (S8.2 (D8.2 (g9.2 (i6 rfl (c6 P2 ⟨sz (by simp;omega),?_⟩))))))));refine oS (x:=λi=>stD (i3 pl (M8 h (kOf r) (kb r) (tnB r) pl way (b+i)).st (f7 way (b+i)))) (f:=λi=>.int ((J3 h (kOf r) (kb r) (tnB r) pl way (b+i):Nat):Int)) _ _ (λi hi F Q q=>?_) (d7.2 (c6 (R9 (λi=>((J3 h (kOf r) (kb r) (tnB r) pl way (b+i):Nat):Int)) _) ⟨h8 rfl,h9 ?_⟩))
 .refine E5.2 (a9.2 (g9.2 (i6 rfl (d7.2 (c6 cR ?_)))));rw[Jf];exact q
 refine i9.2 (l7.2 (E5.2 (a9.2 (S8.2 (D8.2 (g9.2 (i6 rfl (c6 P2 ⟨sz (by simp;omega),?_⟩))))))));refine oS (x:=λi=>stD (i3 pl (M8 h (kOf r) (kb r) (tnB r) pl way (b+i)).st (f7 way (b+i)))) (f:=λi=>.int (((J3 h (kOf r) (kb r) (tnB r) pl way (b+i):Nat):Int)-(min h (J3 h (kOf r) (kb r) (tnB r) pl way (b+i)):Nat))) _ _ (λi hi F Q q=>?_) (d7.2 (c6 (R9 (λi=>((J3 h (kOf r) (kb r) (tnB r) pl way (b+i):Nat):Int)-(min h (J3 h (kOf r) (kb r) (tnB r) pl way (b+i)):Nat)) _) ⟨h8 rfl,h9 ?_⟩))
 .refine n9.2 (E5.2 (a9.2 (g9.2 (i6 rfl (d7.2 (c6 cR (x6.2 (G5.2 (l9.2 (l8 rfl (G5.2 (l9.2 (l8 rfl (C3.2 ?_))))))))))))));refine BE (c6 X3 ?_);rw[Jf];exact q
 exact aT.2 (R1.2 (a9.2 (l9.2 (l8 rfl (a9.2 (l9.2 (l8 rfl (a9.2 (l9.2 (l8 rfl (a9.2 (l9.2 (l8 rfl (d7.2 ⟨B3 rfl,ft q⟩))))))))))))))
end
end
section
def Wt (t:Nat):Co->Prop
 | .inn b w=>b<=t/\w<=t
 | .lost b=>b<=t
 | .gone b m w=>b<=t/\m<=t/\w<=t
def Wt.more {t:Nat}{c:Co}(h:Wt t c):Wt (t+1) c:=by
 cases c with
 | lost b=>have h:b<=t:=h;show b<=t+1;omega
 | gone b m w=>obtain⟨h1,h2,h3⟩:=h;exact⟨by omega,by omega,by omega⟩
 | inn b w=>obtain⟨h1,h2⟩:=h;exact⟨by omega,by omega⟩
def Wt.aft {t:Nat}{x y:Bool}{c:Co}(h:Wt t c):Wt (t+1) (aft t x y c):=by
 cases c with
 | lost b=>exact Wt.more h
 | gone b m w=>exact Wt.more h
 | inn b w =>
  obtain⟨h1,h2⟩:=h;cases y with
  | true=>exact⟨by omega,Jq _,by omega⟩
  | false=>cases x <;> exact⟨by omega,by simp;omega⟩
theorem qL {h k:Nat}{kp tn:Bool}{pl:Option Nat}{way:List Bt}:∀m,∀c∈(M8 h k kp tn pl way m).told,Wt m c
 | 0,c,hc=>by cases hc
 | m+1,c,hc=>by
  have ih:=qL (h:=h) (k:=k) (kp:=kp) (tn:=tn) (pl:=pl) (way:=way) m;have hT:∀c∈y9 pl m (f7 way m) (M8 h k kp tn pl way m),Wt m c:=λc hc=>by
   unfold y9 at hc;rcases Jj.1 hc with hc | hc
   .exact ih c hc
   rcases Jj.1 hc with hc | hc
   .rw[(List.mem_replicate.1 hc).2];exact⟨Jq _,Ka _⟩
   .rw[(List.mem_replicate.1 hc).2];exact Jq m
  obtain⟨n,hn,rfl⟩:=JS.1 (show c∈List.map _ _ from hc);have hn:=JN.1 hn;have hg:(y9 pl m (f7 way m) (M8 h k kp tn pl way m)).getD n (.lost 0)∈y9 pl m (f7 way m) (M8 h k kp tn pl way m):=by
   rw[Jr,Ji hn];exact Mi hn
  have h1:=hT _ hg;by_cases hi:n∈x9 pl (f7 way m) (M8 h k kp tn pl way m)
  .rw[Jk hi];exact h1.aft
  .rw[Jo hi];exact h1.more
end
section
variable [Fam]
mutual
def sml:My->Prop
 | .none=>True
 | .bool _=>True
 | .int i=>i.natAbs<2 ^ 40
 | .str x=>x.length<=20/\asc x
 | .tuple ds=>uc ds
 | .list ds=>uc ds
 | .dict _=>False
def uc:List My->Prop
 | []=>True
 | d::ds=>sml d/\uc ds
end
theorem dX:∀{ds:List My},uc ds↔∀d∈ds,sml d
 | []=>by simp[uc]
 | d::ds=>by simp[uc,dX (ds:=ds)]
structure Sml (N k:Nat) (d:My):Prop where
 sc:sml d
 dp:d.depth<=k
 ct:cnt d<=N
structure Nos (d:My):Prop where
 sh:d.showable=true
 nd:d.hasDict=false
 cl:d.canLay0=true
 ln:d.shown.length+2<=300*cnt d
def DP {ds:List My}:(∀d∈ds,Nos d)->My.showableAll ds=true/\My.hasDictAll ds=false/\My.canLayAll0 ds=true/\((My.shownAll ds).map (·.length)).sum+2*ds.length<=300*eP ds:=by
 induction ds with
 | nil=>intro _;exact⟨by simp[My.showableAll],by simp[My.hasDictAll],by simp[My.canLayAll0],by simp[My.shownAll,eP]⟩
 | cons d ds ih =>
  intro h;obtain⟨a,b,c,e⟩:=ih λx hx=>h x (Jh _ hx)
  have hd:=h d Jv;refine⟨by simp[My.showableAll,hd.sh,a],by simp[My.hasDictAll,hd.nd,b],by simp[My.canLayAll0,hd.cl,c],?_⟩;simp only[My.shownAll,Jy,Ny,JB,eP];have:=hd.ln;omega
def AE:∀m:Nat,∀d:My,sizeOf d<m->sml d->Nos d:=by
 intro m;induction m with
 | zero=>intro d h;exact absurd h (Ng _)
 | succ m ih =>
  intro d hm hs;cases d with
  | none=>exact⟨rfl,rfl,rfl,by decide⟩
  | bool b=>exact⟨rfl,rfl,rfl,by cases b <;> decide⟩
  | int i =>
   simp only[sml]at hs;have:=Shw.int hs (by decide) (by decide);exact⟨this.sh,this.nd,rfl,by have:=this.ln;simp only[cnt];omega⟩
  | str x =>
   simp only[sml]at hs;refine⟨rfl,rfl,?_,?_⟩
   .simp only[My.canLay0,My.strOk];rw[Array.all_eq_true'];intro c hc;have:=hs.2 c (by simpa using hc);exact Kn (by omega)
   .have h1:=Nz x λc hc=>JH (hs.2 c hc) (by decide)
    simp only[My.shown,cnt];omega
  | tuple ds =>
   simp only[sml]at hs;rw[dX]at hs;obtain⟨a,b,c,e⟩:=DP λd hd=>ih d (by have:=Mb hd;simp at hm;omega) (hs d hd)
   refine⟨by simpa only[My.showable] using a,by simpa only[My.hasDict] using b,by simpa only[My.canLay0] using c,?_⟩;have h5:=tupleText_len_le (My.shownAll ds);have h6:=LV ds;simp only[My.shown,cnt];omega
  | list ds =>
   simp only[sml]at hs;rw[dX]at hs;obtain⟨a,b,c,e⟩:=DP λd hd=>ih d (by have:=Mb hd;simp at hm;omega) (hs d hd)
   refine⟨by simpa only[My.showable] using a,by simpa only[My.hasDict] using b,by simpa only[My.canLay0] using c,?_⟩;have h5:=listText_len_le (My.shownAll ds);have h6:=LV ds;simp only[My.shown,cnt];omega
  | dict kvs=>simp only[sml]at hs
section
variable {N k:Nat}{d:My}
def Sml.repr (h:Sml N k d)(hN:N<=50000)(hk:k<=50):cG d=true:=by
 have hd:=AE _ d (Lu _) h.sc;unfold cG;rw[hd.sh,hd.nd];have h1:=hd.ln;have h2:=h.ct;have h3:=h.dp;simp;constructor <;> omega
def Sml.mono {N' k':Nat}(h:Sml N k d)(h2:N<=N')(h3:k<=k'):Sml N' k' d:=⟨h.sc,JM h.dp h3,JM h.ct h2⟩
end
def wm {k:Nat}{ds:List My}(h:∀d∈ds,d.depth<=k):My.depthAll ds<=k:=aZ.2 h
def Sml.tup {c k:Nat}{ds:List My}(h:∀d∈ds,Sml c k d):Sml (1+c*ds.length) (k+1) (.tuple ds):=by
 refine⟨?_,?_,?_⟩
 .simp only[sml];rw[dX];exact λd hd=>(h d hd).sc
 .have:=wm λd hd=>(h d hd).dp
  simp only[My.depth];omega
 .have:=iT (c:=c) λd hd=>(h d hd).ct
  simp only[cnt];omega
def yu {i:Int}(h0:-100000000<=i)(h1:i<=100000000):Sml 1 0 (.int i):=⟨by simp only[sml];omega,by simp[My.depth],by simp[cnt]⟩
end
section
variable [Fam]
section
abbrev hsD (h:Nat)(pl:Option Nat)(r:My):My:=.tuple [.int (h:Int),plD pl,r]
abbrev wyD (way:List Bt):My:=.tuple (way.map btD)
def EL {x y:Str}:eqD true (.str x) (.str y)=some (.bool (!decide (x=y))):=by
 show some (My.bool (if true=true then !decide (x=y) else decide (x=y)))=_;rw[Jk rfl]
def BQ {x:Str}:eqD true (.str x) (.str x)=some (.bool false):=by rw[EL];simp
end
end
end L3
namespace K23
open PySem L2 L3
section
def top (i:Nat):NW:=PySem.Challenge.pw_hatchwaits_k23_sums_of_stretches.main.body.getD i (.Pass ⟨0,0,0,0⟩)
instance famI:Fam:=EC ["lined_up","picked"]
instance lamI:LamC:=⟨["lined_up","picked"]⟩
abbrev GA:NW:=top 2
abbrev Gk:NW:=top 3
abbrev Gf:NW:=top 5
abbrev Fd:NW:=top 6
abbrev Gg:NW:=top 7
abbrev FE:NW:=top 8
abbrev GW:NW:=top 9
abbrev Ik:NW:=top 11
abbrev Fw:NW:=top 12
abbrev Fm:NW:=top 13
abbrev Fx:NW:=top 15
abbrev FF:NW:=top 17
abbrev FG:NW:=top 18
abbrev FH:NW:=top 19
abbrev Fy:NW:=top 20
abbrev FT:NW:=top 21
abbrev Fe:NW:=top 22
abbrev Fj:NW:=top 23
abbrev Ff:NW:=top 24
abbrev Fq:NW:=top 25
abbrev Fs:NW:=top 26
abbrev FU:NW:=top 27
abbrev EZ:NW:=top 28
abbrev EX:NW:=top 29
structure Txt (K:PySem.W.Frag) (mg:Str->Option NO):Prop where
 enumerate:mg "enumerate" = none
 int:mg "int" = none
 len:mg "len" = none
 list:mg "list" = none
 max:mg "max" = none
 min:mg "min" = none
 range:mg "range" = none
 repr:mg "repr" = none
 sorted:mg "sorted" = none
 sum:mg "sum" = none
 tuple:mg "tuple" = none
 g_KEEPING:GD K mg "KEEPING" (.tuple [.str "first",.str "last",.str "short",.str "front"])
section
variable {P:NR}{w:NS}{K:PySem.W.Frag}{mg:Str->Option NO}{base:NY}
def xH:FnScope ["rule"] ["rule"] (defScope GA):={}
abbrev lu:=dN
def Il {f:NP}{fd:NV}(Fn:Fun K "keeps" "keeps" GA f fd)(T:Txt K mg) :FnOk P w K mg base CX0 1 f fd ["rule"] (spD K 1 lu):=by
 refine O8 Fn xH λcdv A outer s H E hr=>?_
 have hu5:(A.deeper (PyProof.Rows.envOfC "keeps" (defScope GA) s.heap.objs.size f cdv)).units+65<On:=by have:=hr.un;omega
 exact⟨_,(l4 (z8 (fk (ay rfl hu5) (d9 0) (Ev.bw (EB T.g_KEEPING)))))⟩
def pT:FnScope ["house","stand"] ["house","stand"] (defScope Gk):={}
abbrev jW:=bD
def Hz {f:NP}{fd:NV}(Fn:Fun K "in_hand" "in_hand" Gk f fd)(T:Txt K mg) :FnOk P w K mg base CX0 1 f fd ["house","stand"] (spD K 2 jW):=by
 refine O8 Fn pT λcdv A outer s H E hr=>?_
 exact⟨_,(l4 (z8 (j4 (xA rfl rfl) T.min vo (f9 (Ev.bw (t8 (r6 rfl) (d9 0) (Ev.bw f8))) (f9 (Ev.bw (j4 (K2 rfl) T.len J6 (f9 (d9 1) j7))) j7)))))⟩
def bA:FnScope ["house","stand","beat","places","room","entered"] ["house","stand","beat"] (defScope Gf):={}
abbrev dk:=Y7
def HU {f:NP}{fd:NV}(Fn:Fun K "let_in" "let_in" Gf f fd)(T:Txt K mg) :FnOk P w K mg base CX0 1 f fd ["house","stand","beat"] (spD K 3 dk):=by
 refine O8 Fn bA λcdv A outer s H E hr=>?_
 exact⟨_,(c9 (u4 3 bA.nd (t8 (r6 rfl) (d9 0) (Ev.bw f8)))
   (c9 (u4 4 bA.nd (lU (E3 uN (d9 3) (Ev.bw bj)) (j4 (K2 rfl) T.len J6 (f9 (d9 2) j7)) (F8 X8 (d9 3) (Ev.bw (j4 (K2 rfl) T.len J6 (f9 (d9 1) j7))))))
   (c9 (aR 5 (hN:=bA.nd) (osc:=(defScope Gf)) (N:=["rank","work"]) (k:=2) (cap:=[]) (hc:=rfl) (hosc:=rfl) (hcap:=⟨rfl,by decide +kernel,by decide +kernel,by decide +kernel,rfl,rfl,by decide +kernel⟩) (G1 (Ev.bw (lN (d9 2) wX (vP (j6 4))))) (λcl C ex pins s H=>(D2 (n:=2) rfl (d5 (n8 (i:=0) (show List.Nodup (["rank","work"]:List Str) by decide +kernel)) (d5 (n8 (i:=1) (show List.Nodup (["rank","work"]:List Str) by decide +kernel)) x5)))) (λcl C ex pins s H=>G7) (λcl C ex pins s H=>(J5 (d0 (j6 0) (d0 (j6 1) (d0 jO j9))))))
   (l4 (z8 (J5 (d0 (F8 (R0 rfl) (d9 1) (Ev.bw (E7 (J7 rfl) T.tuple K5 (f9 (d9 5) j7)))) (d0 (F8 X8 (Ev.bw (j4 (K2 rfl) T.len J6 (f9 (d9 2) j7))) (Ev.bw (j4 (K2 rfl) T.len J6 (f9 (d9 5) j7)))) j9))))))))⟩
def gf:FnScope ["rule","stand","places"] ["rule","stand"] (defScope Fd):={}
abbrev iH:=Fo
def Hi {f c P0:NP}{fd:NV}(Fn:Fun K "lined_up" "lined_up" Fd f fd)(T:Txt K mg)(LB:LamB K mg base "lined_up" fd c P0) :FnOk P w K mg base CX0 1 f fd ["rule","stand"] (spD K 2 iH):=by
 refine rZ Fn gf λcdv A outer s H E hcd hr=>?_
 obtain rfl:cdv = .ref c:=hcd.symm.trans LB.code;have hu5:(A.deeper (PyProof.Rows.envOfC "lined_up" (defScope Fd) s.heap.objs.size f (.ref c))).units+65<On:=by have:=hr.un;omega
 exact⟨_,(c9 (u4 2 gf.nd (xk (d0 (j4 (K2 rfl) T.len J6 (f9 (d9 1) j7)) j9) rfl T.range T.list lC))
   (c9 (W6 (E3 (ay rfl hu5) (d9 0) (Ev.bw (bo (.tuple [.str "last",.str "lastoff"]) rfl))) (l4 (z8 (CL (d9 2)))) R3)
   (c9 (W6 (E3 (ay rfl hu5) (d9 0) (Ev.bw (bo (.tuple [.str "short",.str "shortoff"]) rfl))) (l4 (z8 (vC (osc:=(defScope Fd)) (N:=["place","stand"]) (cap:=[1]) (y:="place") LB rfl T.sorted hr rfl (d0 (j6 2) j9) rfl ⟨rfl,rfl,rfl,by decide +kernel,rfl,rfl,by decide +kernel,rfl,rfl,by decide +kernel⟩ rfl rfl (λcl f c' Y s H=>(t8 (r6 rfl) (Ev.bw (t8 (r6 rfl) (d9 1) (d9 0))) (Ev.bw f8)))))) R3)
   (c9 (W6 (E3 (ay rfl hu5) (d9 0) (Ev.bw (bo (.tuple [.str "front",.str "frontoff"]) rfl))) (l4 (z8 (vC (osc:=(defScope Fd)) (N:=["place","stand"]) (cap:=[1]) (y:="place") LB rfl T.sorted hr rfl (d0 (j6 2) j9) rfl ⟨rfl,rfl,rfl,by decide +kernel,rfl,rfl,by decide +kernel,rfl,rfl,by decide +kernel⟩ rfl rfl (λcl f c' Y s H=>(t8 (r6 rfl) (Ev.bw (t8 (r6 rfl) (d9 1) (d9 0))) (Ev.bw f8)))))) R3)
   (l4 (z8 (j6 2)))))))⟩
def U6:FnScope ["house","stand","hands","places","rule","order"] ["house","stand"] (defScope Gg):={}
abbrev om:=FD
def HV {f c P0:NP}{fd:NV}(Fn:Fun K "picked" "picked" Gg f fd)(T:Txt K mg)(LB:LamB K mg base "picked" fd c P0)(FV:k9 P w K mg base "lined_up" 1 ["rule","stand"] (spD K 2 iH))(FQ:k9 P w K mg base "keeps" 1 ["rule"] (spD K 1 lu)):FnOk P w K mg base CX0 2 f fd ["house","stand"] (spD K 2 om):=by
 refine rZ Fn U6 λcdv A outer s H E hcd hr=>?_
 obtain rfl:cdv = .ref c:=hcd.symm.trans LB.code;exact⟨_,(c9 (Z7 (j6 0) (D2 (n:=3) rfl (d5 (n8 (i:=2) U6.nd) (d5 (n8 (i:=3) U6.nd) (d5 (n8 (i:=4) U6.nd) x5)))))
   (c9 (u4 5 U6.nd (k8 FV (hr.mono (by decide)) (v9 (j6 4) (v9 (j6 1) p0)) (v8 (v8 r9))))
   (c9 (W6 (kh (Ev.bw (k8 FQ (hr.mono (by decide)) (v9 (j6 4) p0) (v8 r9)))) (l4 (u4 5 U6.nd (vC (osc:=(defScope Gg)) (N:=["place","stand"]) (cap:=[1]) (y:="place") LB rfl T.sorted hr rfl (d0 (j6 5) j9) rfl ⟨rfl,rfl,rfl,by decide +kernel,rfl,rfl,by decide +kernel,rfl,rfl,by decide +kernel⟩ rfl rfl (λcl f c' Y s H=>(BO (t8 (r6 rfl) (Ev.bw (t8 (r6 rfl) (d9 1) (d9 0))) (Ev.bw f8))))))) R3)
   (l4 (z8 (E7 (J7 rfl) T.tuple K5 (f9 (Ev.bw (j4 (fC rfl) T.sorted eZ (f9 (Ev.bw (lN (d9 5) wX (vP (j6 2)))) j7))) j7)))))))⟩
def G3:FnScope ["house","stand","rule","hands_on","waiting","served","gone","place","rank","left","begun","staying"] ["house","stand"] (defScope FE):={}
abbrev iw:=aN
def HW {f:NP}{fd:NV}(Fn:Fun K "worked" "worked" FE f fd)(T:Txt K mg)(GB:k9 P w K mg base "picked" 2 ["house","stand"] (spD K 2 om))(FQ:k9 P w K mg base "keeps" 1 ["rule"] (spD K 1 lu)):FnOk P w K mg base CX0 3 f fd ["house","stand"] (spD K 2 iw):=by
 refine O8 Fn G3 λcdv A outer s H E hr=>?_
 have hu5:(A.deeper (PyProof.Rows.envOfC "worked" (defScope FE) s.heap.objs.size f cdv)).units+65<On:=by have:=hr.un;omega
 exact⟨_,(c9 (u4 2 G3.nd (t8 (r6 rfl) (d9 0) (Ev.bw f8)))
   (c9 (u4 3 G3.nd (k8 GB (hr.mono (by decide)) (v9 (j6 0) (v9 (j6 1) p0)) (v8 (v8 r9))))
   (c9 (aR 4 (hN:=G3.nd) (osc:=(defScope FE)) (N:=["place","person","hands_on"]) (k:=2) (cap:=[3]) (hc:=rfl) (hosc:=rfl) (hcap:=⟨rfl,by decide +kernel,by decide +kernel,by decide +kernel,rfl,rfl,by decide +kernel⟩) (vh (d9 1) T.enumerate) (λcl C ex pins s H=>(D2 (n:=2) rfl (d5 (n8 (i:=0) (show List.Nodup (["place","person","hands_on"]:List Str) by decide +kernel)) (d5 (n8 (i:=1) (show List.Nodup (["place","person","hands_on"]:List Str) by decide +kernel)) x5)))) (λcl C ex pins s H=>(kB (E3 (mH rfl hu5) (d9 0) (d9 2)))) (λcl C ex pins s H=>(J5 (d0 (j6 0) (d0 (j6 1) j9)))))
   (c9 (yx 5 6 rfl G3.nd (uy (T2 j9)) (uy (T2 j9)))
   (c9 (X4 rfl (kl (j6 3)) (n8 (i:=7) G3.nd) (c9 (Z7 (t8 (r6 rfl) (d9 1) (d9 7)) (D2 (n:=3) rfl (d5 (n8 (i:=8) G3.nd) (d5 (n8 (i:=9) G3.nd) (d5 (n8 (i:=10) G3.nd) x5)))))
   (l4 (W6 (E3 zM (d9 9) (Ev.bw f8)) (l4 (Z9 5 rfl (J5 (d0 (j6 7) (d0 (J5 (d0 (j6 8) (d0 (F8 X8 (d9 9) (Ev.bw f8)) (d0 (k8 FQ (hr.mono (by decide)) (v9 (j6 2) p0) (v8 r9)) j9)))) j9))))) (l4 (Z9 6 rfl (j6 7)))))))
   (c9 (u4 11 G3.nd (lU (E3 (qO rfl hr.units) (d9 2) (Ev.bw ck)) (F8 (R0 rfl) (d9 4) (d9 5)) (j4 (fC rfl) T.sorted eZ (f9 (Ev.bw (F8 (R0 rfl) (d9 4) (d9 5))) j7))))
   (l4 (z8 (J5 (d0 (j6 11) (d0 (j6 3) (d0 (E7 (J7 rfl) T.tuple K5 (f9 (d9 6) j7)) j9))))))))))))⟩
def bO:FnScope ["house","stand","beat","filled","lost","staying","hands_on","gone"] ["house","stand","beat"] (defScope GW):={}
abbrev vZ:=la
def IA {f:NP}{fd:NV}(Fn:Fun K "step" "step" GW f fd)(T:Txt K mg)(Fb:k9 P w K mg base "let_in" 1 ["house","stand","beat"] (spD K 3 dk))(Fv:k9 P w K mg base "worked" 3 ["house","stand"] (spD K 2 iw)):FnOk P w K mg base CX0 4 f fd ["house","stand","beat"] (spD K 3 vZ):=by
 refine O8 Fn bO λcdv A outer s H E hr=>?_
 exact⟨_,(c9 (Z7 (k8 Fb (hr.mono (by decide)) (v9 (j6 0) (v9 (j6 1) (v9 (j6 2) p0))) (v8 (v8 (v8 r9)))) (D2 (n:=2) rfl (d5 (n8 (i:=3) bO.nd) (d5 (n8 (i:=4) bO.nd) x5))))
   (c9 (Z7 (k8 Fv (hr.mono (by decide)) (v9 (j6 0) (v9 (j6 3) p0)) (v8 (v8 r9))) (D2 (n:=3) rfl (d5 (n8 (i:=5) bO.nd) (d5 (n8 (i:=6) bO.nd) (d5 (n8 (i:=7) bO.nd) x5)))))
   (l4 (z8 (J5 (d0 (E7 (J7 rfl) T.tuple K5 (f9 (Ev.bw (aJ (osc:=(defScope GW)) (N:=["place","person"]) (k:=2) (cap:=[]) rfl rfl ⟨rfl,by decide +kernel,by decide +kernel,by decide +kernel,rfl,rfl,by decide +kernel⟩ (G1 (d9 5)) (λcl C ex pins s H=>(D2 (n:=2) rfl (d5 (n8 (i:=0) (show List.Nodup (["place","person"]:List Str) by decide +kernel)) (d5 (n8 (i:=1) (show List.Nodup (["place","person"]:List Str) by decide +kernel)) x5)))) (λcl C ex pins s H=>G7) (λcl C ex pins s H=>(j6 1)))) j7)) (d0 (j6 4) (d0 (j6 7) j9))))))))⟩
def eI:FnScope ["house","way","stand","stands","lost","gone","beat","following","turned_away","places"] ["house","way","stand"] (defScope Ik):={}
abbrev Ax:=qG
def IQ {f:NP}{fd:NV}(Fn:Fun K "run" "run" Ik f fd)(T:Txt K mg)(HA:k9 P w K mg base "step" 4 ["house","stand","beat"] (spD K 3 vZ)):FnOk P w K mg base CX0 5 f fd ["house","way","stand"] (spD K 3 Ax):=by
 refine O8 Fn eI λcdv A outer s H E hr=>?_
 exact⟨_,(c9 (wj 3 4 5 rfl eI.nd (uy (T2 (d0 (j6 2) j9))) (uy (T2 j9)) (uy (T2 j9)))
   (c9 (X4 rfl (kl (j6 1)) (n8 (i:=6) eI.nd) (c9 (Z7 (k8 HA (hr.mono (by decide)) (v9 (j6 0) (v9 (t8 (r6 rfl) (d9 3) (Ev.bw (Aq xt (Ev.bw f8)))) (v9 (j6 6) p0))) (v8 (v8 (v8 r9)))) (D2 (n:=3) rfl (d5 (n8 (i:=7) eI.nd) (d5 (n8 (i:=8) eI.nd) (d5 (n8 (i:=9) eI.nd) x5)))))
   (c9 (Z9 3 rfl (j6 7))
   (c9 (Z9 4 rfl (j6 8))
   (l4 (Z9 5 rfl (j4 (K2 rfl) T.len J6 (f9 (d9 9) j7))))))))
   (l4 (z8 (J5 (d0 (E7 (J7 rfl) T.tuple K5 (f9 (d9 3) j7)) (d0 (E7 (J7 rfl) T.tuple K5 (f9 (d9 4) j7)) (d0 (E7 (J7 rfl) T.tuple K5 (f9 (d9 5) j7)) j9))))))))⟩
def M5:FnScope ["course","waited","gone_at","word","beat","waits"] ["course","waited","gone_at"] (defScope Fw):={}
abbrev dU:=L8
def GN {f:NP}{fd:NV}(Fn:Fun K "after_beat" "after_beat" Fw f fd)(T:Txt K mg) :FnOk P w K mg base CX0 1 f fd ["course","waited","gone_at"] (spD K 3 dU):=by
 refine O8 Fn M5 λcdv A outer s H E hr=>?_
 exact⟨_,(c9 (Z7 (j6 0) (D2 (n:=3) rfl (d5 (n8 (i:=3) M5.nd) (d5 (n8 (i:=4) M5.nd) (d5 (n8 (i:=5) M5.nd) x5)))))
   (c9 (yH 5 M5.nd (lU (kh (d9 1)) f8 f8))
   (c9 (W6 (E3 uN (d9 2) (Ev.bw bj)) (l4 (z8 (J5 (d0 (j6 3) (d0 (j6 4) (d0 (j6 5) j9)))))) R3)
   (l4 (z8 (J5 (d0 ck (d0 (j6 4) (d0 (j6 2) (d0 (j6 5) j9))))))))))⟩
def r8:FnScope ["house","way","told","stand","inside","at","beat","filled","lost","entered","staying","hands_on","gone","place","number"] ["house","way"] (defScope Fm):={}
abbrev jt:=bC
def HB {f:NP}{fd:NV}(Fn:Fun K "courses" "courses" Fm f fd)(T:Txt K mg)(Fb:k9 P w K mg base "let_in" 1 ["house","stand","beat"] (spD K 3 dk))(Fv:k9 P w K mg base "worked" 3 ["house","stand"] (spD K 2 iw))(FA:k9 P w K mg base "after_beat" 1 ["course","waited","gone_at"] (spD K 3 dU)):FnOk P w K mg base CX0 4 f fd ["house","way"] (spD K 2 jt):=by
 refine O8 Fn r8 λcdv A outer s H E hr=>?_
 have hu5:(A.deeper (PyProof.Rows.envOfC "courses" (defScope Fm) s.heap.objs.size f cdv)).units+65<On:=by have:=hr.un;omega
 exact⟨_,(c9 (cN 2 r8.nd (T2 j9))
   (c9 (oz 3 4 rfl rfl r8.nd (Ca (bo (.tuple []) rfl)) (uy (T2 j9)))
   (c9 (X4 rfl (rN (j6 1) T.enumerate) (D2 (n:=2) rfl (d5 (n8 (i:=5) r8.nd) (d5 (n8 (i:=6) r8.nd) x5))) (c9 (Z7 (k8 Fb (hr.mono (by decide)) (v9 (j6 0) (v9 (j6 3) (v9 (j6 6) p0))) (v8 (v8 (v8 r9)))) (D2 (n:=2) rfl (d5 (n8 (i:=7) r8.nd) (d5 (n8 (i:=8) r8.nd) x5))))
   (c9 (u4 9 r8.nd (F8 X8 (Ev.bw (j4 (K2 rfl) T.len J6 (f9 (d9 6) j7))) (d9 8)))
   (c9 (rF 4 r8.nd (Ev.bw (wL (d0 (j4 (K2 rfl) T.len J6 (f9 (d9 2) j7)) (d0 (F8 (R0 rfl) (Ev.bw (j4 (K2 rfl) T.len J6 (f9 (d9 2) j7))) (d9 9)) j9)) rfl T.range T.list lC)))
   (c9 (rF 2 r8.nd (Ev.bw (F8 (R0 rfl) (Ev.bw (F8 (kg rfl) (Ev.bw (pL (d0 (J5 (d0 ck (d0 (j6 5) (d0 f8 j9)))) j9))) (d9 9))) (Ev.bw (F8 (kg rfl) (Ev.bw (pL (d0 (J5 (d0 ck (d0 (j6 5) j9))) j9))) (d9 8))))))
   (c9 (Z7 (k8 Fv (hr.mono (by decide)) (v9 (j6 0) (v9 (j6 7) p0)) (v8 (v8 r9))) (D2 (n:=3) rfl (d5 (n8 (i:=10) r8.nd) (d5 (n8 (i:=11) r8.nd) (d5 (n8 (i:=12) r8.nd) x5)))))
   (c9 (Ce 4 (X4 rfl (rN (j6 4) T.enumerate) (D2 (n:=2) rfl (d5 (n8 (i:=13) r8.nd) (d5 (n8 (i:=14) r8.nd) x5))) (l4 (Ci 2 (k8 FA (hr.mono (by decide)) (v9 (t8 (r6 rfl) (d9 2) (d9 14)) (v9 (fk (mH rfl hu5) (d9 13) (d9 11)) (v9 (lU (E3 (ay rfl hu5) (d9 13) (d9 12)) (F8 (R0 rfl) (d9 5) (Ev.bw f8)) bj) p0))) (v8 (v8 (v8 r9)))) (j6 14)))))
   (c9 (cN 4 r8.nd (CV (osc:=(defScope Fm)) (N:=["place","person","inside"]) (k:=2) (cap:=[4]) rfl rfl ⟨rfl,by decide +kernel,by decide +kernel,by decide +kernel,rfl,rfl,by decide +kernel⟩ (G1 (d9 10)) (λcl C ex pins s H=>(D2 (n:=2) rfl (d5 (n8 (i:=0) (show List.Nodup (["place","person","inside"]:List Str) by decide +kernel)) (d5 (n8 (i:=1) (show List.Nodup (["place","person","inside"]:List Str) by decide +kernel)) x5)))) (λcl C ex pins s H=>G7) (λcl C ex pins s H=>(t8 (r6 rfl) (d9 2) (d9 0)))))
   (l4 (u4 3 r8.nd (E7 (J7 rfl) T.tuple K5 (f9 (Ev.bw (aJ (osc:=(defScope Fm)) (N:=["place","person"]) (k:=2) (cap:=[]) rfl rfl ⟨rfl,by decide +kernel,by decide +kernel,by decide +kernel,rfl,rfl,by decide +kernel⟩ (G1 (d9 10)) (λcl C ex pins s H=>(D2 (n:=2) rfl (d5 (n8 (i:=0) (show List.Nodup (["place","person"]:List Str) by decide +kernel)) (d5 (n8 (i:=1) (show List.Nodup (["place","person"]:List Str) by decide +kernel)) x5)))) (λcl C ex pins s H=>G7) (λcl C ex pins s H=>(j6 1)))) j7))))))))))))
   (l4 (yf 2)))))⟩
def W3:FnScope ["house","way","begin","end","between","stays","waited","stands","filled","present","unpicked"] ["house","way","begin","end"] (defScope Fx):={}
abbrev eC:=kK
def IB {f:NP}{fd:NV}(Fn:Fun K "sums" "sums" Fx f fd)(T:Txt K mg)(Gm:k9 P w K mg base "courses" 4 ["house","way"] (spD K 2 jt))(Im:k9 P w K mg base "run" 5 ["house","way","stand"] (spD K 3 Ax))(Fb:k9 P w K mg base "let_in" 1 ["house","stand","beat"] (spD K 3 dk))(Gn:k9 P w K mg base "in_hand" 1 ["house","stand"] (spD K 2 jW)):FnOk P w K mg base CX0 6 f fd ["house","way","begin","end"] (spD K 4 eC):=by
 refine O8 Fn W3 λcdv A outer s H E hr=>?_
 exact⟨_,(c9 (aR 4 (hN:=W3.nd) (osc:=(defScope Fx)) (N:=["course","begin","end"]) (k:=1) (cap:=[2,3]) (hc:=rfl) (hosc:=rfl) (hcap:=⟨rfl,by decide +kernel,by decide +kernel,by decide +kernel,rfl,rfl,by decide +kernel⟩) (G1 (Ev.bw (k8 Gm (hr.mono (by decide)) (v9 (j6 0) (v9 (j6 1) p0)) (v8 (v8 r9))))) (λcl C ex pins s H=>(n8 (i:=0) (show List.Nodup (["course","begin","end"]:List Str) by decide +kernel))) (λcl C ex pins s H=>(kB (Ew.t (wC (E3 (qO rfl hr.units) (Ev.bw (t8 (r6 rfl) (d9 0) (Ev.bw f8))) (Ev.bw ck)) (qH (nJ Ak oj (d9 1) (Ev.bw (t8 (r6 rfl) (d9 0) (Ev.bw f8))) (d9 2))))))) (λcl C ex pins s H=>(j6 0)))
   (c9 (u4 5 W3.nd (j4 (W9 rfl rfl) T.sum bc (f9 (Ev.bw (aJ (osc:=(defScope Fx)) (N:=["word","beat","moment","waits"]) (k:=4) (cap:=[]) rfl rfl ⟨rfl,by decide +kernel,by decide +kernel,by decide +kernel,rfl,rfl,by decide +kernel⟩ (G1 (d9 4)) (λcl C ex pins s H=>(D2 (n:=4) rfl (d5 (n8 (i:=0) (show List.Nodup (["word","beat","moment","waits"]:List Str) by decide +kernel)) (d5 (n8 (i:=1) (show List.Nodup (["word","beat","moment","waits"]:List Str) by decide +kernel)) (d5 (n8 (i:=2) (show List.Nodup (["word","beat","moment","waits"]:List Str) by decide +kernel)) (d5 (n8 (i:=3) (show List.Nodup (["word","beat","moment","waits"]:List Str) by decide +kernel)) x5)))))) (λcl C ex pins s H=>G7) (λcl C ex pins s H=>(F8 X8 (d9 2) (d9 1))))) j7)))
   (c9 (u4 6 W3.nd (j4 (W9 rfl rfl) T.sum bc (f9 (Ev.bw (aJ (osc:=(defScope Fx)) (N:=["word","beat","moment","waits"]) (k:=4) (cap:=[]) rfl rfl ⟨rfl,by decide +kernel,by decide +kernel,by decide +kernel,rfl,rfl,by decide +kernel⟩ (G1 (d9 4)) (λcl C ex pins s H=>(D2 (n:=4) rfl (d5 (n8 (i:=0) (show List.Nodup (["word","beat","moment","waits"]:List Str) by decide +kernel)) (d5 (n8 (i:=1) (show List.Nodup (["word","beat","moment","waits"]:List Str) by decide +kernel)) (d5 (n8 (i:=2) (show List.Nodup (["word","beat","moment","waits"]:List Str) by decide +kernel)) (d5 (n8 (i:=3) (show List.Nodup (["word","beat","moment","waits"]:List Str) by decide +kernel)) x5)))))) (λcl C ex pins s H=>G7) (λcl C ex pins s H=>(j6 3)))) j7)))
   (c9 (u4 7 W3.nd (t8 (r6 rfl) (Ev.bw (k8 Im (hr.mono (by decide)) (v9 (j6 0) (v9 (j6 1) (v9 (bo (.tuple []) rfl) p0))) (v8 (v8 (v8 r9))))) (Ev.bw f8)))
   (c9 (aR 8 (hN:=W3.nd) (osc:=(defScope Fx)) (N:=["at","house","stands","way"]) (k:=1) (cap:=[0,7,1]) (hc:=rfl) (hosc:=rfl) (hcap:=⟨rfl,by decide +kernel,by decide +kernel,by decide +kernel,rfl,rfl,by decide +kernel⟩) (Ei.bw (yQ (d0 (j6 2) (d0 (j6 3) j9)) T.range)) (λcl C ex pins s H=>(n8 (i:=0) (show List.Nodup (["at","house","stands","way"]:List Str) by decide +kernel))) (λcl C ex pins s H=>G7) (λcl C ex pins s H=>(t8 (r6 rfl) (Ev.bw (k8 Fb (hr.mono (by decide)) (v9 (j6 1) (v9 (t8 (r6 rfl) (d9 2) (d9 0)) (v9 (t8 (r6 rfl) (d9 3) (d9 0)) p0))) (v8 (v8 (v8 r9))))) (Ev.bw f8))))
   (c9 (u4 9 W3.nd (j4 (W9 rfl rfl) T.sum bc (f9 (Ev.bw (aJ (osc:=(defScope Fx)) (N:=["stand"]) (k:=1) (cap:=[]) rfl rfl ⟨rfl,by decide +kernel,by decide +kernel,by decide +kernel,rfl,rfl,by decide +kernel⟩ (G1 (d9 8)) (λcl C ex pins s H=>(n8 (i:=0) (show List.Nodup (["stand"]:List Str) by decide +kernel))) (λcl C ex pins s H=>G7) (λcl C ex pins s H=>(j4 (K2 rfl) T.len J6 (f9 (d9 0) j7))))) j7)))
   (c9 (u4 10 W3.nd (j4 (W9 rfl rfl) T.sum bc (f9 (Ev.bw (aJ (osc:=(defScope Fx)) (N:=["stand","house"]) (k:=1) (cap:=[0]) rfl rfl ⟨rfl,by decide +kernel,by decide +kernel,by decide +kernel,rfl,rfl,by decide +kernel⟩ (G1 (d9 8)) (λcl C ex pins s H=>(n8 (i:=0) (show List.Nodup (["stand","house"]:List Str) by decide +kernel))) (λcl C ex pins s H=>G7) (λcl C ex pins s H=>(F8 X8 (Ev.bw (j4 (K2 rfl) T.len J6 (f9 (d9 0) j7))) (Ev.bw (k8 Gn (hr.mono (by decide)) (v9 (j6 1) (v9 (j6 0) p0)) (v8 (v8 r9)))))))) j7)))
   (l4 (z8 (J5 (d0 (j6 5) (d0 (j6 9) (d0 (j6 6) (d0 (j6 10) j9))))))))))))))⟩
def lH (K:PySem.W.Frag):Sp:=λvs H Q _=>∃(a:NP) (ns:List Int),vs=[.ref a]/\SqL K H a (ns.map V.int)/\ns.length<=63 /\
 ∀(d c:NP) (H':Hp),Feeds.At d c H' (iN ns)->d8 H H'->Q (.ref d) H'
def Do {ns:List Int}(h:ns.length<=63):eO (ns.map V.int) none (some 63)=ns.map V.int:=by
 unfold eO;have e:HT.sIx (ns.map V.int).length (ns.map V.int).length (some 63)=min 63 (ns.map V.int).length:=HT.sIx_nat _ _ 63;rw[e,HT.sIx_none,List.drop_zero,NF,Kw (by rw[Jf];omega)]
def kn:FnScope ["_law_script"] ["_law_script"] (defScope FF):={}
def GX {f:NP}{fd:NV}(F:Fun K "_law_feed" "_law_feed" FF f fd)(T:Txt K mg):FnOk P w K mg base CX0 1 f fd ["_law_script"] (lH K):=by
 refine F.ok kn (λvs H Q E h=>?_) (λcdv A outer s H vs Q E hr h=>?_)
 .obtain⟨a,ns,rfl,_⟩:=h;rfl
 .obtain⟨a,ns,rfl,hS,hl,k⟩:=h;refine⟨_,C6 (X7 (P7 (i8 (bK kT rfl T.list lC (i8 (lZ qP (pv 0) qU (ki i7)) l6)) (i8 i7 (i8 i7 l6))))),?_⟩;refine⟨_,rfl,63,rfl,a,_,rfl,hS,λq0 hq0=>?_⟩;rw[Do hl];refine⟨q0,_,rfl,.inl (SqL.of c7),λq hq=>⟨KA (Q8 (by show 3<=1000;decide)),λp hp=>?_⟩⟩;have s0:d8 H (upd H q0 (.lst (ns.map V.int))):=d8.upd hq0;have nqp:q≠p:=e8 c7 hp;refine k p q _ ⟨c7,by rw[a8 nqp];exact c7,hl,(by show(0:Int)<=0;decide),(by show(0:Int)<=0;decide),JV nqp⟩ λb o e=>?_
  have e1:upd (upd H q0 (.lst (ns.map V.int))) q (.lst (ns.map V.int)) b=some o:=by rw[a8 (e8 (s0 b o e) hq)];exact s0 b o e
  rw[a8 (e8 e1 hp)];exact e1
def O4:FnScope ["_law_feed_here","_law_many","_law_digit","_law_at","_law_cell","_law_first"] ["_law_feed_here","_law_many"] (defScope FG):={}
def GY {f:NP}{fd:NV}(Fn:Fun K "_law_next" "_law_next" FG f fd)(T:Txt K mg):FnOk P w K mg base CX0 1 f fd ["_law_feed_here","_law_many"] (spD K 2 G2):=by
 refine Fn.ok O4 (λvs H Q E h=>?_) (λcdv A outer s H vs Q E hr h=>?_)
 .obtain⟨G,B,F,args,d,F',hl,_⟩:=h;exact hl
 .obtain⟨G,B,F,args,dd,F',hl,fB,bk,fa,ha,hm0,q⟩:=h;obtain⟨m,rfl⟩:∃m,args=[.feed,.dat (.int m)]:=by
   unfold G2 at hm0;split at hm0
   .exact⟨_,rfl⟩
   .cases hm0
  obtain⟨v,r,rfl,_,⟨d,c,rfl,rfl⟩,v2,r2,rfl,_,hv2,rfl⟩:=ha;have hv2:v2 = .int m:=by simpa only[DVr,a7] using hv2
  subst hv2;obtain⟨⟨r0,F1⟩,e1,e2⟩:=bS9 hm0;cases e2;replace e1:fP m F=some (r0,F1):=e1;have hcond:0<m/\m<1073741824/\F.t<199999:=by
   unfold fP at e1;split at e1
   .assumption
   .cases e1
  obtain⟨hm,hm2,htl⟩:=hcond;obtain⟨ns,a,l,t⟩:=F;obtain⟨⟨hd,hc,hl63,ha0,ht0,ndc⟩,tbo⟩:=fa;simp only at hd hc hl63 ha0 ht0 htl;have k:∀(r:Int) (H':Hp) (F2:FdS),fP m ⟨ns,a,l,t⟩=some (r,F2)->Feeds.At d c H' F2->(∀b o,H b=some o->b≠d->H' b=some o)->Q (.int r) H':=λr H' F2 er fa' kp=>by
   rw[er]at e1;cases e1;exact q _ H' (λb o e nb=>kp b o e λz=>nb (by simp[n6,z])) ⟨fa',tbo.but hd ⟨λ_ z=>(by cases z),λ_ z=>(by cases z)⟩ kp⟩ a7.int
  have hdr:fP m ⟨ns,a,l,t⟩=some (if 0<l then(l % m,⟨ns,a,l / m,t+1⟩) else if 10 ^ 18<=(FdS.cellL ⟨ns,a,l,t⟩)/\a<ns.length then((FdS.cellL ⟨ns,a,l,t⟩) % m,⟨ns,a+1,(FdS.cellL ⟨ns,a,l,t⟩) / m,t+1⟩) else((FdS.mixN ⟨ns,a,l,t⟩) % m,⟨ns,a+1,l,t+1⟩)):=by
   unfold fP;rw[Jk ⟨hm,hm2,htl⟩]
  have ncd:c≠d:=JV ndc;refine⟨_,l3 (iS (R8 Ao (N4 C8 (pv 0) i7 (λ_ _=>rfl)) i7 (X5 _))
    (l3 (N1 (i:=2) O4.nd rfl (Or.inl rfl) (B7 aD (N4 C8 (pv 0) i7 (λ_ _=>rfl)) (pv 1)))
     (l3 (T7 (B7 kz (N4 C8 (pv 0) i7 (λ_ _=>rfl)) (pv 1)) (ae (pv 0) i7 O5 (λ_=>rfl))) (C6 (X7 (pv 2))))) gB)
   (l3 (N1 (i:=3) O4.nd rfl (Or.inl rfl) (N4 C8 (pv 0) i7 (λ_ _=>rfl)))
   (l3 (T7 (B7 aq (pv 3) i7) (ae (pv 0) i7 O5 (λ_=>rfl)))
   (l3 (N1 (i:=4) O4.nd rfl (Or.inl rfl) (mw (R8 (vW (LS (Nat.le_add_right _ 64) hr.units)) (N4 C8 (pv 0) i7 (λ_ _=>rfl)) (P7 l6) (X5 _))
    (N4 C8 (N4 C8 (pv 0) i7 (λ_ _=>rfl)) (B7 aD (pv 3) (Y6 L0 (by rfl) T.len MF (i8 (N4 C8 (pv 0) i7 (λ_ _=>rfl)) l6))) (λ_ _=>rfl)) i7))
   (l3 (iS (PW.pt (oG (R8 Af (pv 4) (B7 uI i7 i7) (X5 _)) (kE (R8 zY (pv 3) (Y6 L0 (by rfl) T.len MF (i8 (N4 C8 (pv 0) i7 (λ_ _=>rfl)) l6)) (X5 _)))))
    (l3 (T7 (B7 kz (pv 4) (pv 1)) (ae (pv 0) i7 O5 (λ_=>rfl))) (C6 (X7 (B7 aD (pv 4) (pv 1))))) gB)
   (l3 (N1 (i:=5) O4.nd rfl (Or.inl rfl) (B7 aD (B7 cu (B7 aq (B7 aq (B7 aq (B7 aD (pv 4) i7) (B7 cu (B7 cu i7 (pv 3)) (pv 3))) (B7 cu i7 (pv 3))) i7) i7) i7))
   (C6 (X7 (B7 aD (B7 kz (B7 aD (B7 cu (B7 aD (B7 aq (B7 aq (B7 cu (pv 5) (pv 5)) (B7 cu i7 (pv 3))) i7) i7) i7) i7) i7) (pv 1))))))))),?_⟩
  refine⟨_,rfl,d,_,_,_,rfl,rfl,SqL.of hd,rfl,_,_,rfl,rfl,_,rfl,?_⟩;refine nV (λhleft=>?_) (λhleft=>?_)
  .have hleft:0<l:=JT hleft;refine⟨_,rfl,d,_,_,_,rfl,rfl,SqL.of hd,rfl,_,rfl,_,_,rfl,rfl,hm,?_⟩;refine⟨_,rfl,d,_,_,_,rfl,rfl,SqL.of hd,rfl,_,rfl,_,_,rfl,rfl,⟨hm,hm2⟩,_,rfl,d,_,_,2,rfl,rfl,hd,rfl,_,rfl,?_⟩;exact k _ _ ⟨ns,a,l / m,t+1⟩ (by rw[hdr,Jk hleft]) ⟨c7,by rw[a8 ncd];exact hc,hl63,ha0,by simp only;omega,ndc⟩ (λb o e hb=>by rw[a8 hb];exact e)
  .have hleft:¬0<l:=λz=>hleft (Kn z)
   refine⟨_,rfl,d,_,_,_,rfl,rfl,SqL.of hd,rfl,?_⟩;refine⟨_,rfl,_,_,rfl,rfl,_,rfl,d,_,_,1,rfl,rfl,hd,rfl,?_⟩;have hd1:(upd H d (.lst [.ref c,.int (a+1),.int l])) d=some (.lst [.ref c,.int (a+1),.int l]):=c7;have hc1:(upd H d (.lst [.ref c,.int (a+1),.int l])) c=some (.lst (ns.map V.int)):=by rw[a8 ncd];exact hc
   have kp1:∀b o,H b=some o->b≠d->(upd H d (.lst [.ref c,.int (a+1),.int l])) b=some o:=λb o e hb=>by rw[a8 hb];exact e
   show T5 _ _ _ _ (upd H d (.lst [.ref c,.int (a+1),.int l]));generalize upd H d (.lst [.ref c,.int (a+1),.int l])=H1 at hd1 hc1 kp1;refine⟨_,rfl,d,_,_,_,rfl,rfl,SqL.of hd1,rfl,?_⟩;refine⟨KA (Q8 (by show 0<=1000;decide)),λp hp=>?_⟩;replace kp1:∀b o,H b=some o->b≠d->(upd H1 p (.lst [])) b=some o:=λb o e hb=>by rw[a8 (e8 (kp1 b o e hb) hp)];exact kp1 b o e hb
   replace hd1:(upd H1 p (.lst [])) d=some (.lst [.ref c,.int (a+1),.int l]):=by rw[a8 (e8 hd1 hp)];exact hd1
   replace hc1:(upd H1 p (.lst [])) c=some (.lst (ns.map V.int)):=by rw[a8 (e8 hc1 hp)];exact hc1
   have hpp:(upd H1 p (.lst [])) p=some (.lst []):=c7;generalize upd H1 p (.lst [])=H1 at hd1 hc1 kp1 hpp;refine⟨c,p,_,rfl,rfl,SqL.of hc1,SqL.of hpp,_,rfl,?_⟩;have big:10 ^ 18<=(FdS.cellL ⟨ns,a,l,t⟩)/\a<ns.length->Q (.int (FdS.cellL ⟨ns,a,l,t⟩ % m)) (upd H1 d (.lst [.ref c,.int (a+1),.int (FdS.cellL ⟨ns,a,l,t⟩ / m)])):=λhb =>
    k _ _ ⟨ns,a+1,FdS.cellL ⟨ns,a,l,t⟩ / m,t+1⟩ (by rw[hdr,Jo hleft,Jk hb]) ⟨c7,by rw[a8 ncd];exact hc1,hl63,by simp only;omega,by simp only;omega,ndc⟩ (λb o e hb=>by rw[a8 hb];exact kp1 b o e hb)
   have small:¬(10 ^ 18<=(FdS.cellL ⟨ns,a,l,t⟩)/\a<ns.length)->Q (.int (FdS.mixN ⟨ns,a,l,t⟩ % m)) H1:=λhb =>
    k _ _ ⟨ns,a+1,l,t+1⟩ (by rw[hdr,Jo hleft,Jo hb]) ⟨hd1,hc1,hl63,by simp only;omega,by simp only;omega,ndc⟩ kp1
   unfold FdS.mixN FdS.fstN at small;simp only at small;refine nV (λhne=>?_) (λhe=>?_)
   .have h0:¬ns=[]:=by intro e;rw[e]at hne;simp at hne
    have hne:(0:Int)<ns.length:=by have:=Nj.2 h0;omega
    refine⟨_,rfl,d,_,_,_,rfl,rfl,SqL.of hd1,rfl,_,rfl,_,rfl,d,_,_,_,rfl,rfl,SqL.of hd1,rfl,c,_,rfl,.inl (SqL.of hc1),_,_,rfl,rfl,(by rw[Jf];exact hne),c,_,_,_,rfl,rfl,SqL.of hc1,wx (F:=⟨ns,a,l,t⟩) h0,?_⟩;generalize FdS.cellL ⟨ns,a,l,t⟩=z at big small;obtain⟨q1,q2⟩:=pG (x:=(z % 1000003+37*a*a+13*a+5)*48271) (m:=999983) (by decide);have tl:¬(10 ^ 18<=(z:Int)/\a<ns.length)->Q (.int (((z % 1000003+37*a*a+13*a+5)*48271 % 999983*((z % 1000003+37*a*a+13*a+5)*48271 % 999983)+7919*a+11) % 2097143*69621 % 2147483629 / 7 % m)) H1:=small;refine⟨_,rfl,_,_,rfl,rfl,⟨by decide,by decide,by decide⟩,_,_,rfl,rfl,_,rfl,?_⟩;refine nV (λhb1=>⟨_,rfl,_,rfl,d,_,_,_,rfl,rfl,SqL.of hd1,rfl,c,_,rfl,.inl (SqL.of hc1),_,_,rfl,rfl,_,rfl,nV (λhb2=>?_) (λhb2=>?_)⟩) (λhb1=>wY ?_)
    .have hb1:=JT hb1;have hb2:=JT hb2;rw[Jf]at hb2;exact⟨_,rfl,_,rfl,_,_,rfl,rfl,⟨hm,hm2⟩,_,rfl,d,_,_,2,rfl,rfl,hd1,rfl,_,rfl,_,rfl,_,_,rfl,rfl,hm,big ⟨hb1,hb2⟩⟩
    all_goals
     have hq:=tl λhb=>by first | exact hb2 (Kn (by rw[Jf];exact hb.2)) | exact hb1 (Kn hb.1)
     refine⟨_,rfl,_,_,rfl,rfl,(by show(0:Int)<1000003;decide),_,rfl,_,_,rfl,rfl,.inl ⟨by decide,by decide⟩,_,rfl,_,_,rfl,rfl,.inr ⟨by omega,by omega⟩,_,_,rfl,rfl,_,rfl,_,_,rfl,rfl,.inl ⟨by decide,by decide⟩,_,_,rfl,rfl,_,_,rfl,rfl,_,_,rfl,rfl,.inr ⟨by decide,by decide⟩,_,_,rfl,rfl,(by show(0:Int)<999983;decide),?_⟩
     refine⟨_,rfl,_,rfl,_,_,rfl,rfl,.inl ⟨by omega,by omega⟩,_,rfl,_,_,rfl,rfl,.inl ⟨by decide,by decide⟩,_,_,rfl,rfl,_,_,rfl,rfl,_,_,rfl,rfl,(by show(0:Int)<2097143;decide),?_⟩
     exact⟨_,_,rfl,rfl,.inr ⟨by decide,by decide⟩,_,_,rfl,rfl,(by show(0:Int)<2147483629;decide),_,_,rfl,rfl,⟨by decide,by decide⟩,_,rfl,_,_,rfl,rfl,hm,hq⟩
   .have h0:ns=[]:=by
     cases ns with
     | nil=>rfl
     | cons x y=>exact absurd rfl he
    have hcell:FdS.cellL ⟨ns,a,l,t⟩=0:=by unfold FdS.cellL;rw[Jk h0]
    rw[hcell]at big small;obtain⟨q1,q2⟩:=pG (x:=((0:Int) % 1000003+37*a*a+13*a+5)*48271) (m:=999983) (by decide);have tl:¬(10 ^ 18<=((0:Int):Int)/\a<ns.length)->Q (.int ((((0:Int) % 1000003+37*a*a+13*a+5)*48271 % 999983*(((0:Int) % 1000003+37*a*a+13*a+5)*48271 % 999983)+7919*a+11) % 2097143*69621 % 2147483629 / 7 % m)) H1:=small;refine⟨_,rfl,_,_,rfl,rfl,⟨by decide,by decide,by decide⟩,_,_,rfl,rfl,_,rfl,?_⟩;refine nV (λhb1=>⟨_,rfl,_,rfl,d,_,_,_,rfl,rfl,SqL.of hd1,rfl,c,_,rfl,.inl (SqL.of hc1),_,_,rfl,rfl,_,rfl,nV (λhb2=>?_) (λhb2=>?_)⟩) (λhb1=>wY ?_)
    .have hb1:=JT hb1;have hb2:=JT hb2;rw[Jf]at hb2;exact⟨_,rfl,_,rfl,_,_,rfl,rfl,⟨hm,hm2⟩,_,rfl,d,_,_,2,rfl,rfl,hd1,rfl,_,rfl,_,rfl,_,_,rfl,rfl,hm,big ⟨hb1,hb2⟩⟩
    all_goals
     have hq:=tl λhb=>by first | exact hb2 (Kn (by rw[Jf];exact hb.2)) | exact hb1 (Kn hb.1)
     refine⟨_,rfl,_,_,rfl,rfl,(by show(0:Int)<1000003;decide),_,rfl,_,_,rfl,rfl,.inl ⟨by decide,by decide⟩,_,rfl,_,_,rfl,rfl,.inr ⟨by omega,by omega⟩,_,_,rfl,rfl,_,rfl,_,_,rfl,rfl,.inl ⟨by decide,by decide⟩,_,_,rfl,rfl,_,_,rfl,rfl,_,_,rfl,rfl,.inr ⟨by decide,by decide⟩,_,_,rfl,rfl,(by show(0:Int)<999983;decide),?_⟩
     refine⟨_,rfl,_,rfl,_,_,rfl,rfl,.inl ⟨by omega,by omega⟩,_,rfl,_,_,rfl,rfl,.inl ⟨by decide,by decide⟩,_,_,rfl,rfl,_,_,rfl,rfl,_,_,rfl,rfl,(by show(0:Int)<2097143;decide),?_⟩
     exact⟨_,_,rfl,rfl,.inr ⟨by decide,by decide⟩,_,_,rfl,rfl,(by show(0:Int)<2147483629;decide),_,_,rfl,rfl,⟨by decide,by decide⟩,_,rfl,_,_,rfl,rfl,hm,hq⟩
def kO:FnScope ["_law_feed_here"] ["_law_feed_here"] (defScope FH):={}
abbrev fN:=dP
def GZ {f:NP}{fd:NV}(Fn:Fun K "_law_rule" "_law_rule" FH f fd)(T:Txt K mg)(ET:k9 P w K mg base "_law_next" 1 ["_law_feed_here","_law_many"] (spD K 2 G2)):FnOk P w K mg base CX0 2 f fd ["_law_feed_here"] (spD K 1 fN):=by
 refine O8 Fn kO λcdv A outer s H E hr=>?_
 exact⟨_,(l4 (z8 (t8 (r6 rfl) (Ev.bw (bo (.list [.str "first",.str "last",.str "short",.str "front",.str "lastoff",.str "shortoff",.str "frontoff",.str "turns"]) rfl)) (Ev.bw (k8 ET (hr.mono (by decide)) (az 0 (v9 f8 p0)) (aA (v8 r9)))))))⟩
def bV:FnScope ["_law_feed_here","_law_places"] ["_law_feed_here"] (defScope Fy):={}
abbrev O7:=bJ
def GO {f:NP}{fd:NV}(Fn:Fun K "_law_house" "_law_house" Fy f fd)(T:Txt K mg)(ET:k9 P w K mg base "_law_next" 1 ["_law_feed_here","_law_many"] (spD K 2 G2))(FJ:k9 P w K mg base "_law_rule" 2 ["_law_feed_here"] (spD K 1 fN)):FnOk P w K mg base CX0 3 f fd ["_law_feed_here"] (spD K 1 O7):=by
 refine O8 Fn bV λcdv A outer s H E hr=>?_
 exact⟨_,(c9 (u4 1 bV.nd (t8 (r6 rfl) (Ev.bw (bo (.list [.none,.none,.none,.int 0,.int 1,.int 2,.int 3,.int 4,.int 5,.int 6]) rfl)) (Ev.bw (k8 ET (hr.mono (by decide)) (az 0 (v9 f8 p0)) (aA (v8 r9))))))
   (l4 (z8 (J5 (d0 (F8 (R0 rfl) (Ev.bw f8) (Ev.bw (k8 ET (hr.mono (by decide)) (az 0 (v9 f8 p0)) (aA (v8 r9))))) (d0 (j6 1) (d0 (k8 FJ (hr.mono (by decide)) (az 0 p0) (aA r9)) j9)))))))⟩
def J9:FnScope ["_law_feed_here","_law_beats","_law_works","_law_way_here","_law_many","_law_k","_law_beat_here","_law_j"] ["_law_feed_here","_law_beats","_law_works"] (defScope FT):={}
abbrev hX:=kQ ["_law_feed_here","_law_beats","_law_works","_law_way_here","_law_many","_law_k","_law_beat_here","_law_j"]
def Hj {f:NP}{fd:NV}(Fn:Fun K "_law_way" "_law_way" FT f fd)(T:Txt K mg)(ET:k9 P w K mg base "_law_next" 1 ["_law_feed_here","_law_many"] (spD K 2 G2)):FnOk P w K mg base CX0 2 f fd ["_law_feed_here","_law_beats","_law_works"] (spD K 3 hX):=by
 refine O8 Fn J9 λcdv A outer s H E hr=>?_
 exact⟨_,(c9 (cN 3 J9.nd (T2 j9))
   (c9 (u4 4 J9.nd f8)
   (c9 (X4 rfl (bz (d0 (k8 ET (hr.mono (by decide)) (az 0 (v9 (F8 (R0 rfl) (d9 1) (Ev.bw f8)) p0)) (aA (v8 r9))) j9) T.range) (n8 (i:=5) J9.nd) (c9 (cN 6 J9.nd (T2 j9))
   (c9 (X4 rfl (bz (d0 (t8 (r6 rfl) (Ev.bw (bo (.list [.int 0,.int 0,.int 1,.int 1,.int 2,.int 3]) rfl)) (Ev.bw (k8 ET (hr.mono (by decide)) (az 0 (v9 f8 p0)) (aA (v8 r9))))) j9) T.range) (n8 (i:=7) J9.nd) (l4 (W6 (E3 oj (d9 4) (Ev.bw f8)) (c9 (Z9 6 rfl (J5 (d0 (k8 ET (hr.mono (by decide)) (az 0 (v9 f8 p0)) (aA (v8 r9))) (d0 (F8 (R0 rfl) (Ev.bw f8) (Ev.bw (k8 ET (hr.mono (by decide)) (az 0 (v9 (j6 2) p0)) (aA (v8 r9))))) j9))))
   (l4 (u4 4 J9.nd (F8 (R0 rfl) (d9 4) (Ev.bw f8))))) R3)))
   (l4 (Z9 3 rfl (E7 (J7 rfl) T.tuple K5 (f9 (d9 6) j7)))))))
   (l4 (z8 (E7 (J7 rfl) T.tuple K5 (f9 (d9 3) j7)))))))⟩
def X1:FnScope ["_law_feed_here","_law_beats"] ["_law_feed_here"] (defScope Fe):={}
abbrev D7:=dY ["_law_feed_here","_law_beats","_law_works","_law_way_here","_law_many","_law_k","_law_beat_here","_law_j"]
def Gh {f:NP}{fd:NV}(Fn:Fun K "_law_sized_way" "_law_sized_way" Fe f fd)(T:Txt K mg)(ET:k9 P w K mg base "_law_next" 1 ["_law_feed_here","_law_many"] (spD K 2 G2))(FW:k9 P w K mg base "_law_way" 2 ["_law_feed_here","_law_beats","_law_works"] (spD K 3 hX)):FnOk P w K mg base CX0 3 f fd ["_law_feed_here"] (spD K 1 D7):=by
 refine O8 Fn X1 λcdv A outer s H E hr=>?_
 exact⟨_,(c9 (u4 1 X1.nd (t8 (r6 rfl) (Ev.bw (bo (.list [.int 5,.int 9,.int 14,.int 24]) rfl)) (Ev.bw (k8 ET (hr.mono (by decide)) (az 0 (v9 f8 p0)) (aA (v8 r9))))))
   (l4 (z8 (k8 FW (hr.mono (by decide)) (az 0 (v9 (j6 1) (v9 (t8 (r6 rfl) (Ev.bw (bo (.list [.int 1,.int 3,.int 6]) rfl)) (Ev.bw (k8 ET (hr.mono (by decide)) (az 0 (v9 f8 p0)) (aA (v8 r9))))) p0))) (aA (v8 (v8 r9)))))))⟩
def jl:FnScope ["_law_rule_here","_law_one","_law_other"] ["_law_rule_here","_law_one","_law_other"] (defScope Fj):={}
abbrev cW:=cX
def GP {f:NP}{fd:NV}(Fn:Fun K "_law_ahead" "_law_ahead" Fj f fd)(T:Txt K mg) :FnOk P w K mg base CX0 1 f fd ["_law_rule_here","_law_one","_law_other"] (spD K 3 cW):=by
 refine O8 Fn jl λcdv A outer s H E hr=>?_
 have hu5:(A.deeper (PyProof.Rows.envOfC "_law_ahead" (defScope Fj) s.heap.objs.size f cdv)).units+65<On:=by have:=hr.un;omega
 exact⟨_,(c9 (W6 (E3 (Ah rfl hr.units) (Ev.bw (t8 (r6 rfl) (d9 1) (Ev.bw f8))) (Ev.bw (t8 (r6 rfl) (d9 2) (Ev.bw f8)))) (l4 (z8 (t8 (r6 rfl) (d9 1) (Ev.bw f8)))) R3)
   (c9 (W6 (E3 (ay rfl hu5) (d9 0) (Ev.bw (bo (.tuple [.str "last",.str "lastoff"]) rfl))) (l4 (z8 jO)) R3)
   (c9 (W6 (E3 (ay rfl hu5) (d9 0) (Ev.bw (bo (.tuple [.str "short",.str "shortoff"]) rfl))) (l4 (z8 (fk oj (Ev.bw (t8 (r6 rfl) (d9 1) (Ev.bw f8))) (Ev.bw (t8 (r6 rfl) (d9 2) (Ev.bw f8)))))) R3)
   (l4 (z8 (BW (fk (ay rfl hu5) (d9 0) (Ev.bw (bo (.tuple [.str "front",.str "frontoff"]) rfl))) (AD (fk oj (Ev.bw (t8 (r6 rfl) (d9 1) (Ev.bw f8))) (Ev.bw (t8 (r6 rfl) (d9 2) (Ev.bw f8)))))))))))⟩
section
local instance Ij:Feeds:=G4
def v4:FnScope ["_law_m","_law_hands","_law_places","_law_rule_here","_law_line","_law_found","_law_hand","_law_best","_law_place"] ["_law_m"] (defScope Ff):={}
abbrev bZ:=LM.Gj
def GC {f:NP}{fd:NV}(Fn:Fun K "_law_picked" "_law_picked" Ff f fd)(T:Txt K mg)(Fc:k9 P w K mg base "_law_ahead" 1 ["_law_rule_here","_law_one","_law_other"] (@spD fdI K 3 cW)):FnOk P w K mg base CX0 2 f fd ["_law_m"] (spM K 1 bZ):=by
 refine kI Fn v4 (by decide) λcdv A outer s H E hr=>?_
 have hu5:(A.deeper (PyProof.Rows.envOfC "_law_picked" (defScope Ff) s.heap.objs.size f cdv)).units+65<On:=by have:=hr.un;omega
 have Fc:=sA (show Regs.lam=Fam.lam from rfl) Fc;exact⟨_,(L6 (wQ (vA (nW hu5)) (D2 (n:=3) rfl (d5 (n8 (i:=1) v4.nd) (d5 (n8 (i:=2) v4.nd) (d5 (n8 (i:=3) v4.nd) x5)))) (eT (M9 (T9 (by decide)) (M9 (T9 (by decide)) (M9 (T9 (by decide)) ff))))) (ud 4 hu5 v4.nd (rQ (cN 5 v4.nd (T2 j9))
   (rQ (X4 rfl (bz (d0 (j4 (xA rfl rfl) T.min vo (f9 (d9 1) (f9 (Ev.bw (j4 (K2 rfl) T.len J6 (f9 (d9 4) j7))) j7))) j9) T.range) (n8 (i:=6) v4.nd) (c9 (u4 7 v4.nd bj)
   (c9 (X4 rfl (bz (d0 (j4 (K2 rfl) T.len J6 (f9 (d9 4) j7)) j9) T.range) (n8 (i:=8) v4.nd) (c9 (W6 (E3 (ay rfl hu5) (d9 8) (d9 5)) (l4 yc) R3)
   (l4 (W6 (Ew.t (DN (E3 uN (d9 7) (Ev.bw bj)) (Cp (kh (Ev.bw (k8 Fc (hr.mono (by decide)) (v9 (j6 3) (v9 (t8 (r6 rfl) (d9 4) (d9 8)) (v9 (t8 (r6 rfl) (d9 4) (d9 7)) p0))) (v8 (v8 (v8 r9))))))))) (l4 (u4 7 v4.nd (j6 8))) R3))))
   (l4 (Z9 5 rfl (j6 7))))))
   (Bl 5)))))⟩
end
section
local instance Iy:Feeds:=G4
def G0:FnScope ["_law_m","_law_comers","_law_places","_law_lost","_law_rank","_law_work","_law_is_lost"] ["_law_m","_law_comers"] (defScope Fq):={}
abbrev fX:=LM.GV
def Hb {f:NP}{fd:NV}(Fn:Fun K "_law_come" "_law_come" Fq f fd)(T:Txt K mg) :FnOk P w K mg base CX0 1 f fd ["_law_m","_law_comers"] (spM K 2 fX):=by
 refine kI Fn G0 (by decide) λcdv A outer s H E hr=>?_
 have hu5:(A.deeper (PyProof.Rows.envOfC "_law_come" (defScope Fq) s.heap.objs.size f cdv)).units+65<On:=by have:=hr.un;omega
 exact⟨_,(L6 (iC 2 (by decide) G0.nd (Ej (r6 rfl) (vA (nW hu5)) (nQ f8)))
   (L6 (iq (u4 3 G0.nd f8))
   (L6 (uG rfl (kl (j6 1)) (D2 (n:=2) rfl (d5 (n8 (i:=4) G0.nd) (d5 (n8 (i:=5) G0.nd) x5))) (eT (M9 (T9 (by decide)) (M9 (T9 (by decide)) ff))) (L6 (iC 6 (by decide) G0.nd (Cs (nQ (fk ve (d9 2) (Ev.bw bj))) (AK (Dy Dk (vA (qR rfl hu5 T.len)) (nQ (j6 2))))))
   (L6 (Aj (Cq (AN (kh (d9 6)))) (ia (zF rfl hu5 (S4 (xK rfl hu5 T.len) (S4 (sI (j6 4)) (S4 (sI (j6 5)) (S4 (sI jO) rL)))))) wt)
   (L6 (yz rfl hu5 (S4 (sI (t8 (r6 rfl) (Ev.bw (bo (.list [.str "in",.str "lost"]) rfl)) (Ev.bw (E7 (wG) T.int vL (f9 (d9 6) j7))))) (S4 (As hu5) (S4 (sI bj) (S4 (sI f8) rL)))))
   (ia (iq (u4 3 G0.nd (F8 (R0 rfl) (d9 3) (Ev.bw (E7 (wG) T.int vL (f9 (d9 6) j7)))))))))))
   (ia (iq (z8 (j6 3)))))))⟩
end
section
local instance Iz:Feeds:=G4
def B4:FnScope ["_law_m","_law_comers","_law_lost","_law_some","_law_stay","_law_turned","_law_gone","_law_place","_law_person","_law_row"] ["_law_m","_law_comers"] (defScope Fs):={}
abbrev fQ:=LM.Ge
def Hc {f:NP}{fd:NV}(Fn:Fun K "_law_beat" "_law_beat" Fs f fd)(T:Txt K mg)(FK:k9 P w K mg base "_law_come" 1 ["_law_m","_law_comers"] (spM K 2 fX))(Ft:k9 P w K mg base "_law_picked" 2 ["_law_m"] (spM K 1 bZ)):FnOk P w K mg base CX0 3 f fd ["_law_m","_law_comers"] (spM K 2 fQ):=by
 refine kI Fn B4 (by decide) λcdv A outer s H E hr=>?_
 have hu5:(A.deeper (PyProof.Rows.envOfC "_law_beat" (defScope Fs) s.heap.objs.size f cdv)).units+65<On:=by have:=hr.un;omega
 exact⟨_,(have hu:=DO hr;L6 (iC 2 (by decide) B4.nd (lq FK (hr.mono (by decide)) (oh (nQ (j6 1)) kL) (mK ka)))
   (L6 (iC 3 (by decide) B4.nd (lq Ft (hr.mono (by decide)) kL ka))
   ⟨(l3 (rE hu (pv 0) z7 (B7 aq (D5 hu (pv 0) z7 (λ_ _=>rfl)) i7) rfl)
   (l3 (N1 (i:=4) B4.nd rfl (Or.inl rfl) (P7 l6)) (l3 (N1 (i:=5) B4.nd rfl (Or.inl rfl) (P7 l6)) (l3 (N1 (i:=6) B4.nd rfl (Or.inl rfl) (P7 l6))
   (l3 (oU PassesOwn.never rfl (jw rfl T.range (i8 (Y6 L0 rfl T.len MF (i8 (D5 hu (pv 0) z7 (λ_ _=>rfl)) l6)) l6)) (gz (i:=7) B4.nd rfl (Or.inl rfl))
    (l3 (N1 (i:=8) B4.nd rfl (Or.inl rfl) (N4 C8 (D5 hu (pv 0) z7 (λ_ _=>rfl)) (pv 7) (λ_ _=>rfl)))
    (l3 (N1 (i:=9) B4.nd rfl (Or.inl rfl) (N4 C8 (D5 hu (pv 0) z7 (λ_ _=>rfl)) (N4 C8 (pv 8) i7 (λ_ _=>rfl)) (λ_ _=>rfl)))
    (l3 (iS (R8 (ay rfl hu5) (pv 7) (pv 3) rfl)
      (l3 (T7 (B7 vK (N4 C8 (pv 8) i7 (λ_ _=>rfl)) i7) (ae (pv 8) i7 O5 (λ_=>rfl))) (C6 (T7 (kf (ay rfl hu5) (N4 qo (D5 hu (pv 0) z7 (λ_ _=>rfl)) i7 (λ_ _=>rfl)) (bo (K:=K) nN rfl).pe rfl) (ae (pv 8) i7 O5 (λ_=>rfl)))))
      (C6 (T7 (B7 aq (N4 C8 (pv 9) i7 (λ_ _=>rfl)) i7) (ae (pv 9) i7 O5 (λ_=>rfl)))))
    (C6 (iS (R8 xp (N4 C8 (pv 8) i7 (λ_ _=>rfl)) i7 (X5 _))
      (l3 (T7 z7 (ae (pv 9) i7 O5 (λ_=>rfl))) (l3 (T7 (D5 hu (pv 0) z7 (λ_ _=>rfl)) (ae (pv 9) i7 O5 (λ_=>rfl))) (C6 (ag (gS KU KP KQ L7 (pv 6) (i8 (N4 C8 (pv 8) i7 (λ_ _=>rfl)) l6))))))
      (C6 (iS (PW.pt (oG (R8 (ay rfl hu5) (pv 7) (pv 3) rfl) (kE (R8 xp (N4 qo (D5 hu (pv 0) z7 (λ_ _=>rfl)) i7 (λ_ _=>rfl)) z7 (X5 _))))) (C6 (ag (gS KU KP KQ L7 (pv 5) (i8 (pv 8) l6)))) (C6 (ag (gS KU KP KQ L7 (pv 4) (i8 (pv 8) l6))))))))))))
   (l3 (rE hu (pv 0) z7 (B7 vY (pv 4) (pv 5)) rfl) (C6 (X7 (gY (i8 (pv 2) (i8 (pv 6) l6))))))))))),AM⟩))⟩
end
section
local instance ID:Feeds:=G4
def nG:FnScope ["_law_house_here"] ["_law_house_here"] (defScope FU):={}
def Hl {f:NP}{fd:NV}(Fn:Fun K "_law_new" "_law_new" FU f fd)(T:Txt K mg):FnOk P w K mg base CX0 1 f fd ["_law_house_here"] (spN K bE):=by
 refine Fn.ok nG (λvs H Q E h=>?_) (λcdv A outer s H vs Q E hr h=>?_)
 .obtain⟨B,hh,μ,v,rfl,_⟩:=h;rfl
 .exact⟨_,C6 (X7 (yh (dh z7 (pv 0) (dh z7 (P7 l6) (dh z7 (P7 l6) (dh z7 i7 zH)))) rfl rfl (by simp) (by decide))),DD h rfl⟩
end
section
local instance HZ:Feeds:=G4
def v5:FnScope ["_law_house_here","_law_way_here","_law_m","_law_rows","_law_empties","_law_beat_here","_law_ahead_here","_law_lost","_law_gone","_law_many"] ["_law_house_here","_law_way_here"] (defScope EZ):={}
abbrev K3:=LM.Fp
def Gx {f:NP}{fd:NV}(Fn:Fun K "_law_counted" "_law_counted" EZ f fd)(T:Txt K mg)(FX:k9 P w K mg base "_law_new" 1 ["_law_house_here"] (spN K bE))(FL:k9 P w K mg base "_law_beat" 3 ["_law_m","_law_comers"] (spM K 2 fQ)):FnOk P w K mg base CX0 4 f fd ["_law_house_here","_law_way_here"] (@spD fdI K 2 K3):=by
 refine yw (show Regs.lam=Fam.lam from rfl) Fn v5 (by decide) (by decide) (pP (pP (pP DY))) λcdv A outer s H E hr=>?_
 have hu5:(A.deeper (PyProof.Rows.envOfC "_law_counted" (defScope EZ) s.heap.objs.size f cdv)).units+65<On:=by have:=hr.un;omega
 exact⟨_,_,_,rfl,N1 (i:=2) v5.nd rfl (Or.inl rfl) (bF FX (hr.mono (by decide)) rfl (i8 (pv 0) l6)),(kJ (iq (cN 3 v5.nd (T2 j9)))
   (kJ (iq (cN 4 v5.nd (T2 (d0 f8 j9))))
   (kJ (uG rfl (kl (j6 1)) (n8 (i:=5) v5.nd) (T9 (by decide)) (L6 (iC 6 (by decide) v5.nd (vA (qR rfl hu5 T.len)))
   (L6 (wQ (lq FL (hr.mono (by decide)) (oh (nQ (j6 5)) kL) (mK ka)) (D2 (n:=2) rfl (d5 (n8 (i:=7) v5.nd) (d5 (n8 (i:=8) v5.nd) x5))) (eT (M9 (T9 (by decide)) (M9 (T9 (by decide)) ff))))
   (L6 (iq (u4 9 v5.nd (F8 X8 (Ev.bw (F8 (R0 rfl) (d9 6) (Ev.bw (j4 (K2 rfl) T.len J6 (f9 (d9 5) j7))))) (d9 7))))
   (L6 (iq (Z9 3 rfl (J5 (d0 (j6 9) (d0 (j4 (yy rfl rfl) T.max AL (f9 (Ev.bw f8) (f9 (Ev.bw (F8 X8 (d9 9) (Ev.bw (t8 (r6 rfl) (d9 0) (Ev.bw f8))))) j7))) j9)))))
   (ia (Aj (yP rfl hu5) (ia (AI 4 rfl (vA (As hu5)))) wt)))))))
   (BF (i1:=3) (i2:=4) hu5))))⟩
end
end
end
section
section
variable {P:NR}{w:NS}{K:PySem.W.Frag}{mg:Str->Option NO}{base:NY}
def G6:FnScope ["_law_script","_law_feed_here","_law_turn","_law_house_here","_law_way_here","_law_book","_law_rows","_law_empties","_law_pair","_law_begin","_law_end","_law_some","_law_stays","_law_waits","_law_between","_law_due","_law_again"] ["_law_script"] (defScope EX):={}
def K9:NW->List NW
 | .For _ _ b _ _=>b
 | _=>[]
def Y4:DE->M Out:=(A8 3 (v7 O7 (vF 1 E9)))
def Y9:DE->M Out:=(A8 4 (v7 D7 (vF 1 E9)))
def Y8:DE->M Out:=(mIf (uB (s2 gtD (v7 G2 (vF 1 (vD (sC (.int 3)) E9))) (sC (.int 0)))) (A8 4 (sN K6 (b9 (sLC (U3 (sW 4)) 1 [1] (bN 0) U2 (sIf (uB (s2 (eqD false) (v7 G2 (vF 1 (vD (sC (.int 2)) E9))) (sC (.int 0)))) (sV 0) (sC (.tuple [])))) i5))) mNx)
def U7:DE->M Out:=(A8 4 (kN (s2 Z8 (sW 4) (s2 dE (sC (.tuple [.tuple []])) (v7 G2 (vF 1 (vD (sC (.int 20)) E9))))) oNo (oI (sC (.int 24)))))
def R5:DE->M Out:=(bR (P9 3 (j8 (bN 5) (j8 (bN 6) (j8 (bN 7) S7)))) (v7 K3 (vD (sV 3) (vD (sV 4) E9))))
def Q0:DE->M Out:=(A8 8 (sN ax (b9 (ug (b9 (s2 ixD (sW 7) (v7 G2 (vF 1 (vD (sN U1 (b9 (sW 7) i5)) E9)))) (b9 (s2 ixD (sW 7) (s2 fA (s1 xW (sC (.int 1))) (v7 G2 (vF 1 (vD (sN U1 (b9 (sW 7) i5)) E9))))) i5))) i5)))
def Q1:DE->M Out:=(iP 9 10 (cD (s2 ixD (sW 8) (sC (.int 0)))) (cD (s2 ixD (sW 8) (sC (.int 1)))))
def N3:DE->M Out:=(A8 11 (sLC (U3 (sW 5)) 1 [9,10] (bN 0) (vX (uB (s2 (eqD false) (s2 ixD (sW 0) (sC (.int 0))) (sC (.str "gone")))) (uB (sCh leD ltD (sW 1) (s2 ixD (sW 0) (sC (.int 1))) (sW 2)))) (sV 0)))
def N5:DE->M Out:=(A8 12 (sN Y3 (b9 (sLC (U3 (sW 11)) 1 [] (bN 0) U2 (s2 fA (s2 ixD (sW 0) (sC (.int 2))) (s2 ixD (sW 0) (sC (.int 1))))) i5)))
def N6:DE->M Out:=(A8 13 (sN Y3 (b9 (sLC (U3 (sW 11)) 1 [] (bN 0) U2 (s2 ixD (sW 0) (sC (.int 3)))) i5)))
def K4:DE->M Out:=(A8 14 (kN (sW 6) (oI (sV 9)) (oI (sV 10))))
def K1:DE->M Out:=(A8 15 (V6 (b9 (sV 12) (b9 (sN Y3 (b9 (sLC (U3 (sW 14)) 1 [] (bN 0) U2 (s2 ixD (sW 0) (sC (.int 0)))) i5)) (b9 (sV 13) (b9 (sN Y3 (b9 (sLC (U3 (sW 14)) 1 [] (bN 0) U2 (s2 ixD (sW 0) (sC (.int 1)))) i5)) i5))))))
def K7:DE->M Out:=(du (df (b9 (sC (.int 2)) i5)) (bN 16) (mIf (uB (s2 (eqD true) (sN mW (b9 (v7 eC (vD (sV 3) (vD (sV 4) (vD (sV 9) (vD (sV 10) E9))))) i5)) (sN mW (b9 (sW 15) i5)))) (mRt (sC (.bool false))) mNx))
def lD:DE->M Out:=(du (df (b9 (sC (.int 2)) i5)) (bN 2) (mSq Y4 (mSq Y9 (mSq Y8 (mSq U7 (mSq R5 (mSq Q0 (mSq Q1 (mSq N3 (mSq N5 (mSq N6 (mSq K4 (mSq K1 K7)))))))))))))
def gw:DE->M Out:=(mRt (sC (.bool true)))
section
variable {f:NP}{cdv:NO}{A:NT}{outer:List Oc}{s:NQ}{H:Hp}{E:XK}(T:Txt K mg)(hr:Room 6 (A.deeper (PyProof.Rows.envOfC "law" (defScope EX) s.heap.objs.size f cdv)))(hu5:(A.deeper (PyProof.Rows.envOfC "law" (defScope EX) s.heap.objs.size f cdv)).units+65<On)(EW:k9 P w K mg base "_law_house" 3 ["_law_feed_here"] (spD K 1 O7))(EU:k9 P w K mg base "_law_sized_way" 3 ["_law_feed_here"] (spD K 1 D7))(ET:k9 P w K mg base "_law_next" 1 ["_law_feed_here","_law_many"] (spD K 2 G2))(EV:k9 P w K mg base "_law_counted" 4 ["_law_house_here","_law_way_here"] (spD K 2 K3))(EY:k9 P w K mg base "sums" 6 ["house","way","begin","end"] (spD K 4 eC))
include T hr hu5 EW EU ET EV EY
theorem qd:∃ts,Ss K (O6 CX0 P w K mg base ["_law_script","_law_feed_here","_law_turn","_law_house_here","_law_way_here","_law_book","_law_rows","_law_empties","_law_pair","_law_begin","_law_end","_law_some","_law_stays","_law_waits","_law_between","_law_due","_law_again"] "law" (defScope EX) f cdv A outer s H E).nox ((K9 ((defBody EX).getD 1 (.Pass ⟨0,0,0,0⟩))).getD 0 (.Pass ⟨0,0,0,0⟩)) ts Y4:=by
 unfold Y4;exact⟨_,(u4 3 G6.nd (k8 EW (hr.mono (by decide)) (az 1 p0) (aA r9)))⟩
theorem qa:∃ts,Ss K (O6 CX0 P w K mg base ["_law_script","_law_feed_here","_law_turn","_law_house_here","_law_way_here","_law_book","_law_rows","_law_empties","_law_pair","_law_begin","_law_end","_law_some","_law_stays","_law_waits","_law_between","_law_due","_law_again"] "law" (defScope EX) f cdv A outer s H E).nox ((K9 ((defBody EX).getD 1 (.Pass ⟨0,0,0,0⟩))).getD 1 (.Pass ⟨0,0,0,0⟩)) ts Y9:=by
 unfold Y9;exact⟨_,(u4 4 G6.nd (k8 EU (hr.mono (by decide)) (az 1 p0) (aA r9)))⟩
theorem pK:∃ts,Ss K (O6 CX0 P w K mg base ["_law_script","_law_feed_here","_law_turn","_law_house_here","_law_way_here","_law_book","_law_rows","_law_empties","_law_pair","_law_begin","_law_end","_law_some","_law_stays","_law_waits","_law_between","_law_due","_law_again"] "law" (defScope EX) f cdv A outer s H E).nox ((K9 ((defBody EX).getD 1 (.Pass ⟨0,0,0,0⟩))).getD 2 (.Pass ⟨0,0,0,0⟩)) ts Y8:=by
 unfold Y8;exact⟨_,(W6 (E3 zM (Ev.bw (k8 ET (hr.mono (by decide)) (az 1 (v9 f8 p0)) (aA (v8 r9)))) (Ev.bw f8)) (l4 (u4 4 G6.nd (E7 (J7 rfl) T.tuple K5 (f9 (Ev.bw (aJ (osc:=(defScope EX)) (N:=["_law_beat_here","_law_feed_here"]) (k:=1) (cap:=[1]) rfl rfl ⟨rfl,by decide +kernel,by decide +kernel,by decide +kernel,rfl,rfl,by decide +kernel⟩ (G1 (d9 4)) (λcl C ex pins s H=>(n8 (i:=0) (show List.Nodup (["_law_beat_here","_law_feed_here"]:List Str) by decide +kernel))) (λcl C ex pins s H=>G7) (λcl C ex pins s H=>(lU (E3 (qO rfl hr.units) (Ev.bw (k8 ET (hr.mono (by decide)) (az 1 (v9 f8 p0)) (aA (v8 r9)))) (Ev.bw f8)) (j6 0) (bo (.tuple []) rfl))))) j7)))) R3)⟩
theorem oM:∃ts,Ss K (O6 CX0 P w K mg base ["_law_script","_law_feed_here","_law_turn","_law_house_here","_law_way_here","_law_book","_law_rows","_law_empties","_law_pair","_law_begin","_law_end","_law_some","_law_stays","_law_waits","_law_between","_law_due","_law_again"] "law" (defScope EX) f cdv A outer s H E).nox ((K9 ((defBody EX).getD 1 (.Pass ⟨0,0,0,0⟩))).getD 3 (.Pass ⟨0,0,0,0⟩)) ts U7:=by
 unfold U7;exact⟨_,(u4 4 G6.nd (lN (Ev.bw (F8 (R0 rfl) (d9 4) (Ev.bw (F8 (kg rfl) (Ev.bw (bo (.tuple [.tuple []]) rfl)) (Ev.bw (k8 ET (hr.mono (by decide)) (az 1 (v9 f8 p0)) (aA (v8 r9)))))))) wX (vP f8)))⟩
theorem pN:∃ts,Ss K (O6 CX0 P w K mg base ["_law_script","_law_feed_here","_law_turn","_law_house_here","_law_way_here","_law_book","_law_rows","_law_empties","_law_pair","_law_begin","_law_end","_law_some","_law_stays","_law_waits","_law_between","_law_due","_law_again"] "law" (defScope EX) f cdv A outer s H E).nox ((K9 ((defBody EX).getD 1 (.Pass ⟨0,0,0,0⟩))).getD 4 (.Pass ⟨0,0,0,0⟩)) ts R5:=by
 unfold R5;exact⟨_,(Z7 (k8 EV (hr.mono (by decide)) (v9 (j6 3) (v9 (j6 4) p0)) (v8 (v8 r9))) (D2 (n:=3) rfl (d5 (n8 (i:=5) G6.nd) (d5 (n8 (i:=6) G6.nd) (d5 (n8 (i:=7) G6.nd) x5)))))⟩
theorem oV:∃ts,Ss K (O6 CX0 P w K mg base ["_law_script","_law_feed_here","_law_turn","_law_house_here","_law_way_here","_law_book","_law_rows","_law_empties","_law_pair","_law_begin","_law_end","_law_some","_law_stays","_law_waits","_law_between","_law_due","_law_again"] "law" (defScope EX) f cdv A outer s H E).nox ((K9 ((defBody EX).getD 1 (.Pass ⟨0,0,0,0⟩))).getD 5 (.Pass ⟨0,0,0,0⟩)) ts Q0:=by
 unfold Q0;exact⟨_,(u4 8 G6.nd (j4 (fC rfl) T.sorted eZ (f9 (Ev.bw (pL (d0 (t8 (r6 rfl) (d9 7) (Ev.bw (k8 ET (hr.mono (by decide)) (az 1 (v9 (j4 (K2 rfl) T.len J6 (f9 (d9 7) j7)) p0)) (aA (v8 r9))))) (d0 (t8 (r6 rfl) (d9 7) (Ev.bw (F8 X8 (Ev.bw (Aq xt (Ev.bw f8))) (Ev.bw (k8 ET (hr.mono (by decide)) (az 1 (v9 (j4 (K2 rfl) T.len J6 (f9 (d9 7) j7)) p0)) (aA (v8 r9))))))) j9)))) j7)))⟩
theorem qj:∃ts,Ss K (O6 CX0 P w K mg base ["_law_script","_law_feed_here","_law_turn","_law_house_here","_law_way_here","_law_book","_law_rows","_law_empties","_law_pair","_law_begin","_law_end","_law_some","_law_stays","_law_waits","_law_between","_law_due","_law_again"] "law" (defScope EX) f cdv A outer s H E).nox ((K9 ((defBody EX).getD 1 (.Pass ⟨0,0,0,0⟩))).getD 6 (.Pass ⟨0,0,0,0⟩)) ts Q1:=by
 unfold Q1;exact⟨_,(oz 9 10 rfl rfl G6.nd (Ca (t8 (r6 rfl) (d9 8) (Ev.bw f8))) (Ca (t8 (r6 rfl) (d9 8) (Ev.bw f8))))⟩
theorem qv:∃ts,Ss K (O6 CX0 P w K mg base ["_law_script","_law_feed_here","_law_turn","_law_house_here","_law_way_here","_law_book","_law_rows","_law_empties","_law_pair","_law_begin","_law_end","_law_some","_law_stays","_law_waits","_law_between","_law_due","_law_again"] "law" (defScope EX) f cdv A outer s H E).nox ((K9 ((defBody EX).getD 1 (.Pass ⟨0,0,0,0⟩))).getD 7 (.Pass ⟨0,0,0,0⟩)) ts N3:=by
 unfold N3;exact⟨_,(aR 11 (hN:=G6.nd) (osc:=(defScope EX)) (N:=["_law_row","_law_begin","_law_end"]) (k:=1) (cap:=[9,10]) (hc:=rfl) (hosc:=rfl) (hcap:=⟨rfl,by decide +kernel,by decide +kernel,by decide +kernel,rfl,rfl,by decide +kernel⟩) (G1 (d9 5)) (λcl C ex pins s H=>(n8 (i:=0) (show List.Nodup (["_law_row","_law_begin","_law_end"]:List Str) by decide +kernel))) (λcl C ex pins s H=>(kB (Ew.t (wC (E3 (qO rfl hr.units) (Ev.bw (t8 (r6 rfl) (d9 0) (Ev.bw f8))) (Ev.bw ck)) (qH (nJ Ak oj (d9 1) (Ev.bw (t8 (r6 rfl) (d9 0) (Ev.bw f8))) (d9 2))))))) (λcl C ex pins s H=>(j6 0)))⟩
theorem oY:∃ts,Ss K (O6 CX0 P w K mg base ["_law_script","_law_feed_here","_law_turn","_law_house_here","_law_way_here","_law_book","_law_rows","_law_empties","_law_pair","_law_begin","_law_end","_law_some","_law_stays","_law_waits","_law_between","_law_due","_law_again"] "law" (defScope EX) f cdv A outer s H E).nox ((K9 ((defBody EX).getD 1 (.Pass ⟨0,0,0,0⟩))).getD 8 (.Pass ⟨0,0,0,0⟩)) ts N5:=by
 unfold N5;exact⟨_,(u4 12 G6.nd (j4 (W9 rfl rfl) T.sum bc (f9 (Ev.bw (aJ (osc:=(defScope EX)) (N:=["_law_row"]) (k:=1) (cap:=[]) rfl rfl ⟨rfl,by decide +kernel,by decide +kernel,by decide +kernel,rfl,rfl,by decide +kernel⟩ (G1 (d9 11)) (λcl C ex pins s H=>(n8 (i:=0) (show List.Nodup (["_law_row"]:List Str) by decide +kernel))) (λcl C ex pins s H=>G7) (λcl C ex pins s H=>(F8 X8 (Ev.bw (t8 (r6 rfl) (d9 0) (Ev.bw f8))) (Ev.bw (t8 (r6 rfl) (d9 0) (Ev.bw f8))))))) j7)))⟩
theorem pR:∃ts,Ss K (O6 CX0 P w K mg base ["_law_script","_law_feed_here","_law_turn","_law_house_here","_law_way_here","_law_book","_law_rows","_law_empties","_law_pair","_law_begin","_law_end","_law_some","_law_stays","_law_waits","_law_between","_law_due","_law_again"] "law" (defScope EX) f cdv A outer s H E).nox ((K9 ((defBody EX).getD 1 (.Pass ⟨0,0,0,0⟩))).getD 9 (.Pass ⟨0,0,0,0⟩)) ts N6:=by
 unfold N6;exact⟨_,(u4 13 G6.nd (j4 (W9 rfl rfl) T.sum bc (f9 (Ev.bw (aJ (osc:=(defScope EX)) (N:=["_law_row"]) (k:=1) (cap:=[]) rfl rfl ⟨rfl,by decide +kernel,by decide +kernel,by decide +kernel,rfl,rfl,by decide +kernel⟩ (G1 (d9 11)) (λcl C ex pins s H=>(n8 (i:=0) (show List.Nodup (["_law_row"]:List Str) by decide +kernel))) (λcl C ex pins s H=>G7) (λcl C ex pins s H=>(t8 (r6 rfl) (d9 0) (Ev.bw f8))))) j7)))⟩
theorem mN:∃ts,Ss K (O6 CX0 P w K mg base ["_law_script","_law_feed_here","_law_turn","_law_house_here","_law_way_here","_law_book","_law_rows","_law_empties","_law_pair","_law_begin","_law_end","_law_some","_law_stays","_law_waits","_law_between","_law_due","_law_again"] "law" (defScope EX) f cdv A outer s H E).nox ((K9 ((defBody EX).getD 1 (.Pass ⟨0,0,0,0⟩))).getD 10 (.Pass ⟨0,0,0,0⟩)) ts K4:=by
 unfold K4;exact⟨_,(u4 14 G6.nd (lN (d9 6) (vP (j6 9)) (vP (j6 10))))⟩
theorem mO:∃ts,Ss K (O6 CX0 P w K mg base ["_law_script","_law_feed_here","_law_turn","_law_house_here","_law_way_here","_law_book","_law_rows","_law_empties","_law_pair","_law_begin","_law_end","_law_some","_law_stays","_law_waits","_law_between","_law_due","_law_again"] "law" (defScope EX) f cdv A outer s H E).nox ((K9 ((defBody EX).getD 1 (.Pass ⟨0,0,0,0⟩))).getD 11 (.Pass ⟨0,0,0,0⟩)) ts K1:=by
 unfold K1;exact⟨_,(u4 15 G6.nd (J5 (d0 (j6 12) (d0 (j4 (W9 rfl rfl) T.sum bc (f9 (Ev.bw (aJ (osc:=(defScope EX)) (N:=["_law_row"]) (k:=1) (cap:=[]) rfl rfl ⟨rfl,by decide +kernel,by decide +kernel,by decide +kernel,rfl,rfl,by decide +kernel⟩ (G1 (d9 14)) (λcl C ex pins s H=>(n8 (i:=0) (show List.Nodup (["_law_row"]:List Str) by decide +kernel))) (λcl C ex pins s H=>G7) (λcl C ex pins s H=>(t8 (r6 rfl) (d9 0) (Ev.bw f8))))) j7)) (d0 (j6 13) (d0 (j4 (W9 rfl rfl) T.sum bc (f9 (Ev.bw (aJ (osc:=(defScope EX)) (N:=["_law_row"]) (k:=1) (cap:=[]) rfl rfl ⟨rfl,by decide +kernel,by decide +kernel,by decide +kernel,rfl,rfl,by decide +kernel⟩ (G1 (d9 14)) (λcl C ex pins s H=>(n8 (i:=0) (show List.Nodup (["_law_row"]:List Str) by decide +kernel))) (λcl C ex pins s H=>G7) (λcl C ex pins s H=>(t8 (r6 rfl) (d9 0) (Ev.bw f8))))) j7)) j9))))))⟩
theorem nL:∃ts,Ss K (O6 CX0 P w K mg base ["_law_script","_law_feed_here","_law_turn","_law_house_here","_law_way_here","_law_book","_law_rows","_law_empties","_law_pair","_law_begin","_law_end","_law_some","_law_stays","_law_waits","_law_between","_law_due","_law_again"] "law" (defScope EX) f cdv A outer s H E).nox ((K9 ((defBody EX).getD 1 (.Pass ⟨0,0,0,0⟩))).getD 12 (.Pass ⟨0,0,0,0⟩)) ts K7:=by
 unfold K7;exact⟨_,(X4 rfl (bz (d0 f8 j9) T.range) (n8 (i:=16) G6.nd) (l4 (W6 (E3 (Ah rfl hr.units) (Ev.bw (j4 (rm rfl hr.gd hr.units) T.repr qF (f9 (Ev.bw (k8 EY (hr.mono (by decide)) (v9 (j6 3) (v9 (j6 4) (v9 (j6 9) (v9 (j6 10) p0)))) (v8 (v8 (v8 (v8 r9)))))) j7))) (Ev.bw (j4 (rm rfl hr.gd hr.units) T.repr qF (f9 (d9 15) j7)))) (l4 (z8 jO)) R3)))⟩
theorem va:∃ts,Ss K (O6 CX0 P w K mg base ["_law_script","_law_feed_here","_law_turn","_law_house_here","_law_way_here","_law_book","_law_rows","_law_empties","_law_pair","_law_begin","_law_end","_law_some","_law_stays","_law_waits","_law_between","_law_due","_law_again"] "law" (defScope EX) f cdv A outer s H E).nox ((defBody EX).getD 1 (.Pass ⟨0,0,0,0⟩)) ts lD:=by
 obtain⟨t_law_1_0,h_law_1_0⟩:=qd (f:=f) (cdv:=cdv) (A:=A) (outer:=outer) (s:=s) (H:=H) (E:=E) T hr hu5 EW EU ET EV EY;obtain⟨t_law_1_1,h_law_1_1⟩:=qa (f:=f) (cdv:=cdv) (A:=A) (outer:=outer) (s:=s) (H:=H) (E:=E) T hr hu5 EW EU ET EV EY;obtain⟨t_law_1_2,h_law_1_2⟩:=pK (f:=f) (cdv:=cdv) (A:=A) (outer:=outer) (s:=s) (H:=H) (E:=E) T hr hu5 EW EU ET EV EY;obtain⟨t_law_1_3,h_law_1_3⟩:=oM (f:=f) (cdv:=cdv) (A:=A) (outer:=outer) (s:=s) (H:=H) (E:=E) T hr hu5 EW EU ET EV EY;obtain⟨t_law_1_4,h_law_1_4⟩:=pN (f:=f) (cdv:=cdv) (A:=A) (outer:=outer) (s:=s) (H:=H) (E:=E) T hr hu5 EW EU ET EV EY;obtain⟨t_law_1_5,h_law_1_5⟩:=oV (f:=f) (cdv:=cdv) (A:=A) (outer:=outer) (s:=s) (H:=H) (E:=E) T hr hu5 EW EU ET EV EY;obtain⟨t_law_1_6,h_law_1_6⟩:=qj (f:=f) (cdv:=cdv) (A:=A) (outer:=outer) (s:=s) (H:=H) (E:=E) T hr hu5 EW EU ET EV EY;obtain⟨t_law_1_7,h_law_1_7⟩:=qv (f:=f) (cdv:=cdv) (A:=A) (outer:=outer) (s:=s) (H:=H) (E:=E) T hr hu5 EW EU ET EV EY;obtain⟨t_law_1_8,h_law_1_8⟩:=oY (f:=f) (cdv:=cdv) (A:=A) (outer:=outer) (s:=s) (H:=H) (E:=E) T hr hu5 EW EU ET EV EY;obtain⟨t_law_1_9,h_law_1_9⟩:=pR (f:=f) (cdv:=cdv) (A:=A) (outer:=outer) (s:=s) (H:=H) (E:=E) T hr hu5 EW EU ET EV EY;obtain⟨t_law_1_10,h_law_1_10⟩:=mN (f:=f) (cdv:=cdv) (A:=A) (outer:=outer) (s:=s) (H:=H) (E:=E) T hr hu5 EW EU ET EV EY;obtain⟨t_law_1_11,h_law_1_11⟩:=mO (f:=f) (cdv:=cdv) (A:=A) (outer:=outer) (s:=s) (H:=H) (E:=E) T hr hu5 EW EU ET EV EY;obtain⟨t_law_1_12,h_law_1_12⟩:=nL (f:=f) (cdv:=cdv) (A:=A) (outer:=outer) (s:=s) (H:=H) (E:=E) T hr hu5 EW EU ET EV EY;exact⟨_,X4 rfl (bz (d0 f8 j9) T.range) (n8 (i:=2) G6.nd) (c9 h_law_1_0 (c9 h_law_1_1 (c9 h_law_1_2 (c9 h_law_1_3 (c9 h_law_1_4 (c9 h_law_1_5 (c9 h_law_1_6 (c9 h_law_1_7 (c9 h_law_1_8 (c9 h_law_1_9 (c9 h_law_1_10 (c9 h_law_1_11 (l4 h_law_1_12)))))))))))))⟩
theorem uQ:∃ts,Ss K (O6 CX0 P w K mg base ["_law_script","_law_feed_here","_law_turn","_law_house_here","_law_way_here","_law_book","_law_rows","_law_empties","_law_pair","_law_begin","_law_end","_law_some","_law_stays","_law_waits","_law_between","_law_due","_law_again"] "law" (defScope EX) f cdv A outer s H E).nox ((defBody EX).getD 2 (.Pass ⟨0,0,0,0⟩)) ts gw:=by
 unfold gw;exact⟨_,(z8 jO)⟩
end
def ny:DE->M Out:=(mSq lD gw)
def AG {α:Type}(l:List α)(d:α)(h:0<l.length):l=l.getD 0 d::l.drop 1:=by
 cases l with
 | nil=>simp at h
 | cons a r=>rfl
def spLaw (K:PySem.W.Frag):Sp:=λvs H Q _=>∃(a:NP) (ns:List Int),vs=[.ref a]/\SqL K H a (ns.map V.int)/\ns.length<=63/\D3 (tabsK Feeds.lam K) H/\∀H',Q (.bl true) H'
def vn {f:NP}{cdv:NO}{A:NT}{outer:List Oc}{s:NQ}{H:Hp}{E:XK}(hr:Room 6 (A.deeper (PyProof.Rows.envOfC "law" (defScope EX) s.heap.objs.size f cdv)))(CF:k9 P w K mg base "_law_feed" 1 ["_law_script"] (lH K)) :
  PS (O6 CX0 P w K mg base ["_law_script","_law_feed_here","_law_turn","_law_house_here","_law_way_here","_law_book","_law_rows","_law_empties","_law_pair","_law_begin","_law_end","_law_some","_law_stays","_law_waits","_law_between","_law_due","_law_again"] "law" (defScope EX) f cdv A outer s H E).nox ((defBody EX).getD 0 (.Pass ⟨0,0,0,0⟩)) (N0 (dA (lH K) [] E0 (v6 (t9 0) F0)) (K0 1)) :=
 N1 (i:=1) G6.nd rfl (by first | exact Or.inl rfl | exact Or.inr rfl) (bF CF (hr.mono (by decide)) rfl (i8 (pv 0) l6))
def IR {f:NP}{fd:NV}(Fn:Fun K "law" "law" EX f fd)(T:Txt K mg)(CF:k9 P w K mg base "_law_feed" 1 ["_law_script"] (lH K))(EW:k9 P w K mg base "_law_house" 3 ["_law_feed_here"] (spD K 1 O7))(EU:k9 P w K mg base "_law_sized_way" 3 ["_law_feed_here"] (spD K 1 D7))(ET:k9 P w K mg base "_law_next" 1 ["_law_feed_here","_law_many"] (spD K 2 G2))(EV:k9 P w K mg base "_law_counted" 4 ["_law_house_here","_law_way_here"] (spD K 2 K3))(EY:k9 P w K mg base "sums" 6 ["house","way","begin","end"] (spD K 4 eC))
  (fin:∀ns:List Int,ns.length<=63->∃F',ny ([none,some .feed]++List.replicate (["_law_script","_law_feed_here","_law_turn","_law_house_here","_law_way_here","_law_book","_law_rows","_law_empties","_law_pair","_law_begin","_law_end","_law_some","_law_stays","_law_waits","_law_between","_law_due","_law_again"].length-2) none) (iN ns)=some (.rt (.bool true),F')):FnOk P w K mg base CX0 7 f fd ["_law_script"] (spLaw K):=by
 refine Fn.ok G6 (λvs H Q E h=>?_) (λcdv A outer s H vs Q E hr h=>?_)
 .obtain⟨a,ns,rfl,_⟩:=h;rfl
 .obtain⟨a,ns,rfl,hS,hl,tbo,k⟩:=h;have hu5:(A.deeper (PyProof.Rows.envOfC "law" (defScope EX) s.heap.objs.size f cdv)).units+65<On:=by have:=hr.un;omega
  obtain⟨t_law_1,h_law_1⟩:=va (f:=f) (cdv:=cdv) (A:=A) (outer:=outer) (s:=s) (H:=H) (E:=E) T hr hu5 EW EU ET EV EY;obtain⟨t_law_2,h_law_2⟩:=uQ (f:=f) (cdv:=cdv) (A:=A) (outer:=outer) (s:=s) (H:=H) (E:=E) T hr hu5 EW EU ET EV EY;obtain⟨ts,hq,hk⟩:∃ts,Sss K (O6 CX0 P w K mg base ["_law_script","_law_feed_here","_law_turn","_law_house_here","_law_way_here","_law_book","_law_rows","_law_empties","_law_pair","_law_begin","_law_end","_law_some","_law_stays","_law_waits","_law_between","_law_due","_law_again"] "law" (defScope EX) f cdv A outer s H E).nox ((defBody EX).drop 1) ts ny:=⟨_,(c9 h_law_1 (l4 h_law_2))⟩;have h0:=vn (P:=P) (w:=w) (K:=K) (mg:=mg) (base:=base) (f:=f) (cdv:=cdv) (A:=A) (outer:=outer) (s:=s) (H:=H) (E:=E) hr CF;have hsp:=AG (defBody EX) (.Pass ⟨0,0,0,0⟩) (by decide +kernel);generalize List.drop 1 (defBody EX)=R at hq hsp;generalize (defBody EX).getD 0 (NW.Pass { line:=0,col:=0,endLine:=0,endCol:=0 })=S0 at h0 hsp;have hp:=l3 h0 hq;rw[<-hsp]at hp;refine⟨_,hp,?_⟩;refine⟨_,rfl,a,ns,rfl,hS,hl,λd c H1 f1 s1=>?_⟩;obtain⟨F',e⟩:=fin ns hl;have fat:FAt K (some (d,c)) H1 (iN ns):=⟨f1,tbo.congr λb hb=>by
   obtain⟨o,e⟩:∃o,H b=some o:=by
    rcases hb with hb | ⟨φ,e⟩
    .obtain⟨t,ht,rfl⟩:=JS.1 hb;obtain⟨ps,e,_⟩:=tbo t ht;exact⟨_,e⟩
    .exact⟨_,e⟩
   rw[e];exact s1 b o e⟩
  refine hk (some (d,c)) (n6 K (some (d,c))) H1 _ (iN ns) _ H1 _ _ F' ⟨⟨n6 K (some (d,c)),λ_ z=>z,λb hb=>.inl hb,⟨fat,λ_ z=>z,fat.bok,by simp[L2.E8],λi x ei=>?_⟩⟩,λ_ z=>z,Kp.refl,λi ds b ei=>?_,λi j ds es b ei=>?_⟩ e (λv H' _ _ hv=>?_)
  .match i,ei with
   | 0,ei=>cases ei
   | 1,ei=>cases ei;exact⟨.ref d,rfl,d,c,rfl,rfl⟩
   | i+2,ei=>simp only[KF,Ku,LN,Ki]at ei;split at ei <;> cases ei
  .match i,ei with
   | 0,ei=>cases ei
   | 1,ei=>cases ei
   | i+2,ei=>simp only[KF,Ku,LN,Ki]at ei;split at ei <;> cases ei
  .match i,ei with
   | 0,ei=>cases ei
   | 1,ei=>cases ei
   | i+2,ei=>simp only[KF,Ku,LN,Ki]at ei;split at ei <;> cases ei
  .simp only[a7]at hv;subst hv;exact k H'
end
end
section
def gU:O7=bJ:=rfl
def wV:D7=dY ["_law_feed_here","_law_beats","_law_works","_law_way_here","_law_many","_law_k","_law_beat_here","_law_j"]:=rfl
def pA:K3=LM.Fp:=rfl
def xU:eC=kK:=rfl
abbrev rwC (c:Co):My:=vv (LM.rowOf c)
def sq (c:Co):∃z,ixD (rwC c) (.int 0)=some (.str z)/\eqD false (.str z) (.str "gone")=some (.bool (isG c)):=by
 obtain⟨z,e1,e2⟩:=nh c;cases c with
 | inn a w =>
  have e1:some (My.str "in")=some (.str z):=e1;cases e1;exact⟨_,rfl,e2⟩
 | lost a =>
  have e1:some (My.str "lost")=some (.str z):=e1;cases e1;exact⟨_,rfl,e2⟩
 | gone a m w =>
  have e1:some (My.str "gone")=some (.str z):=e1;cases e1;exact⟨_,rfl,e2⟩
def Cn {b e:Nat}{c:Co}{F:FdS}{Q:Bool->FdS->Prop}(q:Q (V8 b e c) F):wp (Bs [some (.dat (rwC c)),some (.dat (.int (b:Int))),some (.dat (.int (e:Int)))] F) Q:=by
 obtain⟨z,e1,e2⟩:=sq c;refine qg.2 (Y1.2 (n9.2 (n9.2 (g9.2 (i6 rfl (u7.2 (c6 e1 (u7.2 (c6 e2 (c6 rfl ?_))))))))));cases c with
 | inn a w=>exact u9 rfl q
 | lost a=>exact u9 rfl q
 | gone a m w =>
  refine T3 rfl (Y1.2 (Ae.2 (g9.2 (i6 rfl (n9.2 (g9.2 (i6 rfl (u7.2 (c6 rfl (c6 zJ (c6 rfl (P6 (λh=>?_) λh=>?_))))))))))))
  .have h:((b:Nat):Int)<=((a:Nat):Int):=JT h;refine g9.2 (i6 rfl (c6 AC (c6 rfl ?_)));have e3:V8 b e (.gone a m w)=decide (((a:Nat):Int)<((e:Nat):Int)):=by
    show(decide (b<=a)&&decide (a<e))=_;rw[Kn (show b<=a by omega),MV,KJ];omega
   rw[e3]at q;exact q
  .have h:¬((b:Nat):Int)<=((a:Nat):Int):=Kj h;have e3:V8 b e (.gone a m w)=false:=by
    show(decide (b<=a)&&decide (a<e))=_;rw[JY (show ¬b<=a by omega),Ma]
   rw[e3]at q;exact c6 rfl q
def we {es:List Nat}{i:Int}(h0:-(es.length:Int)<=i)(h1:i<es.length):∃e∈es,ixD (.list (es.map λ(e:Nat)=>.int (e:Int))) (.int i)=some (.int (e:Int)):=by
 have key:∀j,j<es.length->ixN es.length i=some j->∃e∈es,ixD (.list (es.map λ(e:Nat)=>.int (e:Int))) (.int i)=some (.int (e:Int)):=λj hj hi=>by
  refine⟨es[j],Mi hj,?_⟩;show atI (es.map λ(e:Nat)=>My.int (e:Int)) i=_;unfold atI;rw[Jf,hi,JC,Js,Ji hj];rfl
 by_cases hi:0<=i
 .exact key i.toNat (by omega) (by unfold ixN;rw[Jk hi,Jk h1])
 .exact key (i+es.length).toNat (by omega) (by unfold ixN;rw[Jo hi,Jk h0])
def DX (a b:Nat):∃c d:Nat,c<=d/\(d=a\/d=b)/\ax [.list [.int (a:Int),.int (b:Int)]]=some (.list [.int (c:Int),.int (d:Int)]):=by
 have e:∀x y:Int,ax [.list [.int x,.int y]]=some (.list ((jQ [x,y]).map .int)):=λx y=>rfl
 rw[e];show ∃c d:Nat,_/\_/\some (My.list ((kC (a:Int) [(b:Int)]).map .int))=_;unfold kC;split
 .exact⟨a,b,by omega,.inr rfl,rfl⟩
 .exact⟨b,a,by omega,.inl rfl,rfl⟩
def yU {f:Nat->My}{n b e:Nat}(hbe:b<=e)(hen:e<=n):cM ((List.range n).map f) (some (b:Int)) (some (e:Int))=(List.range (e-b)).map λi=>f (b+i):=by
 unfold cM;rw[Jf,JD];have h1:HT.sIx n 0 (some (b:Int))=b:=by rw[HT.sIx_nat];omega
 have h2:HT.sIx n n (some (e:Int))=e:=by rw[HT.sIx_nat];omega
 rw[h1,h2];refine LZ λi=>?_
 rw[LU,Mu,Js,Js];by_cases hi:i<e-b
 .rw[Jk hi,Li (by omega),Li hi];rfl
 .rw[Jo hi,Kx (by simp;omega)];rfl
theorem ir {α:Type}{f:α->Int}:∀{l:List α},(∀x∈l,-1000<=f x/\f x<=1000)->-1000*(l.length:Int)<=(l.map f).sum/\(l.map f).sum<=1000*l.length
 | [],_=>by simp
 | a::l,h=>by
  obtain⟨h1,h2⟩:=h a Jv;obtain⟨h3,h4⟩:=ir (f:=f) (l:=l) λx hx=>h x (Jh _ hx)
  rw[Jy,Ny,JB];push_cast;omega
def Z2 {b:Bt}{way:List Bt}:C0 (b::way)=b.length+C0 way:=by unfold C0;rw[Jy,Ny]
def xq:∀(way:List Bt) (o:Option DV) (F:FdS) (Q:List My->FdS->Prop),F.t+way.length<=199999 ->
  (∀(w2:List Bt) (F':FdS),w2.length=way.length->C0 w2<=C0 way->(∀b∈w2,b=[]\/b∈way)->F'.t<=F.t+way.length->Q (w2.map btD) F') ->
  wp (Q6 (bN 0) U2 (sIf (uB (s2 (eqD false) (v7 G2 (vF 1 (vD (sC (.int 2)) E9))) (sC (.int 0)))) (sV 0) (sC (.tuple []))) (way.map btD) [o,some .feed] F) Q
 | [],o,F,Q,_,q=>b7.2 (q [] F rfl (Jq _) (λz hz=>by cases hz) (by simp))
 | b::way,o,F,Q,hF,q=>by
  have e1:((b::way).length:Int)=(way.length:Int)+1:=by rw[JB];push_cast;rfl
  rw[e1]at hF q;rw[Jy,Q6,show(bN 0 (btD b) [o,some DV.feed])=some [some (.dat (btD b)),some .feed] from rfl,JC,b8];refine gM.2 ?_;rw[Jk rfl,b8];dsimp only;refine iB.2 (Y1.2 (n9.2 (x6.2 (oy.2 (mv rfl (G5.2 (u7.2 (C3.2 ?_))))))));refine G9 (by decide) (by decide) (by omega) λy F3 y0 y1 t3=>u7.2 (c6 eq0 (c6 rfl ?_))
  have go:∀c:Bt,c.length<=b.length->(c=[]\/c=b)->wp (Q6 (bN 0) U2 (sIf (uB (s2 (eqD false) (v7 G2 (vF 1 (vD (sC (.int 2)) E9))) (sC (.int 0)))) (sV 0) (sC (.tuple []))) (way.map btD) [some (.dat (btD b)),some .feed] F3) λzs F2=>wp (some (btD c::zs,F2)) Q:=λc hc hb=>by
   refine xq way _ F3 _ (by omega) λw2 F4 hl hs hm t4=>b7.2 (q (c::w2) F4 (by simp[hl]) (by rw[Z2,Z2];omega) (λz hz=>?_) (by omega))
   rcases Jl.1 hz with rfl | hz
   .rcases hb with rfl | rfl
    .exact .inl rfl
    .exact .inr Jv
   .rcases hm z hz with e | e
    .exact .inl e
    .exact .inr (Jh _ e)
  refine P6 (λhy=>?_) λhy=>?_
  .refine l9.2 (l8 rfl ?_);rw[b8];exact go b (Jq _) (.inr rfl)
  .refine u7.2 ?_;rw[b8];exact go [] (Ka _) (.inl rfl)
def N8 {way:List Bt}{n:Nat}:C0 (way.take n)<=C0 way:=by
 induction way generalizing n with
 | nil=>simp
 | cons b way ih =>
  cases n with
  | zero=>simp[C0]
  | succ n=>rw[Ml,Z2,Z2];have:=ih (n:=n);omega
def tK {k:Nat}:C0 (List.replicate k ([]:Bt))=0:=by
 induction k with
 | zero=>rfl
 | succ k ih=>rw[Kd,Z2,ih];rfl
def sT {a b:List Bt}:C0 (a++b)=C0 a+C0 b:=by unfold C0;rw[JE,Nh]
def EJ {k:Nat}(h:k<=1000):dE (.tuple [.tuple []]) (.int (k:Int))=some (.tuple ((List.replicate k ([]:Bt)).map btD)):=by
 rw[Ez (by simp;omega) (by omega) (by omega)];congr 2;rw[show((k:Int)).toNat=k from by omega];induction k with
 | zero=>rfl
 | succ k ih=>rw[Kd,Le,ih (by omega),Kd,Jy];rfl
def Cu {way:List Bt}:cM (way.map btD) none (some (24:Int))=(way.take 24).map btD:=by
 rw[show(24:Int)=((24:Nat):Int) from rfl,cV,List.map_take]
abbrev told (h:Nat)(pl:Option Nat)(r:My)(way:List Bt)(b e:Nat):My:=.tuple [.int (((M8 h (kOf r) (kb r) (tnB r) pl way way.length).told.filter (V8 b e)).map oa).sum,.int ((List.range (e-b)).map λi=>((J3 h (kOf r) (kb r) (tnB r) pl way (b+i):Nat):Int)).sum,
   .int (((M8 h (kOf r) (kb r) (tnB r) pl way way.length).told.filter (V8 b e)).map wtC).sum,.int ((List.range (e-b)).map λi=>((J3 h (kOf r) (kb r) (tnB r) pl way (b+i):Nat):Int)-(min h (J3 h (kOf r) (kb r) (tnB r) pl way (b+i)):Nat)).sum]
def vb {h:Nat}{pl:Option Nat}{r:My}{way:List Bt}{b e:Nat}(hn:way.length<=24)(hl:C0 way<64)(hen:e<=way.length):cG (told h pl r way b e)=true:=by
 have hln:=aM (h:=h) (k:=kOf r) (kp:=kb r) (tn:=tnB r) (pl:=pl) (way:=way) (m:=way.length) (Jq _);rw[LK]at hln;have hfl:=Ky (V8 b e) (M8 h (kOf r) (kb r) (tnB r) pl way way.length).told;have hwt:=qL (h:=h) (k:=kOf r) (kp:=kb r) (tn:=tnB r) (pl:=pl) (way:=way) way.length;have hg:=ik (b:=b) (e:=e) (l:=(M8 h (kOf r) (kb r) (tnB r) pl way way.length).told);have hin:∀c∈(M8 h (kOf r) (kb r) (tnB r) pl way way.length).told.filter (V8 b e),Wt way.length c:=λc hc=>hwt c (JP.1 hc).1
 have hc:∀i∈List.range (e-b),J3 h (kOf r) (kb r) (tnB r) pl way (b+i)<=1000:=λi hi=>by
  have hi:=JN.1 hi;have h1:=bg (h:=h) (k:=kOf r) (kp:=kb r) (tn:=tnB r) (pl:=pl) (ps:=[]) (way:=way) (by simpa using hl) (i:=b+i) (by omega);unfold J3;rw[dm (by omega),V2];have:=bP pl (P3 (C1 h (kOf r) (kb r) (tnB r) pl) [] way (b+i)).length (f7 way (b+i)).length;omega
 unfold told;generalize (M8 h (kOf r) (kb r) (tnB r) pl way way.length).told.filter (V8 b e)=gl at *;have s1:=ir (f:=oa) (l:=gl) λc hc=>by
  obtain⟨a,m,w,rfl⟩:=hg c hc;obtain⟨x1,x2,x3⟩:=hin _ hc;exact⟨by show(-1000:Int)<=(m:Int)-(a:Int);omega,by show(m:Int)-(a:Int)<=1000;omega⟩
 have s2:=ir (f:=wtC) (l:=gl) λc hc=>by
  obtain⟨a,m,w,rfl⟩:=hg c hc;obtain⟨x1,x2,x3⟩:=hin _ hc;exact⟨by show(-1000:Int)<=(w:Int);omega,by show(w:Int)<=1000;omega⟩
 have s3:=ir (f:=λi=>((J3 h (kOf r) (kb r) (tnB r) pl way (b+i):Nat):Int)) (l:=List.range (e-b)) λi hi=>by have:=hc i hi;exact⟨by omega,by omega⟩
 have s4:=ir (f:=λi=>((J3 h (kOf r) (kb r) (tnB r) pl way (b+i):Nat):Int)-(min h (J3 h (kOf r) (kb r) (tnB r) pl way (b+i)):Nat)) (l:=List.range (e-b)) λi hi=>by have:=hc i hi;exact⟨by omega,by omega⟩
 rw[JD]at s3 s4;refine((Sml.tup (c:=1) (k:=0) λd hd=>?_).mono (N':=1000) (k':=2) (by simp) (by decide)).repr (by decide) (by decide);simp only[Jl,Lv,Nm]at hd;rcases hd with rfl | rfl | rfl | rfl
 .exact yu (by omega) (by omega)
 .exact yu (by omega) (by omega)
 .exact yu (by omega) (by omega)
 .exact yu (by omega) (by omega)
abbrev dG (h:Nat)(pl:Option Nat)(r:My)(w:List Bt):List Co:=(M8 h (kOf r) (kb r) (tnB r) pl w w.length).told
abbrev Am (h:Nat)(pl:Option Nat)(r:My)(w:List Bt):My:=.list ((List.range w.length).map λi=>LM.rowI h (J3 h (kOf r) (kb r) (tnB r) pl w i))
abbrev nxt (o:Out):Prop:=∃o2 o3 o4 o5 o6 o7 o8 o9 o10 o11 o12 o13 o14 o15 o16,o = .nx [none,some .feed,o2,o3,o4,o5,o6,o7,o8,o9,o10,o11,o12,o13,o14,o15,o16]
def Dq {h:Nat}{pl:Option Nat}{r:My}{w:List Bt}{b e:Nat}{F:FdS}{Q:My->FdS->Prop}(hr:r∈W8)(hw:WayOk 24 w)(hbe:b<=e)(hen:e<=w.length)(q:Q (told h pl r w b e) F):wp (eC [.dat (hsD h pl r),.dat (wyD w),.dat (.int (b:Int)),.dat (.int (e:Int))] F) Q:=by
 rw[xU];have h1:=hw.len;have h2:=hw.many;exact Cy hr (λi hi=>jD (ps:=[]) (λv _=>Ka v) (KA hi)) (by omega) (by omega) hbe hen q
def Cf {h:Nat}{pl:Option Nat}{r:My}{w:List Bt}{b e:Nat}{F:FdS}(hr:r∈W8)(hw:WayOk 24 w)(hbe:b<=e)(hen:e<=w.length)(o2 o7 o8 o11 o12 o13 o14 o15 o16:Option DV) :
  wp ((mSq N3 (mSq N5 (mSq N6 (mSq K4 (mSq K1 K7))))) [none,some .feed,o2,some (.dat (hsD h pl r)),some (.dat (wyD w)),some (.dat (.list ((dG h pl r w).map rwC))),some (.dat (Am h pl r w)),o7,o8,some (.dat (.int (b:Int))),some (.dat (.int (e:Int))),o11,o12,o13,o14,o15,o16] F) λo F'=>F'=F/\nxt o:=by
 have h1:=hw.len;have h2:=hw.many;have hln:=aM (h:=h) (k:=kOf r) (kp:=kb r) (tn:=tnB r) (pl:=pl) (way:=w) (m:=w.length) (Jq _);rw[LK]at hln;have hln:(dG h pl r w).length=C0 w:=hln;have hfl:=Ky (V8 b e) (dG h pl r w);have hg:=ik (b:=b) (e:=e) (l:=dG h pl r w);have krep:=vb (h:=h) (pl:=pl) (r:=r) (b:=b) hw.len (by omega) hen;have eD:told h pl r w b e = .tuple [.int (((dG h pl r w).filter (V8 b e)).map oa).sum,.int ((List.range (e-b)).map λi=>((J3 h (kOf r) (kb r) (tnB r) pl w (b+i):Nat):Int)).sum,
   .int (((dG h pl r w).filter (V8 b e)).map wtC).sum,.int ((List.range (e-b)).map λi=>((J3 h (kOf r) (kb r) (tnB r) pl w (b+i):Nat):Int)-(min h (J3 h (kOf r) (kb r) (tnB r) pl w (b+i)):Nat)).sum]:=rfl
 refine i9.2 ?_;unfold N3;refine l7.2 (S8.2 (D8.2 (g9.2 (i6 rfl (c6 P2 ⟨sz (by rw[Jf];omega),?_⟩)))));refine Dc (x:=rwC) (g:=V8 b e) (f:=rwC) (dG h pl r w) _ (λc hc F Q q=>Cn q) (λc hc _ F Q q=>l9.2 (l8 rfl q)) ⟨h8 rfl,h9 ?_⟩;generalize (dG h pl r w).filter (V8 b e)=gl at hfl hg eD;refine i9.2 ?_;unfold N5;refine l7.2 (E5.2 (a9.2 (S8.2 (D8.2 (g9.2 (i6 rfl (c6 P2 ⟨sz (by rw[Jf];omega),?_⟩)))))));refine oS (x:=rwC) (f:=λc=>.int (oa c)) gl _ (λc hc F Q q=>?_) (d7.2 (c6 (R9 oa gl) ⟨h8 rfl,h9 ?_⟩))
 .obtain⟨a,m,x,rfl⟩:=hg c hc;exact n9.2 (n9.2 (g9.2 (i6 rfl (u7.2 (c6 rfl (n9.2 (g9.2 (i6 rfl (u7.2 (c6 rfl (c6 X3 q)))))))))))
 refine i9.2 ?_;unfold N6;refine l7.2 (E5.2 (a9.2 (S8.2 (D8.2 (g9.2 (i6 rfl (c6 P2 ⟨sz (by rw[Jf];omega),?_⟩)))))));refine oS (x:=rwC) (f:=λc=>.int (wtC c)) gl _ (λc hc F Q q=>?_) (d7.2 (c6 (R9 wtC gl) ⟨h8 rfl,h9 ?_⟩))
 .obtain⟨a,m,x,rfl⟩:=hg c hc;exact n9.2 (g9.2 (i6 rfl (u7.2 (c6 rfl q))))
 refine i9.2 ?_;unfold K4;refine l7.2 (md.2 (g9.2 (i6 rfl (sg.2 (l9.2 (l8 rfl (c6 xu (sg.2 (l9.2 (l8 rfl (c6 xu (c6 xi ?_))))))))))));rw[yU hbe hen];refine⟨h8 rfl,h9 (i9.2 ?_)⟩;unfold K1;refine l7.2 (R1.2 (a9.2 (l9.2 (l8 rfl (a9.2 (E5.2 (a9.2 (S8.2 (D8.2 (g9.2 (i6 rfl (c6 P2 ⟨sz (by rw[Jf,JD];omega),?_⟩))))))))))));refine oS (x:=λi=>LM.rowI h (J3 h (kOf r) (kb r) (tnB r) pl w (b+i))) (f:=λi=>.int ((J3 h (kOf r) (kb r) (tnB r) pl w (b+i):Nat):Int)) (List.range (e-b)) _ (λc hc F Q q=>n9.2 (g9.2 (i6 rfl (u7.2 (c6 rfl q))))) (d7.2 (c6 (R9 (λi=>((J3 h (kOf r) (kb r) (tnB r) pl w (b+i):Nat):Int)) _) ?_));refine a9.2 (l9.2 (l8 rfl (a9.2 (E5.2 (a9.2 (S8.2 (D8.2 (g9.2 (i6 rfl (c6 P2 ⟨sz (by rw[Jf,JD];omega),?_⟩))))))))));refine oS (x:=λi=>LM.rowI h (J3 h (kOf r) (kb r) (tnB r) pl w (b+i))) (f:=λi=>.int (((J3 h (kOf r) (kb r) (tnB r) pl w (b+i):Nat):Int)-(min h (J3 h (kOf r) (kb r) (tnB r) pl w (b+i)):Nat))) (List.range (e-b)) _ (λc hc F Q q=>n9.2 (g9.2 (i6 rfl (u7.2 (c6 rfl q))))) (d7.2 (c6 (R9 (λi=>((J3 h (kOf r) (kb r) (tnB r) pl w (b+i):Nat):Int)-(min h (J3 h (kOf r) (kb r) (tnB r) pl w (b+i)):Nat)) _) (d7.2 ⟨B3 rfl,h8 rfl,h9 ?_⟩)));rw[<-eD];unfold K7;refine ar.2 (dS.2 (a9.2 (u7.2 (d7.2 (c6 rfl ?_)))));refine J1 (λj E F6=>F6=F/\∃o11 o12 o13 o14 o16,E=[none,some .feed,o2,some (.dat (hsD h pl r)),some (.dat (wyD w)),some (.dat (.list ((dG h pl r w).map rwC))),some (.dat (Am h pl r w)),o7,o8,some (.dat (.int (b:Int))),some (.dat (.int (e:Int))),o11,o12,o13,o14,some (.dat (told h pl r w b e)),o16]) _ 0 _ F ⟨rfl,_,_,_,_,_,rfl⟩ ?_ ?_
 .rintro j dj ej E F6 ⟨rfl,o11,o12,o13,o14,o16,rfl⟩;refine⟨_,rfl,?_⟩;refine W2.2 (Y1.2 (n9.2 (E5.2 (a9.2 (x6.2 (G5.2 (l9.2 (l8 rfl (G5.2 (l9.2 (l8 rfl (G5.2 (l9.2 (l8 rfl (G5.2 (l9.2 (l8 rfl (C3.2 ?_))))))))))))))))));refine Dq hr hw hbe hen (d7.2 (c6 (zN krep) (E5.2 (a9.2 (g9.2 (i6 rfl (d7.2 (c6 (zN krep) (c6 BQ (c6 rfl (fI.2 (bW.2 ⟨_,rfl,rfl,_,_,_,_,_,rfl⟩))))))))))))
 .rintro E F6 ⟨rfl,o11,o12,o13,o14,o16,rfl⟩;exact⟨rfl,_,_,_,_,_,_,_,_,_,_,_,_,_,_,_,rfl⟩
def Cb {F:FdS}(hF:F.t+300<=199999)(o2 o3 o4 o5 o6 o7 o8 o9 o10 o11 o12 o13 o14 o15 o16:Option DV):wp ((mSq Y4 (mSq Y9 (mSq Y8 (mSq U7 (mSq R5 (mSq Q0 (mSq Q1 (mSq N3 (mSq N5 (mSq N6 (mSq K4 (mSq K1 K7)))))))))))) [none,some .feed,o2,o3,o4,o5,o6,o7,o8,o9,o10,o11,o12,o13,o14,o15,o16] F) λo F'=>F'.t<=F.t+250/\nxt o:=by
 refine i9.2 ?_;unfold Y4;rw[gU];refine l7.2 (x6.2 (oy.2 (mv rfl (C3.2 ?_))));refine tI.wp (by omega) λd1 F1 t1 hd1=>?_
 obtain⟨h,pl,r,rfl,hh1,hh3,hr,hpl⟩:=hd1;refine⟨h8 rfl,h9 (i9.2 ?_)⟩;unfold Y9;rw[wV];refine l7.2 (x6.2 (oy.2 (mv rfl (C3.2 ?_))));refine(wF rfl).wp (by omega) λd2 F2 t2 hd2=>?_
 obtain⟨way,rfl,hw⟩:=hd2;refine⟨h8 rfl,h9 (i9.2 ?_)⟩;have last:∀(w:List Bt) (F5:FdS),F5.t<=F.t+240->WayOk 24 w->wp ((mSq R5 (mSq Q0 (mSq Q1 (mSq N3 (mSq N5 (mSq N6 (mSq K4 (mSq K1 K7)))))))) [none,some .feed,o2,some (.dat (hsD h pl r)),some (.dat (wyD w)),o5,o6,o7,o8,o9,o10,o11,o12,o13,o14,o15,o16] F5) λo F'=>F'.t<=F.t+250/\nxt o:=λw F5 t5 hw=>by
  have h1:=hw.len;have h2:=hw.many;obtain⟨he1,he2,he3⟩:=LM.emp_le (v:=V9 h pl r w) w.length;refine i9.2 ?_;unfold R5;rw[pA];refine X2.2 (x6.2 (G5.2 (l9.2 (l8 rfl (G5.2 (l9.2 (l8 rfl (C3.2 ?_))))))));refine LM.counted_w hr (λb hb c hc=>(hw.ok b hb c hc).2.2.1) (by omega) (by omega) (c6 rfl (h9 (i9.2 ?_)));rw[JF];unfold Q0;have ll:∀{n:Nat},U1 [.list ((LM.emp (V9 h pl r w) n).map λ(e:Nat)=>.int (e:Int))]=some (.int ((LM.emp (V9 h pl r w) n).length:Nat)):=λ{n}=>by
   show some (My.int _)=_;rw[Jf]
  refine l7.2 (E5.2 (a9.2 (lI.2 (a9.2 (n9.2 (g9.2 (i6 rfl (x6.2 (oy.2 (mv rfl (G5.2 (E5.2 (a9.2 (g9.2 (i6 rfl (d7.2 (c6 ll (C3.2 ?_))))))))))))))))));refine G9 (by omega) (by omega) (by omega) λy F6 y0 y1 t6=>?_
  obtain⟨a,ha,ea⟩:=we (es:=LM.emp (V9 h pl r w) w.length) (i:=y) (by omega) (by omega);refine c6 ea (a9.2 (n9.2 (g9.2 (i6 rfl (n9.2 (Bk.2 (u7.2 (c6 rfl (x6.2 (oy.2 (mv rfl (G5.2 (E5.2 (a9.2 (g9.2 (i6 rfl (d7.2 (c6 ll (C3.2 ?_)))))))))))))))))));refine G9 (by omega) (by omega) (by omega) λz F7 z0 z1 t7=>?_
  obtain⟨c,hc,ec⟩:=we (es:=LM.emp (V9 h pl r w) w.length) (i:=-1-z) (by omega) (by omega);obtain⟨b,e,hbe,he,es⟩:=DX a c;have hen:e<=w.length:=by
   have:=he1 a ha;have:=he1 c hc;omega
  refine c6 X3 (c6 ec (d7.2 ⟨B3 rfl,d7.2 (c6 es ⟨h8 rfl,h9 (i9.2 ?_)⟩)⟩));unfold Q1;refine oP (BD (n9.2 (g9.2 (i6 rfl (u7.2 (c6 rfl (BD (n9.2 (g9.2 (i6 rfl (u7.2 (c6 rfl ⟨⟨h8 rfl,h8 rfl⟩,h9 ?_⟩))))))))))));exact i4 (Cf hr hw hbe hen _ _ _ _ _ _ _ _ _) λo F' ⟨e1,n⟩=>⟨by rw[e1];omega,n⟩
 have cut:∀(w:List Bt) (F3:FdS),F3.t<=F.t+208->WayOk 24 w->wp ((mSq U7 (mSq R5 (mSq Q0 (mSq Q1 (mSq N3 (mSq N5 (mSq N6 (mSq K4 (mSq K1 K7))))))))) [none,some .feed,o2,some (.dat (hsD h pl r)),some (.dat (wyD w)),o5,o6,o7,o8,o9,o10,o11,o12,o13,o14,o15,o16] F3) λo F'=>F'.t<=F.t+250/\nxt o:=λw F3 t3 hw=>by
  have h1:=hw.len;have h2:=hw.many;refine i9.2 ?_;unfold U7;refine l7.2 (md.2 (n9.2 (g9.2 (i6 rfl (n9.2 (u7.2 (x6.2 (oy.2 (mv rfl (G5.2 (u7.2 (C3.2 ?_))))))))))));refine G9 (by decide) (by decide) (by omega) λy F4 y0 y1 t4=>?_
  obtain⟨k,rfl⟩:∃k:Nat,y=(k:Int):=⟨y.toNat,by omega⟩;refine c6 (EJ (by omega)) (c6 (Dh (by simp;omega)) (qJ.2 (sg.2 (u7.2 (c6 xu (c6 uV ?_))))));rw[<-JE,Cu];refine⟨h8 rfl,h9 (last _ F4 (by omega) ⟨?_,?_,λb hb c hc=>?_⟩)⟩
  .rw[Ke];omega
  .refine JM N8 ?_;rw[sT,tK];omega
  .rcases Jj.1 (Lo hb) with hb | hb
   .exact hw.ok b hb c hc
   .rw[List.eq_of_mem_replicate hb]at hc;cases hc
 unfold Y8;have h1:=hw.len;refine W2.2 (Y1.2 (n9.2 (x6.2 (oy.2 (mv rfl (G5.2 (u7.2 (C3.2 ?_))))))));refine G9 (by decide) (by decide) (by omega) λy F3 y0 y1 t3=>u7.2 (c6 Ad (c6 rfl (P6 (λhy=>?_) λhy=>?_)))
 .refine l7.2 (E5.2 (a9.2 (S8.2 (D8.2 (g9.2 (i6 rfl (c6 fq ⟨sz (by rw[Jf];omega),?_⟩)))))));refine xq way _ F3 _ (by omega) λw2 F4 hl hs hm t4=>?_
  refine d7.2 (c6 oN ⟨h8 rfl,h9 (cut w2 F4 (by omega) ⟨by omega,by have:=hw.many;omega,λb hb c hc=>?_⟩)⟩);rcases hm b hb with rfl | hm
  .cases hc
  .exact hw.ok b hm c hc
 .exact bW.2 (h9 (cut way F3 (by omega) hw))
def fin (ns:List Int):∃F',ny ([none,some .feed]++List.replicate 15 none) (iN ns)=some (.rt (.bool true),F'):=by
 have key:wp (ny ([none,some .feed]++List.replicate 15 none) (iN ns)) λo _=>o = .rt (.bool true):=by
  have h0:(iN ns).t=0:=rfl;unfold ny;refine i9.2 ?_;unfold lD;refine ar.2 (dS.2 (a9.2 (u7.2 (d7.2 (c6 rfl ?_)))));refine J1 (λj E F=>F.t<=250*j/\∃o2 o3 o4 o5 o6 o7 o8 o9 o10 o11 o12 o13 o14 o15 o16,E=[none,some .feed,o2,o3,o4,o5,o6,o7,o8,o9,o10,o11,o12,o13,o14,o15,o16]) _ 0 _ (iN ns) ⟨by omega,none,none,none,none,none,none,none,none,none,none,none,none,none,none,none,rfl⟩ ?_ ?_
  .rintro j dj ej E F ⟨hF,o2,o3,o4,o5,o6,o7,o8,o9,o10,o11,o12,o13,o14,o15,o16,rfl⟩;have hj:j<2:=(Jm.1 ej).1;refine⟨_,rfl,?_⟩;refine i4 (Cb (F:=F) (by omega) (some (.dat dj)) o3 o4 o5 o6 o7 o8 o9 o10 o11 o12 o13 o14 o15 o16) λo F' ⟨t',n⟩=>?_
   obtain⟨p2,p3,p4,p5,p6,p7,p8,p9,p10,p11,p12,p13,p14,p15,p16,e⟩:=n;exact⟨_,e,by omega,_,_,_,_,_,_,_,_,_,_,_,_,_,_,_,rfl⟩
  .rintro E F ⟨_,o2,o3,o4,o5,o6,o7,o8,o9,o10,o11,o12,o13,o14,o15,o16,rfl⟩;refine h9 ?_;unfold gw;exact aT.2 (u7.2 rfl)
 obtain⟨o,F',e,rfl⟩:=key;exact⟨F',e⟩
end
section
def all_mk {l:PySem.W.OpenLaw}{w:NS}{K:PySem.W.Frag}{h:NY}{mg:Str->Option NO}{fa flaw:NP}(X:K.In h)(G:h.Ns Og mg)(hfa:mg "law" = some (.ref fa))
    {odlaw anlaw:Option NP} {sllaw:Array (Option NO)} {oclaw kVlaw dclaw pmlaw cdlaw ctlaw:NO}
    (alaw:PySem.W.nsIn K Og "law" = some (some (.ref flaw))) (llaw:K.lookup flaw=some ⟨oclaw,odlaw,.func (PySem.W.fnOf "law" "law" (defArgs EX) (defBody EX) (defScope EX) .none kVlaw dclaw pmlaw anlaw cdlaw ctlaw),sllaw⟩) (claw:PySem.W.codeIn K cdlaw "law" = true) (klaw:PySem.W.keepIn K (.ref flaw)=true)
    (HJ:L3.FI K "keeps" GA)
    (GE:L3.FI K "in_hand" Gk)
    (He:L3.FI K "let_in" Gf)
    (Gp:L3.FI K "lined_up" Fd)
    (Hf:L3.FI K "picked" Gg)
    (Hg:L3.FI K "worked" FE)
    (Io:L3.FI K "step" GW)
    (IS:L3.FI K "run" Ik)
    (FM:L3.FI K "after_beat" Fw)
    (GG:L3.FI K "courses" Fm)
    (Ip:L3.FI K "sums" Fx)
    (FY:L3.FI K "_law_feed" FF)
    (FZ:L3.FI K "_law_next" FG)
    (Ga:L3.FI K "_law_rule" FH)
    (FN:L3.FI K "_law_house" Fy)
    (Gq:L3.FI K "_law_way" FT)
    (Fh:L3.FI K "_law_sized_way" Fe)
    (FO:L3.FI K "_law_ahead" Fj)
    (FB:L3.FI K "_law_picked" Ff)
    (Gb:L3.FI K "_law_come" Fq)
    (Gc:L3.FI K "_law_beat" Fs)
    (Gr:L3.FI K "_law_new" FU)
    (Fu:L3.FI K "_law_counted" EZ)
    (zenumerate:PySem.W.nsIn K Og "enumerate" = some none)
    (zint:PySem.W.nsIn K Og "int" = some none)
    (zlen:PySem.W.nsIn K Og "len" = some none)
    (zlist:PySem.W.nsIn K Og "list" = some none)
    (zmax:PySem.W.nsIn K Og "max" = some none)
    (zmin:PySem.W.nsIn K Og "min" = some none)
    (zrange:PySem.W.nsIn K Og "range" = some none)
    (zrepr:PySem.W.nsIn K Og "repr" = some none)
    (zsorted:PySem.W.nsIn K Og "sorted" = some none)
    (zsum:PySem.W.nsIn K Og "sum" = some none)
    (ztuple:PySem.W.nsIn K Og "tuple" = some none)
    {t_KEEPING:NP} {it_KEEPING:Array NO} {n_KEEPING:Nat} {dd_KEEPING:Option NP} {sl_KEEPING:Array (Option NO)} (ga_KEEPING:PySem.W.nsIn K Og "KEEPING" = some (some (.ref t_KEEPING))) (gl_KEEPING:K.lookup t_KEEPING=some ⟨.type "tuple",dd_KEEPING,.seq it_KEEPING n_KEEPING,sl_KEEPING⟩) (gq_KEEPING:L3.strsOf it_KEEPING.toList=some (["first","last","short","front"]:List Str))
    (FP:(PySem.W.tabIn K "lined_up").isSome=true)
    (Gs:(PySem.W.tabIn K "picked").isSome=true)
    (hnd0:decide (((L3.tabsK (["lined_up","picked"]:List Str) K).map (·.2.2)).Nodup)=true)
   :∃fd:NV,(∀(s:NQ) (v:NO),BindsTo s fd ⟨[v],[]⟩ [("_law_script",v)])/\∀base:NY,K.In base->base.Ns Og mg->BMd base mg->(∀t∈L3.tabsK (["lined_up","picked"]:List Str) K,PySem.W.CodeHd base t.2.1 t.2.2)->FnOk l.prog w K mg base CX0 7 fa fd ["_law_script"] (spLaw K):=by
  have hnd:(L3.tabP K).Nodup:=JT hnd0;have e:=hfa.symm.trans (MU X G alaw);cases e;have T:Txt K mg:=⟨KC X G zenumerate,KC X G zint,KC X G zlen,KC X G zlist,KC X G zmax,KC X G zmin,KC X G zrange,KC X G zrepr,KC X G zsorted,KC X G zsum,KC X G ztuple,L3.gd_mk X G ga_KEEPING gl_KEEPING gq_KEEPING (by decide)⟩;obtain⟨_,_,Iq,IT,IU,_⟩:=HJ.mk X G ["rule"] λ_ _ _ _ _ _ us hl=>by
    obtain⟨z0,rfl⟩:=L3.len_1 hl;rfl
  obtain⟨_,_,Hq,Ir,Iu,_⟩:=GE.mk X G ["house","stand"] λ_ _ _ _ _ _ us hl=>by
    obtain⟨z0,z1,rfl⟩:=L3.len_2 hl;rfl
  obtain⟨_,_,HQ,IE,IF,_⟩:=He.mk X G ["house","stand","beat"] λ_ _ _ _ _ _ us hl=>by
    obtain⟨z0,z1,z2,rfl⟩:=L3.len_3 hl;rfl
  obtain⟨_,_,GS,Ia,Ib,⟨_,_,_,Ic⟩,Ie⟩:=Gp.mk X G ["rule","stand"] λ_ _ _ _ _ _ us hl=>by
    obtain⟨z0,z1,rfl⟩:=L3.len_2 hl;rfl
  obtain⟨_,_,HR,IG,IH,⟨_,_,_,II⟩,IJ⟩:=Hf.mk X G ["house","stand"] λ_ _ _ _ _ _ us hl=>by
    obtain⟨z0,z1,rfl⟩:=L3.len_2 hl;rfl
  obtain⟨_,_,HS,IK,IL,_⟩:=Hg.mk X G ["house","stand"] λ_ _ _ _ _ _ us hl=>by
    obtain⟨z0,z1,rfl⟩:=L3.len_2 hl;rfl
  obtain⟨_,_,IM,IW,IX,_⟩:=Io.mk X G ["house","stand","beat"] λ_ _ _ _ _ _ us hl=>by
    obtain⟨z0,z1,z2,rfl⟩:=L3.len_3 hl;rfl
  obtain⟨_,_,IZ,Jd,Je,_⟩:=IS.mk X G ["house","way","stand"] λ_ _ _ _ _ _ us hl=>by
    obtain⟨z0,z1,z2,rfl⟩:=L3.len_3 hl;rfl
  obtain⟨_,_,Gu,Hr,Ht,_⟩:=FM.mk X G ["course","waited","gone_at"] λ_ _ _ _ _ _ us hl=>by
    obtain⟨z0,z1,z2,rfl⟩:=L3.len_3 hl;rfl
  obtain⟨_,_,Hu,Iv,Iw,_⟩:=GG.mk X G ["house","way"] λ_ _ _ _ _ _ us hl=>by
    obtain⟨z0,z1,rfl⟩:=L3.len_2 hl;rfl
  obtain⟨_,_,IP,Ja,Jb,_⟩:=Ip.mk X G ["house","way","begin","end"] λ_ _ _ _ _ _ us hl=>by
    obtain⟨z0,z1,z2,z3,rfl⟩:=L3.len_4 hl;rfl
  obtain⟨_,_,GH,HC,HK,_⟩:=FY.mk X G ["_law_script"] λ_ _ _ _ _ _ us hl=>by
    obtain⟨z0,rfl⟩:=L3.len_1 hl;rfl
  obtain⟨_,_,GJ,HD,HL,_⟩:=FZ.mk X G ["_law_feed_here","_law_many"] λ_ _ _ _ _ _ us hl=>by
    obtain⟨z0,z1,rfl⟩:=L3.len_2 hl;rfl
  obtain⟨_,_,GK,HG,HM,_⟩:=Ga.mk X G ["_law_feed_here"] λ_ _ _ _ _ _ us hl=>by
    obtain⟨z0,rfl⟩:=L3.len_1 hl;rfl
  obtain⟨_,_,Gv,Hm,Hv,_⟩:=FN.mk X G ["_law_feed_here"] λ_ _ _ _ _ _ us hl=>by
    obtain⟨z0,rfl⟩:=L3.len_1 hl;rfl
  obtain⟨_,_,GT,HX,Ig,_⟩:=Gq.mk X G ["_law_feed_here","_law_beats","_law_works"] λ_ _ _ _ _ _ us hl=>by
    obtain⟨z0,z1,z2,rfl⟩:=L3.len_3 hl;rfl
  obtain⟨_,_,FC,Gy,Gz,_⟩:=Fh.mk X G ["_law_feed_here"] λ_ _ _ _ _ _ us hl=>by
    obtain⟨z0,rfl⟩:=L3.len_1 hl;rfl
  obtain⟨_,_,Gw,Hn,Hw,_⟩:=FO.mk X G ["_law_rule_here","_law_one","_law_other"] λ_ _ _ _ _ _ us hl=>by
    obtain⟨z0,z1,z2,rfl⟩:=L3.len_3 hl;rfl
  obtain⟨_,_,Gi,Hd,Hh,_⟩:=FB.mk X G ["_law_m"] λ_ _ _ _ _ _ us hl=>by
    obtain⟨z0,rfl⟩:=L3.len_1 hl;rfl
  obtain⟨_,_,GL,HH,HN,_⟩:=Gb.mk X G ["_law_m","_law_comers"] λ_ _ _ _ _ _ us hl=>by
    obtain⟨z0,z1,rfl⟩:=L3.len_2 hl;rfl
  obtain⟨_,_,GM,HI,HP,_⟩:=Gc.mk X G ["_law_m","_law_comers"] λ_ _ _ _ _ _ us hl=>by
    obtain⟨z0,z1,rfl⟩:=L3.len_2 hl;rfl
  obtain⟨_,_,GU,HY,Ih,_⟩:=Gr.mk X G ["_law_house_here"] λ_ _ _ _ _ _ us hl=>by
    obtain⟨z0,rfl⟩:=L3.len_1 hl;rfl
  obtain⟨_,_,FR,GQ,GR,_⟩:=Fu.mk X G ["_law_house_here","_law_way_here"] λ_ _ _ _ _ _ us hl=>by
    obtain⟨z0,z1,rfl⟩:=L3.len_2 hl;rfl
  have Flaw:=fun_mk (st:=EX) llaw claw klaw;have blaw:=Flaw.binds (ps:=["_law_script"]) λ_ _ _ _ _ _ us hl=>by
    obtain⟨z0,rfl⟩:=L3.len_1 hl;rfl
  have mlaw:=MU X G alaw;refine⟨PySem.W.fnOf "law" "law" (defArgs EX) (defBody EX) (defScope EX) .none kVlaw dclaw pmlaw anlaw cdlaw ctlaw,λs v=>.of_eq rfl,λbase _ _ BM hC=>?_⟩;have FQ:=L3.cal l.prog w base (Il Iq T ) IT Iq IU;have Gn:=L3.cal l.prog w base (Hz Hq T ) Ir Hq Iu;have Fb:=L3.cal l.prog w base (HU HQ T ) IE HQ IF;obtain⟨Fo,IV,Hy⟩:=L3.lamB_mk (mg:=mg) (base:=base) Ie Ic (by decide) FP hnd BM hC;have FV:=L3.cal l.prog w base (Hi GS T Hy ) Ia GS Ib;obtain⟨FD,Jc,Ii⟩:=L3.lamB_mk (mg:=mg) (base:=base) IJ II (by decide) Gs hnd BM hC;have GB:=L3.cal l.prog w base (HV HR T Ii FV FQ) IG HR IH;have Fv:=L3.cal l.prog w base (HW HS T GB FQ) IK HS IL;have HA:=L3.cal l.prog w base (IA IM T Fb Fv) IW IM IX;have Im:=L3.cal l.prog w base (IQ IZ T HA) Jd IZ Je;have FA:=L3.cal l.prog w base (GN Gu T ) Hr Gu Ht;have Gm:=L3.cal l.prog w base (HB Hu T Fb Fv FA) Iv Hu Iw;have EY:=L3.cal l.prog w base (IB IP T Gm Im Fb Gn) Ja IP Jb;have Ho:=L3.cal l.prog w base (GX GH T) HC GH HK;have ET:=L3.cal l.prog w base (GY GJ T ) HD GJ HL;have FJ:=L3.cal l.prog w base (GZ GK T ET) HG GK HM;have EW:=L3.cal l.prog w base (GO Gv T ET FJ) Hm Gv Hv;have FW:=L3.cal l.prog w base (Hj GT T ET) HX GT Ig;have EU:=L3.cal l.prog w base (Gh FC T ET FW) Gy FC Gz;have Fc:=L3.cal l.prog w base (GP Gw T ) Hn Gw Hw;have Ft:=L3.cal l.prog w base (GC Gi T Fc) Hd Gi Hh;have FK:=L3.cal l.prog w base (Hb GL T ) HH GL HN;have FL:=L3.cal l.prog w base (Hc GM T FK Ft) HI GM HP;have FX:=L3.cal l.prog w base (Hl GU T ) HY GU Ih;have EV:=L3.cal l.prog w base (Gx FR T FX FL) GQ FR GR;exact IR Flaw T Ho EW EU ET EV EY (λns _=>fin ns)
def walk {l:PySem.W.OpenLaw}{q:NR}{loose:List Str}{XP:(Str->Option NO)->NY->Prop}{YP:NS->NY->Prop}{d:DefRec}{K:Params->PySem.W.Frag}(hn:l.most=some 63)(hdf:d.params.defaults=[])
  (hrec:((["lined_up","picked"]:List Str).all λx=>((PyProof.Rows.recsOf q).find? λe=>e.name == x).isSome)=true) (hnt:∀w:NS,PySem.W.noTabs (K w.params)=true)
  (hY:∀(w:NS) (h:NY),YP w h->(K w.params).In h)
  (F:∀(w:NS) (mg:Str->Option NO) (fa:NP) (h:NY),(K w.params).In h->h.Ns Og mg->mg d.name=some (.ref fa) ->
   ∃fd:NV,(∀(s:NQ) (u:NO),BindsTo s fd ⟨[u],[]⟩ [("_law_script",u)])/\∀base:NY,(K w.params).In base->base.Ns Og mg->BMd base mg->(∀t∈L3.tabsK (["lined_up","picked"]:List Str) (K w.params),PySem.W.CodeHd base t.2.1 t.2.2)->FnOk l.prog w (K w.params) mg base CX0 7 fa fd ["_law_script"] (spLaw (K w.params))) :
  PySem.W.WalkO q loose XP YP l.row.toRowW d [] (λf vs=>PySem.call f vs) :=
 L3.walk_ofT (["lined_up","picked"]:List Str) (n:=63) (k:=7) (x:="_law_script") (CX:=λ_=>CX0) (sp:=λw=>spLaw (K w.params)) hn (by decide) hdf ⟨rfl,by decide,by decide,rfl⟩ hrec hnt hY F (λ_ _ a ns hl hS hT=>⟨a,ns,rfl,hS,hl,hT,λ_=>rfl⟩) λ_ _ _ _ _ z=>z
end
end K23
open PySem PySem.W PyProof.Rows
set_option maxRecDepth 100000 in
set_option maxHeartbeats 0 in
theorem PySem.Challenge.cw_hatchwaits_k23_sums_of_stretches_holds : PySem.Challenge.rw_hatchwaits_k23_sums_of_stretches.Holds := by
 w_on;o_law;k_head;(case hw=>w_witness2);k_fill;refine K23.walk (l:=PySem.Challenge.rw_hatchwaits_k23_sums_of_stretches) rfl rfl (by first | rfl | kernel_rfl) (by intro w;first | kernel_rfl | with_unfolding_all rfl) (λw h Y=>PySem.W.km_in_of Y) ?F;case F =>
  intro w mg fa h KX G hmg
  refine' K23.all_mk KX G hmg ?alaw ?llaw ?claw ?klaw ?HJ ?GE ?He ?Gp ?Hf ?Hg ?Io ?IS ?FM ?GG ?Ip ?FY ?FZ ?Ga ?FN ?Gq ?Fh ?FO ?FB ?Gb ?Gc ?Gr ?Fu ?zenumerate ?zint ?zlen ?zlist ?zmax ?zmin ?zrange ?zrepr ?zsorted ?zsum ?ztuple ?ga_KEEPING ?gl_KEEPING ?gq_KEEPING ?FP ?Gs ?hnd0
  (case alaw=>k_is)
  (case llaw=>k_is)
  (case claw=>k_is)
  (case klaw=>k_is)
  (case HJ=>exact .of (by k_is) (by k_is) (by k_is) (by k_is))
  (case GE=>exact .of (by k_is) (by k_is) (by k_is) (by k_is))
  (case He=>exact .of (by k_is) (by k_is) (by k_is) (by k_is))
  (case Gp=>exact .of (by k_is) (by k_is) (by k_is) (by k_is))
  (case Hf=>exact .of (by k_is) (by k_is) (by k_is) (by k_is))
  (case Hg=>exact .of (by k_is) (by k_is) (by k_is) (by k_is))
  (case Io=>exact .of (by k_is) (by k_is) (by k_is) (by k_is))
  (case IS=>exact .of (by k_is) (by k_is) (by k_is) (by k_is))
  (case FM=>exact .of (by k_is) (by k_is) (by k_is) (by k_is))
  (case GG=>exact .of (by k_is) (by k_is) (by k_is) (by k_is))
  (case Ip=>exact .of (by k_is) (by k_is) (by k_is) (by k_is))
  (case FY=>exact .of (by k_is) (by k_is) (by k_is) (by k_is))
  (case FZ=>exact .of (by k_is) (by k_is) (by k_is) (by k_is))
  (case Ga=>exact .of (by k_is) (by k_is) (by k_is) (by k_is))
  (case FN=>exact .of (by k_is) (by k_is) (by k_is) (by k_is))
  (case Gq=>exact .of (by k_is) (by k_is) (by k_is) (by k_is))
  (case Fh=>exact .of (by k_is) (by k_is) (by k_is) (by k_is))
  (case FO=>exact .of (by k_is) (by k_is) (by k_is) (by k_is))
  (case FB=>exact .of (by k_is) (by k_is) (by k_is) (by k_is))
  (case Gb=>exact .of (by k_is) (by k_is) (by k_is) (by k_is))
  (case Gc=>exact .of (by k_is) (by k_is) (by k_is) (by k_is))
  (case Gr=>exact .of (by k_is) (by k_is) (by k_is) (by k_is))
  (case Fu=>exact .of (by k_is) (by k_is) (by k_is) (by k_is))
  (case zenumerate=>k_is)
  (case zint=>k_is)
  (case zlen=>k_is)
  (case zlist=>k_is)
  (case zmax=>k_is)
  (case zmin=>k_is)
  (case zrange=>k_is)
  (case zrepr=>k_is)
  (case zsorted=>k_is)
  (case zsum=>k_is)
  (case ztuple=>k_is)
  (case ga_KEEPING=>k_is)
  (case gl_KEEPING=>k_is)
  (case gq_KEEPING=>first | rfl | k_is | with_unfolding_all rfl)
  (case FP=>first | kernel_rfl | with_unfolding_all rfl)
  (case Gs=>first | kernel_rfl | with_unfolding_all rfl)
  (case hnd0=>first | kernel_rfl | with_unfolding_all rfl)
