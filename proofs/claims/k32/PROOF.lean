import PyProof.Rows.All
import Wide.All
import OpenK.AllK
import Wide.FinOn
import Lean
import PyProof.EqAt
import PyProof.EqKinds
import PyProof.TupleCall
import PyProof.Rows.EqDataRows
import PyProof.Rows.InDataRows
import PyProof.StrLawsRepr
import PyProof.AutoListH
import PyProof.TupleKey
import PyProof.P3Eq
import PyProof.FString2
import PyProof.FactsAll.bool
import KE.KDictList
import PyProof.Rows.RuleB_bool
import KE.KDictOf
import PyProof.AttrMissHeap
import PySem.Challenge.RW_hatchwaits_k32_whole_two_houses_exchange
def PySem.W.Fast.tw12051639101901990808:=0
def PySem.W.Fast.tw2639755858164128783:=0
def PySem.W.Fast.tw12666675373778514531:=0
def PySem.W.Fast.tw10751677259787506173:=0
def PySem.W.Fast.tw15327979619859737083:=0
def PySem.W.Fast.tw13396714970708345770:=0
def PySem.W.Fast.tw14733540413928947601:=0
def PySem.W.Fast.tw14968159847674660745:=0
def PySem.W.Fast.tw6703753697358514469:=0
def PySem.W.Fast.tw16696616827145776703:=0
def PySem.W.Fast.tw3340631744558348582:=0
def PySem.W.Fast.tw7239687762295890892:=0
def PySem.W.Fast.tw4587084561692630792:=0
def PySem.W.Fast.tw16064277359925434995:=0
def PySem.W.Fast.tw13317278264435154270:=0
def PySem.W.Fast.tw2150133400001990951:=0
def PySem.W.Fast.tw2273750942224834633:=0
def PySem.W.Fast.tw9850334695419988415:=0
def PySem.W.Fast.tw13648461777889248247:=0
def PySem.W.Fast.tw14765629293136047221:=0
def PySem.W.Fast.tw5051255889620726232:=0
def PySem.W.Fast.tw8992352281273759604:=0
def PySem.W.Fast.tw7635370614249715510:=0
def PySem.W.Fast.tw15099016970149962660:=0
def PySem.W.Fast.tw13367482720305123376:=0
def PySem.W.Fast.tw12975960059878961149:=0
def PySem.W.Fast.tw1993758405710474594:=0
def PySem.W.Fast.tw3041986676234762994:=0
def PySem.W.Fast.tw14146660015183752698:=0
def PySem.W.Fast.tw13939539182687671618:=0
def PySem.W.Fast.tw2235333305281021322:=0
def PySem.W.Fast.tw10645318965822936546:=0
def PySem.W.Fast.tw3718567394301103282:=0
def PySem.W.Fast.tw7172200463057016831:=0
def PySem.W.Fast.tw4764390352621338370:=0
def PySem.W.Fast.tw8672955967863690543:=0
def PySem.W.Fast.tw13945577147096728359:=0
def PySem.W.Fast.tw6854185103911293819:=0
def PySem.W.Fast.tw11721198852711895572:=0
def PySem.W.Fast.tw13881424822540421454:=0
def PySem.W.Fast.tw3812529802011767547:=0
def PySem.W.Fast.tw13497081523173063655:=0
def PySem.W.Fast.tw9193538999747370506:=0
def PySem.W.Fast.tw14479488803476558195:=0
def PySem.W.Fast.tw14972316468782147490:=0
def PySem.W.Fast.tw9092177414590327314:=0
def PySem.W.Fast.tw9434878028818538212:=0
def PySem.W.Fast.tw257325204201802428:=0
def PySem.W.Fast.tw14111832570423867666:=0
def PySem.W.Fast.tw11170186052401267198:=0
def PySem.W.Fast.tw9618774064323568559:=0
def PySem.W.Fast.tw9341280577315942539:=0
def PySem.W.Fast.tw10130616820224515697:=0
def PySem.W.Fast.tw9321431087800098461:=0
def PySem.W.Fast.tw2996178504307604343:=0
def PySem.W.Fast.tw8435379332353976823:=0
def PySem.W.Fast.tw12265194413469293831:=0
def PySem.W.Fast.tw4342106275967795610:=0
def PySem.W.Fast.tw15225221892465831881:=0
def PySem.W.Fast.tw651889924029682276:=0
def PySem.W.Fast.tw9768754622274528642:=0
def PySem.W.Fast.tw15986585204369854527:=0
def PySem.W.Fast.tw14641507503712917240:=0
def PySem.W.Fast.tw8578941378209859150:=0
def PySem.W.Fast.tw8835410337937241190:=0
def PySem.W.Fast.tw1646660721838818909:=0
def PySem.W.Fast.tw8132972588725200264:=0
def PySem.W.Fast.tw472694225090748644:=0
def PySem.W.Fast.tw8759363683966794657:=0
def PySem.W.Fast.tw7718321951315365497:=0
def PySem.W.Fast.tw12928873963286465656:=0
def PySem.W.Fast.tw12273470075518995786:=0
def PySem.W.Fast.tw6759619069236134487:=0
def PySem.W.Fast.tw8187753178252861627:=0
def PySem.W.Fast.tw6373731445116075251:=0
def PySem.W.Fast.tw12571092596231126936:=0
def PySem.W.Fast.tw2518333136694444498:=0
def PySem.W.Fast.tw10779755175200099089:=0
def PySem.W.Fast.tw1250125494236677530:=0
def PySem.W.Fast.tw8036425013668284763:=0
def PySem.W.Fast.tw8119619304335408379:=0
def PySem.W.Fast.tw4627243450734735699:=0
def PySem.W.Fast.tw9971744230946993071:=0
def PySem.W.Fast.tw9625025688745948810:=0
def PySem.W.Fast.tw14961439123471909929:=0
def PySem.W.Fast.tw2810876648641439575:=0
def PySem.W.Fast.tw2137218369381838168:=0
def PySem.W.Fast.tw13905105438155268529:=0
def PySem.W.Fast.tw1375968504503503021:=0
def PySem.W.Fast.tw9220201694932585126:=0
def PySem.W.Fast.tw10998501690008028260:=0
def PySem.W.Fast.tw3674611930052350836:=0
def PySem.W.Fast.tw502356567095427695:=0
def PySem.W.Fast.tw10372375197057348227:=0
def PySem.W.Fast.tw10825231915082855258:=0
def PySem.W.Fast.tw3210772148666187677:=0
def PySem.W.Fast.tw3648741283232278291:=0
def PySem.W.Fast.tw9331338177290988790:=0
def PySem.W.Fast.tw1876849379102381485:=0
def PySem.W.Fast.tw3798053987276376235:=0
def PySem.W.Fast.tw5630521163499869552:=0
def PySem.W.Fast.tw15138045079416468013:=0
def PySem.W.Fast.tw13861131709224529076:=0
def PySem.W.Fast.tw11440432066935962346:=0
def PySem.W.Fast.tw12156585002353714532:=0
def PySem.W.Fast.tw8807421409219783145:=0
def PySem.W.Fast.tw18348587414938325895:=0
def PySem.W.Fast.tw11648598692570986777:=0
def PySem.W.Fast.tw11066829235031179945:=0
def PySem.W.Fast.tw6603065447422228540:=0
def PySem.W.Fast.tw7973308894922286283:=0
def PySem.W.Fast.tw10205541826676715472:=0
def PySem.W.Fast.tw2844930678601341804:=0
def PySem.W.Fast.tw13802774038287647012:=0
def PySem.W.Fast.tw2684876552447638183:=0
def PySem.W.Fast.tw7030983534753532866:=0
abbrev Fg:=PySem.W.Frag
open PySem renaming PyData->Ac,Value->Lz,Addr->LA,Shared->LC,Program->LD,World->LF,Around->LG,Scope->LH,FuncData->LI,Stmt->LJ,Expr->LK,Heap->LL,sizeLine->LM,starEach->LN,Obj->LO,Env->LQ,backTo->LR,Keyword->LS,wpAny->LU,mainGlobals->LV,swapsWith->LX,attributeBase->LY,bootBuiltins->LZ,foldedSetIterable->Ma,assignEach->Mb,cLine->Mc,NameKind->Me,backToKw->Mf,keywordEach->Mg
open PyProof.Rows renaming Keyed->Md
set_option compiler.extract_closed false
noncomputable section
local macro_rules | `(tactic| omega)=>`(tactic| lia)
local macro_rules|`(def $i:declId $s:optDeclSig $v:declVal)=>`(noncomputable def $i:declId $s:optDeclSig $v:declVal)
def Gh:=@PySem.wpAny_bind
def Gi:=@List.length_map
def Gj:=@PySem.Heap.get?_push_of_some
def Gk:=@PySem.wpAny_pure
def Gm:=@List.getElem?_eq_getElem
def Gp:=@if_pos
def Gq:=@List.mem_cons_of_mem
def Gr:=@if_neg
def Gs:=@Nat.le_refl
def Gu:=@List.getElem?_set_ne
def Gv:=@PySem.Heap.lt_size
def Gw:=@List.size_toArray
def Gx:=@List.mem_cons_self
def Gy:=@Option.some.inj
def Gz:=@List.getD_eq_getElem?_getD
def GA:=@List.getElem?_set_self
def GB:=@List.length_range
def GC:=@List.getElem?_map
def GE:=@List.getElem?_eq_some_iff
def GG:=@List.mem_append_right
def GH:=@List.map_cons
def GJ:=@List.mem_range
def GK:=@List.mem_cons
def GL:=@List.map_map
def GM:=@List.length_cons
def GN:=@PySem.Heap.get?_push_size
def GO:=@List.map_congr_left
def GP:=@List.mem_append
def GQ:=@Bool.false_ne_true
def GR:=@Nat.ne_of_lt
def GS:=@List.map_append
def GT:=@Nat.lt_of_lt_of_le
def GU:=@List.mem_filter
def GV:=@Option.bind_some
def GW:=@List.mem_map
def GX:=@decide_eq_true
def GY:=@Bool.false_eq_true
def GZ:=@List.pairwise_cons
def Hd:=@Option.map_eq_some_iff
def He:=@Nat.le_trans
def Hf:=@of_decide_eq_true
def Hg:=@PySem.wpAny_mono
def Hh:=@List.cons_append
def Hi:=@List.lookup_cons
def Hj:=@List.length_filter_le
def Hl:=@PySem.sizeLine_eq
def Hm:=@List.length_append
def Hn:=@List.length_set
def Ho:=@List.nil_append
def Hq:=@Nat.zero_add
def Hr:=@PySem.wpAny_newObj_type
def Hs:=@PySem.mem_of_lookup
def Ht:=@List.replicate_succ
def Hu:=@PyProof.Rows.slot_tuple_getitem
def Hv:=@List.filter_cons_of_pos
def Hw:=@List.filter_cons_of_neg
def Hx:=@decide_eq_false
def Hy:=@PySem.wpAny_field
def HA:=@Nat.zero_le
def HB:=@PySem.wpAny_holding
def HC:=@PyProof.Rows.wpS_bind
def HD:=@List.take_of_length_le
def HE:=@List.append_nil
def HF:=@List.mem_of_getElem?
def HG:=@Int.toNat_natCast
def HH:=@Array.getElem?_toList
def HI:=@List.pairwise_iff_getElem
def HJ:=@congrArg
def HK:=@PySem.wpAny_call_entry
def HL:=@PySem.wpAny_seqItems
def HM:=@PySem.SeqAt.canLay_of_shaped
def HN:=@List.flatten_cons
def HP:=@if_false
def HQ:=@List.mem_singleton
def HR:=@List.length_nil
def HS:=@List.getElem?_eq_none
def HU:=@List.filter_sublist
def HV:=@List.getElem?_append_right
def HW:=@List.getElem?_replicate
def HX:=@PySem.wpAny_callSpecial?_slot
def HY:=@List.map_nil
def HZ:=@List.filter_append
def Ie:=@Ne.symm
def Ig:=@if_true
def Ih:=@List.range_succ
def Ii:=@Nat.le_of_lt
def Ij:=@List.length_take
def Ik:=@PyProof.Rows.callWith_type1
def Il:=@List.length_eq_zero_iff
def Im:=@Nat.lt_irrefl
def Io:=@PySem.Heap.size_push
def Ip:=@PySem.W.mg_none_of
def Iq:=@PyProof.Rows.wpS_pure
def Ir:=@List.getElem_mem
def Iu:=@List.getElem?_range
def Iv:=@PySem.F.slot_zip_next
def Iw:=@PySem.wpAny_rule
def Iy:=@List.nodup_iff_pairwise_ne
def Iz:=@PySem.Heap.get?_update_other
def IA:=@Array.length_toList
def IB:=@List.mem_map_of_mem
def ID:=@List.getElem?_append_left
def IE:=@List.getElem?_zip_eq_some
def IF:=@List.drop_eq_getElem_cons
def IG:=@List.length_replicate
def IH:=@List.sum_cons
def II:=@decide_eq_true_eq
def IJ:=@List.nodup_cons
def IK:=@PySem.Heap.SameBut.update
def IL:=@Nat.ne_of_gt
def IM:=@PySem.wpAny_standAt
def IP:=@Bool.and_eq_true
def IQ:=@PySem.F.slot_tuple_iterator_next
def IR:=@decide_eq_decide
def IS:=@List.mapM_cons
def IT:=@List.getElem_range
def IU:=@PySem.wpAny_setField_rec
def IV:=@PySem.wpAny_truthy_bool
def IW:=@Nat.lt_succ_of_lt
def IX:=@List.pairwise_map
def IZ:=@List.getElem?_cons_succ
def Ja:=@Int.le_refl
def Jb:=@List.find?_cons_of_pos
def Jc:=@List.find?_cons_of_neg
def Jd:=@PyProof.Rows.assignInOrder_cons
def Je:=@Nat.lt_of_le_of_lt
def Jf:=@Array.forIn_toList
def Jg:=@of_decide_eq_false
def Jh:=@PySem.wpAny_pyIter_tuple
def Ji:=@PySem.wpAny_passesOwn
def Jj:=@Classical.choose_spec
def Jk:=@PySem.Heap.get?_push_ne
def Jl:=@List.filter_congr
def Jm:=@PySem.call_meets
def Jn:=@decide_true
def Jo:=@Option.isSome_iff_exists
def Jp:=@PySem.wpAny_comprehension_free
def Jq:=@List.drop_length
def Jr:=@Nat.lt_succ_self
def Js:=@PySem.F.plain_max_loop
def Jt:=@List.filterMap_cons
def Ju:=@PySem.F.args_zip_next_1
def Jv:=@Bool.not_true
def Jw:=@PyProof.Rows.listUpdate_at
def Jx:=@List.zip_cons_cons
def Jy:=@PySem.W.cellsFrom_some
def Jz:=@Nat.le_succ
def JA:=@PySem.wpAny_letGo
def JB:=@PySem.F.entry_zip_next
def JC:=@List.range_succ_eq_map
def JD:=@List.filter_eq_nil_iff
def JE:=@List.take_add_one
def JF:=@Nat.lt_trichotomy
def JG:=@PySem.wpAny_typeOf
def JH:=@PySem.Heap.get?_update_self
def JI:=@List.eq_replicate_iff
def JJ:=@PySem.wpAny_tryCatch
def JK:=@PySem.Heap.size_update
def JL:=@List.getElem_map
def JM:=@PySem.wpAny_callSpecialIfBoundUnlessNone?_slot
def JN:=@PySem.F.slot_tuple_mul
def JO:=@PySem.Around.under_plainId
def JP:=@PySem.wpAny_attempt
def JQ:=@PySem.plainId_quiet
def JR:=@beq_eq_false_iff_ne
def JS:=@Nat.succ_eq_add_one
def JT:=@List.getD_cons_succ
def JU:=@List.filter_eq_self
def JV:=@List.forIn_cons
def JW:=@PyProof.Rows.get?_update_seq
def JX:=@PySem.wpAny_specialOf
def JY:=@Nat.not_lt_zero
def JZ:=@PyProof.Rows.IsTup.new
def Ka:=@List.mem_filterMap
def Kb:=@PySem.wpAny_Call_Name_kw
def Kc:=@PySem.F.args_tuple_add_2
def Kd:=@Int.lt_or_eq_of_le
def Ke:=@PyProof.Rows.wpS_forRange
def Kf:=@decide_false
def Kg:=@PySem.F.slot_str_getitem
def Kh:=@PySem.AutoSeq1.sub_tuple_tuple
def Ki:=@PySem.wpAny_bindName
def Kj:=@List.forIn_nil
def Kk:=@PySem.F.entry_tuple_add
def Kl:=@PySem.AutoSeq1.sub_tuple_list
def Km:=@PySem.AutoSeq1.sub_list_tuple
def Kn:=@PySem.F.plainAttrs_list
def Ko:=@PySem.F.slot_zip_getattribute
def Kq:=@List.reverse_cons
def Kr:=@PySem.F.slot_tuple_hash
def Ks:=@PySem.F.args_tuple_iterator_next_1
def Kt:=@PySem.F.slot_tuple_add
def Ku:=@PySem.AutoSeq1.sub_list_list
def Kv:=@PySem.F.entry_tuple_iterator_next
def Kw:=@PySem.F.slot_list_iadd
def Kx:=@PySem.W.mg_of
def Ky:=@List.map_take
def Kz:=@PySem.wpAny_isInstance
def KA:=@PySem.F.slot_bool_hash
def KB:=@List.not_mem_nil
def KC:=@List.mem_append_left
def KD:=@PySem.wpAny_execs_nil
def KF:=@Bool.eq_iff_iff
def KG:=@PySem.typeIs_str
def KH:=@PySem.F.slot_int_rmul
def KI:=@List.find?_cons
def KJ:=@Option.map_some
def KL:=@PyProof.Rows.pairsOf_size
def KM:=@PySem.wpAny_ite_false
def KN:=@PySem.wpAny_updateSeq_pair
def KO:=@List.sum_append
def KP:=@List.filter_nil
def KQ:=@PySem.codeAny_builtin
def KR:=@List.length_reverse
def KS:=@List.length_pos_iff
def KU:=@List.flatten_append
def KW:=@List.getElem_of_mem
def KY:=@Array.size_map
def KZ:=@PySem.wpAny_newTuple
def La:=@PySem.Calls.spliced_cons
def Lb:=@PySem.Heap.IsSliceOf.new
def Lc:=@PySem.wpAny_tupleItemsOf
def Ld:=@PySem.F.args_tuple_mul_2
def Le:=@List.map_replicate
def Lf:=@List.set_comm
def Lg:=@List.any_cons
def Lh:=@PySem.wpAny_newList
def Li:=@Nat.add_assoc
def Lj:=@PySem.wpAny_onRaise
def Lk:=@List.append_assoc
def Ll:=@bne_self_eq_false
def Lm:=@Nat.not_lt
def Ln:=@Option.getD_none
def Lo:=@Nat.add_comm
def Lp:=@Nat.lt_trans
def Lq:=@List.all_eq_true
def Lr:=@List.ext_getElem
def Ls:=@List.take_length
def Lu:=@Nat.lt_add_right
def Lv:=@List.of_mem_zip
def Lw:=@Nat.min_eq_left
def Ly:=@List.take_range
def bS9 {α:Type _}{β:Type _}{x:Option α}{f:α->Option β}{b:β}(h:x.bind f=some b):∃a,x=some a/\f a=some b:=Option.bind_eq_some_iff.1 h
set_option Elab.async false
set_option linter.all false
set_option maxRecDepth 100000
namespace L2
open PySem PySem.Spec PyProof.Rows
section
abbrev Key:=Sum Int Str
def fq:Key->Lz->Bool
 | .inl k,v=>Lz.isInt k v
 | .inr x,v=>Lz.isStrOf x v
def Cr (w:LF):Key->Int
 | .inl k=>hashInt k
 | .inr x=>hashStr w x
theorem w8:∀{k:Key} {v:Lz},fq k v=true->(∃i t,k=Sum.inl i/\v=Lz.int i t)\/(∃x t,k=Sum.inr x/\v=Lz.str x t)
 | .inl i,v,h=>by
  obtain⟨t,e⟩:=Lz.isInt_shape (k:=i) (v:=v) h;exact .inl ⟨i,t,rfl,e⟩
 | .inr x,v,h=>by
  obtain⟨t,e⟩:=Lz.isStrOf_shape (x:=x) (v:=v) h;exact .inr ⟨x,t,rfl,e⟩
def pQ (i:Int)(t:Tok):fq (.inl i) (.int i t)=true:=by simp[fq,Lz.isInt]
def oJ (x:Str)(t:Tok):fq (.inr x) (.str x t)=true:=by simp[fq,Lz.isStrOf]
def Au (a b:Int):decide ((Sum.inl a:Key)=Sum.inl b)=(a == b):=by
 by_cases e:a=b
 .subst e;simp
 .have h:¬(Sum.inl a:Key)=Sum.inl b:=λq=>e<|Sum.inl.inj q
  rw[Hx h];exact(JR.2 e).symm
def yK (a b:Str):decide ((Sum.inr a:Key)=Sum.inr b)=decide (a=b):=by
 by_cases e:a=b
 .subst e;simp
 .have h:¬(Sum.inr a:Key)=Sum.inr b:=λq=>e<|Sum.inr.inj q
  rw[Hx h,Hx e]
def Ag (a:Int)(b:Str):decide ((Sum.inl a:Key)=Sum.inr b)=false:=Hx (λq=>nomatch q)
def yo (a:Str)(b:Int):decide ((Sum.inr a:Key)=Sum.inl b)=false:=Hx (λq=>nomatch q)
def m8 (prog:LD)(w:LF):PySem.KeyKind prog w Key where
 is:=fq
 hash:=Cr w
 inj:=λv a b ha hb=>by
  rcases w8 ha with ⟨i,t,rfl,rfl⟩ | ⟨x,t,rfl,rfl⟩
  .rcases w8 hb with ⟨j,u,rfl,e⟩ | ⟨y,u,rfl,e⟩
   .injection e with e1 _;rw[e1]
   .exact nomatch e
  .rcases w8 hb with ⟨j,u,rfl,e⟩ | ⟨y,u,rfl,e⟩
   .exact nomatch e
   .injection e with e1 _;rw[e1]
 byValue:=λk v h=>by
  rcases w8 h with ⟨i,t,rfl,rfl⟩ | ⟨x,t,rfl,rfl⟩ <;> rfl
 pyHash:=λhv h=>by
  rcases w8 hv with ⟨i,t,rfl,rfl⟩ | ⟨x,t,rfl,rfl⟩
  .exact wpAny_pyHash_int h
  .exact wpAny_pyHash_str h
 eqBool:=λhu hv h=>by
  rcases w8 hu with ⟨i,t,rfl,rfl⟩ | ⟨x,t,rfl,rfl⟩
  .rcases w8 hv with ⟨j,u,rfl,rfl⟩ | ⟨y,u,rfl,rfl⟩
   .rw[Au]at h;exact wpAny_eqBool_int h
   .rw[Ag]at h;exact SeqAt.EqAt.int_str i t y u _ _ _ _ h
  .rcases w8 hv with ⟨j,u,rfl,rfl⟩ | ⟨y,u,rfl,rfl⟩
   .rw[yo]at h;exact SeqAt.EqAt.str_int x t j u _ _ _ _ h
   .rw[yK]at h;exact wpAny_eqBool_str h
 «strs»:=λk x t v h=>by
  rcases w8 h with ⟨i,u,rfl,e⟩ | ⟨y,u,rfl,e⟩
  .exact nomatch e
  .injection e with e1 _
   subst e1;cases v <;> rfl
def cH (prog:LD)(w:LF)(i:Int)(t:Tok):(m8 prog w).is (.inl i) (.int i t)=true:=pQ i t
def jr (prog:LD)(w:LF)(x:Str)(t:Tok):(m8 prog w).is (.inr x) (.str x t)=true:=oJ x t
end
section
inductive V where
 | non | bl (b:Bool) | int (i:Int) | str (x:Str) | byt (b:Array UInt8) | flt (b:UInt64) | ref (a:LA) | ty (n:String)
 deriving DecidableEq
def m7:V->Lz->Prop
 | .non,u=>u=Lz.none
 | .bl b,u=>u=Lz.bool b
 | .int i,u=>∃t,u=Lz.int i t
 | .str x,u=>∃t,u=Lz.str x t
 | .byt b,u=>∃t,u=Lz.bytes b t
 | .flt b,u=>∃t,u=Lz.float b t
 | .ref a,u=>u=Lz.ref a
 | .ty n,u=>u=Lz.type n
abbrev j6:List V->List Lz->Prop:=Paired m7
def j6.length {xs:List V}{us:List Lz}(r:j6 xs us):xs.length=us.length:=Paired.length r
theorem j6.get:∀{xs:List V} {us:List Lz} {i:Nat} {x:V},j6 xs us->xs[i]? = some x->∃u,us[i]? = some u/\m7 x u
 | _,_,_,_,.nil,e=>by simp at e
 | _,_,0,_,.cons r _,e=>by simp at e;subst e;exact⟨_,rfl,r⟩
 | _,_,i+1,x,.cons _ t,e=>by
  obtain⟨u,h1,h2⟩:=j6.get (i:=i) (x:=x) t (by simpa using e);exact⟨u,by simpa using h1,h2⟩
theorem j6.set {x:V}{u:Lz}(r:m7 x u):∀{xs:List V} {us:List Lz} (i:Nat),j6 xs us->j6 (xs.set i x) (us.set i u)
 | _,_,_,.nil=>.nil
 | _,_,0,.cons _ t=>.cons r t
 | _,_,i+1,.cons q t=>.cons q<|j6.set r i t
theorem j6.append:∀{xs ys:List V} {us ws:List Lz},j6 xs us->j6 ys ws->j6 (xs++ys) (us++ws)
 | _,_,_,_,.nil,s=>s
 | _,_,_,_,.cons r t,s=>.cons r<|j6.append t s
theorem j6.take:∀{xs:List V} {us:List Lz} (n:Nat),j6 xs us->j6 (xs.take n) (us.take n)
 | _,_,0,_=>.nil
 | _,_,_+1,.nil=>.nil
 | _,_,n+1,.cons r t=>.cons r<|j6.take n t
theorem j6.drop:∀{xs:List V} {us:List Lz} (n:Nat),j6 xs us->j6 (xs.drop n) (us.drop n)
 | _,_,0,r=>r
 | _,_,_+1,.nil=>.nil
 | _,_,n+1,.cons _ t=>j6.drop n t
def j6.none_of:∀{xs:List V} {us:List Lz} {i:Nat},j6 xs us->xs[i]? = none->us[i]? = none:=λ{xs us i} r e=>by
 have h1:=r.length;have h2:xs.length<=i:=List.getElem?_eq_none_iff.1 e;exact List.getElem?_eq_none_iff.2 (by omega)
def qB:Option V->Option Lz->Prop
 | some v,some u=>m7 v u
 | none,none=>True
 | _,_=>False
def KV {κ:Type}:List (κ×V)->List (κ×Lz)->Prop:=Paired λ(p:κ×V) (q:κ×Lz)=>p.1=q.1/\m7 p.2 q.2
def kV:Key->V
 | .inl i=>.int i
 | .inr x=>.str x
inductive HO where
  | lst (xs:List V)
  | tup (xs:List V)
  | dK (kvs:List (Key×V)) | dT (kvs:List (List Key×V))
  | set (S:Int->Bool) (n:Nat)
  | ins (C dx:LA) (fs:List (Str×V))
  | own (x:LA)
  | xd (fs:List (Str×V))
  | met (f x:LA)
  | rng (lo hi:Int)
  | frz (o:LO) (u:HO)
  | tbl (ps:Array Lz)
  | ext (φ:LL->Prop)
abbrev Hp:=LA->Option HO
def upd (H:Hp)(a:LA)(o:HO):Hp:=λb=>if b=a then some o else H b
def f8 {H:Hp}{a:LA}{o:HO}:upd H a o a=some o:=by unfold upd;rw[Gp rfl]
def d7 {H:Hp}{a b:LA}{o:HO}(h:b≠a):upd H a o b=H b:=by unfold upd;rw[Gr h]
def wC {H:Hp}{a:LA}{o u:HO}:upd (upd H a o) a u=upd H a u:=by
 funext b;unfold upd;split <;> rfl
def f9 {H:Hp}{a b:LA}{o:HO}(h:H a=some o)(h':H b=none):a≠b:=by
 intro e;subst e;rw[h]at h';cases h'
section
variable (P:LD)(w:LF)
def D7 (H:Hp)(h:LL)(a:LA):HO->Prop
 | .lst xs=>xs.length<=LM/\∃(its:List Lz) (n:Nat),j6 xs its/\h.get? a=some { cls:=.type "list",data:=.seq its.toArray n }
 | .tup xs=>xs.length<=LM/\∃its:List Lz,j6 xs its/\IsTup h a its.toArray
 | .dK kvs=>kvs.length<=LM/\(a == sysModules)=false/\∃vs,KV kvs vs/\h.DictOf (m8 P w) a vs
 | .dT kvs=>kvs.length<=LM/\(a == sysModules)=false/\∃xs:List (List Key×LA×Lz),
   Paired (λ(p:List Key×V) (q:List Key×LA×Lz)=>p.1=q.1/\H q.2.1=some (.tup<|p.1.map kV)/\m7 p.2 q.2.2) kvs xs /\
   ∃o es ep,h.get? a=some o/\o.ExactDict/\o.data = .dict es ep/\es.toList=xs.map (entryOfKey<|tupleKind<|m8 P w)/\(xs.map (·.1)).Nodup
 | .set S n=>h.SetOf (intKind P w) a S n
 | .ins C dx fs=>H dx=some (.own a)/\fs.length<=1000/\dx≠a/\h.get? a=some (PySem.W.instObj C dx) /\
   ∃mA,h.Ns1 dx mA/\(∀f,qB (fs.lookup f)<|mA f)/\PySem.Within mA (fs.map (·.1))
 | .own _=>∃o,h.get? a=some o
 | .xd fs=>∃mA,h.Ns1 a mA/\∀f,qB (fs.lookup f)<|mA f
 | .rng lo hi=>∃t u v,h.get? a=some { cls:=.type "range",data:=.fields #[.int lo t,.int hi u,.int 1 v] }
 | .frz o u=>h.get? a=some o/\D7 H h a u
 | .tbl ps=>h.get? a=some { cls:=.none,data:=.fields ps }
 | .met f x=>h.get? a=some (PySem.W.methodObj (.ref f)<|.ref x)
 | .ext φ=>φ h/\(∃o,h.get? a=some o)/\∀h1 h2:LL,φ h1->(∀o,h1.get? a=some o->h2.get? a=some o)->φ h2
def HOk (H:Hp)(h:LL):Prop:=∀a o,H a=some o->D7 P w H h a o
end
section
variable {P:LD}{w:LF}{H H':Hp}{h h':LL}{a:LA}{o:HO}
def D7.lt (x:D7 P w H h a o):a<h.objs.size:=by
 cases o with
 | lst xs=>obtain⟨_,_,_,_,e⟩:=x;exact Gv e
 | tup xs=>obtain⟨_,_,_,p⟩:=x;exact p.lt
 | dK kvs=>obtain⟨_,_,_,_,o,_,_,e,_⟩:=x;exact Gv e
 | dT kvs=>obtain⟨_,_,_,_,o,_,_,e,_⟩:=x;exact Gv e
 | set S n=>obtain⟨o,_,_,_,e,_⟩:=x;exact Gv e
 | ins C dx fs=>obtain⟨_,_,_,e,_⟩:=x;exact Gv e
 | own y=>obtain⟨_,e⟩:=x;exact Gv e
 | xd fs=>obtain⟨_,⟨_,_,_,e,_⟩,_⟩:=x;exact Gv e
 | rng lo hi=>obtain⟨_,_,_,e⟩:=x;exact Gv e
 | frz ob u=>obtain⟨e,_⟩:=x;exact Gv e
 | tbl ps=>exact Gv (show h.get? a=some _ from x)
 | met f y=>exact Gv (show h.get? a=some _ from x)
 | ext φ=>obtain⟨_,⟨_,e⟩,_⟩:=x;exact Gv e
theorem Paired.mapP {α β:Type}{F G:α->β->Prop}:∀{l₁:List α} {l₂:List β},Paired F l₁ l₂->(∀a b,F a b->G a b)->Paired G l₁ l₂
 | _,_,.nil,_=>.nil
 | _,_,.cons r t,f=>.cons (f _ _ r)<|Paired.mapP t f
def D7.stay (x:D7 P w H h a o)(k:∀b u,(b=a\/H b=some (.own a))->h.get? b=some u->h'.get? b=some u)
  (ho:∀b,H b=some (.own a)->H' b=some (.own a)) (ht:∀b xs,H b=some (.tup xs)->H' b=some (.tup xs)):D7 P w H' h' a o:=by
 induction o with
 | lst xs=>obtain⟨z,its,n,r,e⟩:=x;exact⟨z,its,n,r,k _ _ (.inl rfl) e⟩
 | tup xs=>obtain⟨z,its,r,ob,e,c⟩:=x;exact⟨z,its,r,ob,k _ _ (.inl rfl) e,c⟩
 | dK kvs=>obtain⟨z,y,vs,r,ob,es,ep,e,c⟩:=x;exact⟨z,y,vs,r,ob,es,ep,k _ _ (.inl rfl) e,c⟩
 | dT kvs =>
  obtain⟨z,y,xs,r,ob,es,ep,e,c⟩:=x;exact⟨z,y,xs,Paired.mapP r λp q z=>⟨z.1,ht _ _ z.2.1,z.2.2⟩,ob,es,ep,k _ _ (.inl rfl) e,c⟩
 | set S n=>obtain⟨ob,es,ep,t,e,c⟩:=x;exact⟨ob,es,ep,t,k _ _ (.inl rfl) e,c⟩
 | ins C dx fs =>
  obtain⟨d,z,ne,e,mA,⟨od,es,ep,e2,c⟩,r⟩:=x;exact⟨ho _ d,z,ne,k _ _ (.inl rfl) e,mA,⟨od,es,ep,k _ _ (.inr d) e2,c⟩,r⟩
 | own y=>obtain⟨ob,e⟩:=x;exact⟨ob,k _ _ (.inl rfl) e⟩
 | xd fs=>obtain⟨mA,⟨od,es,ep,e,c⟩,r⟩:=x;exact⟨mA,⟨od,es,ep,k _ _ (.inl rfl) e,c⟩,r⟩
 | rng lo hi=>obtain⟨t,u,v,e⟩:=x;exact⟨t,u,v,k _ _ (.inl rfl) e⟩
 | frz ob u ih=>obtain⟨e,q⟩:=x;exact⟨k _ _ (.inl rfl) e,ih q⟩
 | tbl ps =>
  have e:h.get? a=some { cls:=.none,data:=.fields ps }:=x;show h'.get? a=some { cls:=.none,data:=.fields ps };exact k a _ (.inl rfl) e
 | met f y =>
  have e:h.get? a=some (PySem.W.methodObj (.ref f)<|.ref y):=x;show h'.get? a=some (PySem.W.methodObj (.ref f)<|.ref y);exact k a _ (.inl rfl) e
 | ext φ=>obtain⟨p,⟨o,e⟩,st⟩:=x;exact⟨st _ _ p λo q=>k _ _ (.inl rfl) q,⟨o,k _ _ (.inl rfl) e⟩,st⟩
def HOk.lt (x:HOk P w H h)(e:H a=some o):a<h.objs.size:=(x a o e).lt
def HOk.fresh (x:HOk P w H h)(e:h.objs.size<=a):H a=none:=by
 cases q:H a with
 | none=>rfl
 | some u=>exact absurd (GT (x.lt q) e)<|Im _
def HOk.kept (x:HOk P w H h)(k:∀b u,h.get? b=some u->h'.get? b=some u):HOk P w H h':=λa o e =>
 (x a o e).stay (λb u _ q=>k b u q) (λ_ q=>q) λ_ _ q=>q
def HOk.laid (x:HOk P w H h)(k:∀b u,h.get? b=some u->h'.get? b=some u)(hp:h.objs.size<=a)(new:D7 P w (upd H a o) h' a o):HOk P w (upd H a o) h':=λb u e=>by
 have hn:=x.fresh hp;by_cases hb:b=a
 .subst hb;rw[f8]at e;cases e;exact new
 .rw[d7 hb]at e;exact(x b u e).stay (λc v _ q=>k c v q) (λc q=>by rw[d7<|f9 q hn];exact q) λc xs q=>by rw[d7<|f9 q hn];exact q
end
def Rd (H:Hp)(a:LA)(u:HO):Prop:=H a=some u\/∃o,H a=some (.frz o u)
def Rd.ok {P:LD}{w:LF}{H:Hp}{h:LL}{a:LA}{u:HO}(r:Rd H a u)(x:HOk P w H h):D7 P w H h a u:=by
 rcases r with r | ⟨o,r⟩
 .exact x a u r
 .obtain⟨_,q⟩:=x a _ r;exact q
def Mut:Option HO->Prop
 | some (.lst _)=>True
 | some (.dK _)=>True
 | some (.dT _)=>True
 | some (.set _ _)=>True
 | some (.ins _ _ _)=>True
 | some (.ext _)=>True
 | _=>False
section
variable {P:LD}{w:LF}{H:Hp}{h h':LL}{x e:LA}{o':HO}
def HOk.write (ok:HOk P w H h)(mu:Mut (H x))(he:e=x\/H e=some (.own x))(k:∀b u,b≠e->h.get? b=some u->h'.get? b=some u)(heo:∃u,h'.get? e=some u)
  (new:D7 P w (upd H x o') h' x o'):HOk P w (upd H x o') h':=λb u q=>by
 have nown:∀c y,H c=some (.own y)->c≠x:=λc y r z=>by subst z;rw[r]at mu;exact mu
 have ntup:∀c xs,H c=some (.tup xs)->c≠x:=λc xs r z=>by subst z;rw[r]at mu;exact mu
 by_cases hb:b=x
 .subst hb;rw[f8]at q;cases q;exact new
 .rw[d7 hb]at q;by_cases hbe:b=e
  .have q':H b=some (.own x):=by
    rcases he with z | z
    .exact absurd (hbe.trans z) hb
    .rw[hbe];exact z
   rw[q]at q';cases q';obtain⟨v,hv⟩:=heo;exact⟨v,by rw[hbe];exact hv⟩
  .refine(ok b u q).stay (λc v hc r=>k c v ?_ r) (λc r=>by rw[d7<|nown c b r];exact r) λc xs r=>by rw[d7<|ntup c xs r];exact r
   rcases hc with rfl | hc
   .exact hbe
   .rintro rfl;rcases he with z | z
    .exact nown c b hc z
    .rw[hc]at z;cases z;exact hb rfl
end
structure Un (fs ex:List LA) (H H':Hp) (h h':LL):Prop where
 keep:∀b o,h.get? b=some o->H b=none->b ∉ fs->b ∉ ex->h'.get? b=some o
 slot:∀b o,h.get? b=some o->H b=none->b∈fs->b ∉ ex->∃sl,h'.get? b=some { o with slots:=sl }
 free:∀b o,h.get? b=some o->H b=none->b ∉ ex->H' b=none
 there:∀b o,h.get? b=some o->b ∉ ex->∃o',h'.get? b=some o'
 tups:∀b xs,H b=some (.tup xs)->H' b=some (.tup xs)
 frzs:∀b o u,H b=some (.frz o u)->H' b=some (.frz o u)
 tbls:∀b ps,H b=some (.tbl ps)->∃more,H' b=some (.tbl<|ps++more)
section
variable {fs fs' ex ex':List LA}{H H1 H2:Hp}{h h1 h2 h':LL}{a x e:LA}{o:HO}
def Un.any (u:Un fs ex H H1 h h1){b:LA}{ob:LO}(q:h.get? b=some ob)(n:H b=none)(hx:b ∉ ex):∃sl,h1.get? b=some { ob with slots:=sl }:=by
 by_cases hb:b∈fs
 .exact u.slot b ob q n hb hx
 .exact⟨ob.slots,u.keep b ob q n hb hx⟩
def Un.kept (k:∀b u,h.get? b=some u->h'.get? b=some u):Un fs ex H H h h' :=
 ⟨λb ob q _ _ _=>k b ob q,λb ob q _ _ _=>⟨ob.slots,k b ob q⟩,λ_ _ _ n _=>n,λb ob q _=>⟨ob,k b ob q⟩,λ_ _ q=>q,λ_ _ _ q=>q,λ_ ps q=>⟨#[],by rw[q];simp⟩⟩
def Un.refl:Un fs ex H H h h:=Un.kept λ_ _ q=>q
def Un.laid (k:∀b u,h.get? b=some u->h'.get? b=some u)(hp:h.objs.size<=a)(hn:H a=none):Un fs ex H (upd H a o) h h' where
 keep:=λb u q _ _ _=>k b u q
 slot:=λb u q _ _ _=>⟨u.slots,k b u q⟩
 free:=λb u q n _=>by rw[d7<|GR<|GT (Gv q) hp];exact n
 there:=λb u q _=>⟨u,k b u q⟩
 tups:=λb xs q=>by rw[d7<|f9 q hn];exact q
 frzs:=λb u xs q=>by rw[d7<|f9 q hn];exact q
 tbls:=λb ps q=>⟨#[],by rw[d7<|f9 q hn,q];simp⟩
def Un.write (mu:Mut (H x))(he:e=x\/H e=some (.own x))(k:∀b u,b≠e->h.get? b=some u->h'.get? b=some u)(heo:∃u,h'.get? e=some u):Un fs ex H (upd H x o) h h':=by
 have hx:∀b,H b=none->b≠x:=λb n z=>by subst z;rw[n]at mu;exact mu
 have hb:∀b,H b=none->b≠e:=λb n z=>by
  subst z;rcases he with r | r
  .exact hx b n r
  .rw[n]at r;cases r
 have hm:∀b u,H b=some u->¬Mut (some u)->b≠x:=λb u q nm z=>by subst z;rw[q]at mu;exact nm mu
 refine⟨λb u q n _ _=>k b u (hb b n) q,λb u q n _ _=>⟨u.slots,k b u (hb b n) q⟩,λb u q n _=>by rw[d7<|hx b n];exact n,λb u q _=>?_,
  λb xs q=>by rw[d7<|hm b _ q λz=>z];exact q,λb u xs q=>by rw[d7<|hm b _ q λz=>z];exact q,λb ps q=>⟨#[],by rw[d7<|hm b _ q λz=>z,q];simp⟩⟩
 by_cases hbe:b=e
 .subst hbe;exact heo
 .exact⟨u,k b u hbe q⟩
end
def trk (h:LL)(H:Hp):List LA:=(List.range h.objs.size).filter λa=>(H a).isSome
def dS (h:LL)(H:Hp):LL:=PySem.W.hideAll h<|trk h H
def oM (h:LL)(H:Hp):(dS h H).objs.size=h.objs.size:=PySem.W.hideAll_size _ _
def uW {h:LL}{H:Hp}{b:LA}{o:LO}(e:h.get? b=some o)(n:H b=none):(dS h H).get? b=some o :=
 PySem.W.hideAll_get _ e λhm=>by
  have q:(H b).isSome=true:=(GU.1 hm).2;rw[n]at q;simp at q
def wX {h:LL}{H:Hp}{b:LA}{o:LO}(e:(dS h H).get? b=some o):h.get? b=some o/\H b=none:=by
 have e':h.get? b=some o:=PySem.W.of_hideAll (trk h H) e;refine⟨e',?_⟩;cases q:H b with
 | none=>rfl
 | some x =>
  have hm:b∈trk h H:=GU.2 ⟨GJ.2<|Gv e',by simp[q]⟩;have z:(dS h H).get? b=none:=PySem.W.hideAll_none (trk h H) hm;rw[z]at e;cases e
end
section
structure Mod (K:Fg) (mg:Str->Option Lz) (base:LL):Prop where
 kin:K.In base
 glob:base.Ns LV mg
 blt:∃mb,base.Ns builtinsNs mb/\∀x:Str,x ≠ "__name__"->mb x=LZ x
 nolimit:base.NoLimit
structure Cx where
 prog:LD
 w:LF
 K:Fg
 mg:Str->Option Lz
 base:LL
 A:LG
 N:List Str
 s₀:LC
 H₀:Hp
 env:LQ
 outer:List LQ
 stack:List LQ
 ex:List LA
 fn:Str->Bool
 calm:Bool
 pn:List (LA×LO)
 xe:Lz->LC->Prop
def frs (l:List LQ):List LA:=l.filterMap (·.frame)
abbrev Cx.fs (X:Cx):List LA:=frs X.outer
def Vis (sc:LH)(x:Str):Prop:=sc.names.lookup x=some .local\/sc.names.lookup x=some .cell\/sc.names.lookup x=some .free
def Loc (sc:LH)(x:Str):Prop:=sc.names.lookup x=some .local\/sc.names.lookup x=some .cell
def CI (env:LQ)(h:LL)(m:Str->Option Lz)(x:Str)(u:Lz):Prop :=
 (env.kindOf x=some .local/\m x=some u)\/((env.kindOf x=some .cell\/env.kindOf x=some .free)/\∃c,env.cells.lookup x=some c/\h.IsCell c (some u))
structure Cx.Ok (X:Cx):Prop where
 mod:Mod X.K X.mg X.base
 kind:X.env.scope.kind = .function
 glob:X.env.globals=LV
 blt:X.env.builtins=builtinsNs
 above:X.s₀.heap.objs.size<=X.env.locals
 inj:∀x y c,X.env.cells.lookup x=some c->X.env.cells.lookup y=some c->x=y
 has:∀x,(X.env.kindOf x=some .cell\/X.env.kindOf x=some .free)->∃c,X.env.cells.lookup x=some c
 cab:∀x c,X.fn x=true->X.env.cells.lookup x=some c->X.s₀.heap.objs.size<=c
 hd:X.calm=true->X.A.handled=none
 frames:X.A.frames=some X.stack
 stk:X.stack=X.outer\/(X.stack=X.env::X.outer/\X.env.frame=some X.env.locals)
 exf:∀b∈X.ex,b≠X.env.locals/\∀x c,X.env.cells.lookup x=some c->c≠b
 bs:∀b o,X.base.get? b=some o->X.s₀.heap.get? b=some o/\X.H₀ b=none
 bsz:X.base.objs.size<=X.s₀.heap.objs.size
 noex:∀b o,X.base.get? b=some o->b ∉ X.ex
 exfs:∀b∈X.ex,b ∉ X.fs
 funs:X.s₀.heap.FunFrames X.base X.outer
 frf:∀b∈X.fs,X.H₀ b=none
structure Inv (X:Cx) (pins:List (LA×LO)) (σ:List (Option V)) (H:Hp) (s:LC):Prop where
 ok:X.Ok
 os:s.os=X.s₀.os
 bare:AllBare s.gens
 base:Un X.fs X.ex X.H₀ H X.s₀.heap s.heap
 loc:∃m,s.heap.Ns X.env.locals m/\∀(i:Nat) (x:Str) (v:V),X.N[i]? = some x->σ[i]? = some (some v)->Vis X.env.scope x->∃u,m7 v u/\CI X.env s.heap m x u
 cell:∀x c,X.env.cells.lookup x=some c->∃v,s.heap.IsCell c v
 free:H X.env.locals=none
 freeC:∀x c,X.env.cells.lookup x=some c->H c=none
 pin:∀p∈X.pn++pins,s.heap.get? p.1=some p.2/\H p.1=none/\p.1≠X.env.locals/\p.1 ∉ X.fs/\∀v,p.2.data ≠ .cell v
 hok:HOk X.prog X.w H s.heap
 len:σ.length=X.N.length
section
variable {X:Cx}{pins:List (LA×LO)}{σ:List (Option V)}{H H':Hp}{s:LC}{h':LL}
def Cx.Ok.nofr (ok:X.Ok){b:LA}{o:LO}(e:X.base.get? b=some o):b ∉ X.fs:=λhb=>by
 have:=(ok.funs.mem hb).1;rw[e]at this;cases this
def Inv.bs (I:Inv X pins σ H s):∀b o,X.base.get? b=some o->s.heap.get? b=some o/\H b=none:=λb o e =>
 ⟨I.base.keep b o (I.ok.bs b o e).1 (I.ok.bs b o e).2 (I.ok.nofr e)<|I.ok.noex b o e,I.base.free b o (I.ok.bs b o e).1 (I.ok.bs b o e).2<|I.ok.noex b o e⟩
def Inv.bk (I:Inv X pins σ H s):∀b o,X.base.get? b=some o->s.heap.get? b=some o:=λb o e=>(I.bs b o e).1
def Inv.mod (I:Inv X pins σ H s):Mod X.K X.mg X.base:=I.ok.mod
def Inv.kIn (I:Inv X pins σ H s):X.K.In s.heap:=I.ok.mod.kin.keeps I.bk
def Inv.nolimit (I:Inv X pins σ H s):s.heap.NoLimit:=I.ok.mod.nolimit.keeps I.bk
def Inv.lt (I:Inv X pins σ H s):X.env.locals<s.heap.objs.size:=let ⟨_,hn,_⟩:=I.loc;hn.lt
def Inv.sz (I:Inv X pins σ H s):X.s₀.heap.objs.size<=s.heap.objs.size:=He I.ok.above<|Ii I.lt
def Inv.nofs (I:Inv X pins σ H s){a:LA}(h:s.heap.objs.size<=a):a ∉ X.fs:=λhb=>by
 obtain⟨_,o,ho,_⟩:=I.ok.funs.mem hb;exact absurd (GT (Gv ho)<|He I.sz h)<|Im _
def Inv.cne (I:Inv X pins σ H s):∀x c,X.env.cells.lookup x=some c->c≠X.env.locals:=λx c e z=>by
 obtain⟨v,o,ho,hd⟩:=I.cell x c e;obtain⟨m,⟨o',es,ep,ho',hd',_⟩,_⟩:=I.loc;rw[z,ho']at ho;cases ho;rw[hd']at hd;cases hd
def Inv.funs (I:Inv X pins σ H s):s.heap.FunFrames X.base X.outer:=by
 have all:∀(l:List LQ),(∀b∈frs l,b∈X.fs)->X.s₀.heap.FunFrames X.base l->s.heap.FunFrames X.base l:=by
  intro l;induction l with
  | nil=>intro _ _;trivial
  | cons env r ih =>
   intro hs hl;obtain⟨hk,⟨L,o,hf,hn,ho,hd⟩,hr⟩:=hl;have hL:L∈X.fs:=hs L (by unfold frs;rw[Jt,hf];exact Gx);obtain⟨sl,e⟩:=I.base.slot L o ho (I.ok.frf L hL) hL λz=>I.ok.exfs L z hL
   exact⟨hk,⟨L,_,hf,hn,e,hd⟩,ih (λb hb=>hs b (by unfold frs;rw[Jt,hf];exact Gq _ hb)) hr⟩
 exact all X.outer (λ_ hb=>hb) I.ok.funs
def Inv.stack (I:Inv X pins σ H s):s.heap.FunFrames X.base X.stack:=by
 rcases I.ok.stk with e | ⟨e,hf⟩
 .rw[e];exact I.funs
 .rw[e];obtain⟨m,hn,_⟩:=I.loc;refine .cons (by rw[I.ok.kind];decide) hf hn ?_ I.funs;exact LL.get?_none_of_le<|He I.ok.bsz I.ok.above
def Inv.stkSub (I:Inv X pins σ H s):∀b∈frs X.stack,b∈X.env.locals::X.fs:=λb hb=>by
 rcases I.ok.stk with e | ⟨e,hf⟩
 .rw[e]at hb;exact Gq _ hb
 .rw[e]at hb;unfold frs at hb;rw[Jt,hf]at hb;exact hb
def Inv.stkFree (I:Inv X pins σ H s):∀b∈frs X.stack,H b=none:=λb hb=>by
 rcases GK.1 (I.stkSub b hb) with e | hb
 .rw[e];exact I.free
 .obtain⟨_,o,ho,_⟩:=I.ok.funs.mem hb;exact I.base.free b o ho (I.ok.frf b hb) λz=>I.ok.exfs b z hb
def Inv.step {g':Array GenState}{t':Nat}{d':Drawn}{ch:List LA}(I:Inv X pins σ H s)
  (hch:∀b∈ch,(b∈X.ex\/X.s₀.heap.objs.size<=b)/\b≠X.env.locals/\(∀x c,X.env.cells.lookup x=some c->c≠b)/\∀p∈X.pn++pins,p.1≠b)
  (keep:∀b o,b≠X.env.locals->b ∉ X.fs->b ∉ ch->s.heap.get? b=some o->H b=none->h'.get? b=some o)
  (slot:∀b o,b≠X.env.locals->b∈X.fs->b ∉ ch->s.heap.get? b=some o->H b=none->∃sl,h'.get? b=some { o with slots:=sl }) (free:∀b o,b ∉ ch->s.heap.get? b=some o->H b=none->H' b=none)
  (there:∀b o,b ∉ ch->s.heap.get? b=some o->∃o',h'.get? b=some o')
  (tups:∀b xs,H b=some (.tup xs)->H' b=some (.tup xs)) (frzs:∀b o u,H b=some (.frz o u)->H' b=some (.frz o u)) (tbls:∀b ps,H b=some (.tbl ps)->∃more,H' b=some (.tbl<|ps++more))
  (ns:∀m,s.heap.Ns X.env.locals m->h'.Ns X.env.locals m) (hok:HOk X.prog X.w H' h') (hg:AllBare g') :
  Inv X pins σ H' { s with heap:=h',gens:=g',drawn:=d',toks:=t' }:=by
 have neL:∀b o,X.s₀.heap.get? b=some o->b≠X.env.locals:=λb o e=>GR<|GT (Gv e) I.ok.above
 have neC:∀b o,X.s₀.heap.get? b=some o->b ∉ X.ex->b ∉ ch:=λb o e hx hb=>by
  rcases(hch b hb).1 with z | z
  .exact hx z
  .exact absurd (GT (Gv e) z)<|Im _
 have cellK:∀x c,X.env.cells.lookup x=some c->∀v,s.heap.IsCell c v->h'.IsCell c v:=λx c e v ⟨o,ho,hd⟩=>by
  have nch:c ∉ ch:=λz=>(hch c z).2.2.1 x c e rfl
  by_cases hc:c∈X.fs
  .obtain⟨sl,q⟩:=slot c o (I.cne x c e) hc nch ho<|I.freeC x c e;exact⟨_,q,hd⟩
  .exact⟨o,keep c o (I.cne x c e) hc nch ho<|I.freeC x c e,hd⟩
 refine⟨I.ok,I.os,hg,⟨λb o e n hb hx=>?_,λb o e n hb hx=>?_,λb o e n hx=>?_,λb o e hx=>?_,λb xs e=>tups b xs<|I.base.tups b xs e,λb o xs e=>frzs b o xs<|I.base.frzs b o xs e,λb ps e=>?_⟩,?_,λx c e=>?_,?_,λx c e=>?_,λp hp=>?_,hok,I.len⟩
 .exact keep b o (neL b o e) hb (neC b o e hx) (I.base.keep b o e n hb hx)<|I.base.free b o e n hx
 .obtain⟨sl,e1⟩:=I.base.slot b o e n hb hx;obtain⟨sl',e2⟩:=slot b _ (neL b o e) hb (neC b o e hx) e1<|I.base.free b o e n hx;exact⟨sl',e2⟩
 .obtain⟨o',e1⟩:=I.base.there b o e hx;exact free b o' (neC b o e hx) e1<|I.base.free b o e n hx
 .obtain⟨o',e1⟩:=I.base.there b o e hx;exact there b o' (neC b o e hx) e1
 .obtain⟨m1,e1⟩:=I.base.tbls b ps e;obtain⟨m2,e2⟩:=tbls b _ e1;exact⟨m1++m2,by rw[e2,Array.append_assoc]⟩
 .obtain⟨m,hn,hl⟩:=I.loc;refine⟨m,ns m hn,λi x v e1 e2 e3=>?_⟩;obtain⟨u,r,l⟩:=hl i x v e1 e2 e3;refine⟨u,r,?_⟩;rcases l with l | ⟨k,c,e,z⟩
  .exact .inl l
  .exact .inr ⟨k,c,e,cellK x c e _ z⟩
 .obtain⟨v,z⟩:=I.cell x c e;exact⟨v,cellK x c e v z⟩
 .obtain⟨m,⟨o,_,_,ho,_⟩,_⟩:=I.loc;exact free _ o (λz=>(hch _ z).2.1 rfl) ho I.free
 .obtain⟨v,o,ho,hd⟩:=I.cell x c e;exact free c o (λz=>(hch c z).2.2.1 x c e rfl) ho<|I.freeC x c e
 .obtain⟨e,n,ne,nf,d⟩:=I.pin p hp;have nch:p.1 ∉ ch:=λz=>(hch p.1 z).2.2.2 p hp rfl
  exact⟨keep p.1 p.2 ne nf nch e n,free p.1 p.2 nch e n,ne,nf,d⟩
def Inv.un {t':Nat}(I:Inv X pins σ H s)(u:Un X.fs [] H H' s.heap h')(hok:HOk X.prog X.w H' h'):Inv X pins σ H' { s with heap:=h',toks:=t' }:=by
 obtain⟨m,⟨o,es,ep,ho,r⟩,_⟩:=id I.loc;obtain⟨sl,hL⟩:=u.any ho I.free (by simp);exact I.step (g':=s.gens) (d':=s.drawn) (ch:=[]) (λ_ z=>nomatch z) (λb o _ hb _ e n=>u.keep b o e n hb<|by simp) (λb o _ hb _ e n=>u.slot b o e n hb<|by simp) (λb o _ e n=>u.free b o e n<|by simp) (λb o _ e=>u.there b o e<|by simp) u.tups u.frzs u.tbls (λm' hm=>by
  obtain⟨o',es',ep',ho',r'⟩:=hm;rw[ho]at ho';cases ho';exact⟨_,es',ep',hL,r'⟩) hok I.bare
def Inv.call {g':Array GenState}{t':Nat}{d':Drawn}{ch:List LA}(I:Inv X pins σ H s)(u:Un (frs X.stack) ch H H' s.heap h')(hok:HOk X.prog X.w H' h')(hg:AllBare g')
  (hch:∀b∈ch,(b∈X.ex\/X.s₀.heap.objs.size<=b)/\b≠X.env.locals/\(∀x c,X.env.cells.lookup x=some c->c≠b)/\∀p∈X.pn++pins,p.1≠b) :
  Inv X pins σ H' { s with heap:=h',gens:=g',drawn:=d',toks:=t' }:=by
 obtain⟨m,⟨o,es,ep,ho,r⟩,_⟩:=id I.loc;obtain⟨sl,hL⟩:=u.any ho I.free λz=>(hch _ z).2.1 rfl
 exact I.step (ch:=ch) hch (λb o hL hb hc e n=>u.keep b o e n (λz=>(GK.1<|I.stkSub b z).elim hL hb) hc) (λb o _ _ hc e n=>u.any e n hc) (λb o hc e n=>u.free b o e n hc) (λb o hc e=>u.there b o e hc) u.tups u.frzs u.tbls (λm' hm=>by
  obtain⟨o',es',ep',ho',r'⟩:=hm;rw[ho]at ho';cases ho';exact⟨_,es',ep',hL,r'⟩) hok hg
def Inv.turned {t':Nat}{it:LA}(I:Inv X pins σ H s)(k:∀b o,b≠it->s.heap.get? b=some o->h'.get? b=some o)(hn:H it=none)(hL:it≠X.env.locals)
  (h1:it∈X.ex\/X.s₀.heap.objs.size<=it) (h2:∀x c,X.env.cells.lookup x=some c->c≠it) (h3:∀p∈X.pn++pins,p.1≠it):Inv X pins σ H { s with heap:=h',toks:=t' }:=by
 have nit:∀b u,H b=some u->b≠it:=λb u e z=>by rw[z,hn]at e;cases e
 refine I.step (g':=s.gens) (d':=s.drawn) (ch:=[it]) (λb hb=>?_) (λb o _ _ hc e _=>k b o (λz=>hc<|by simp[z]) e) (λb o _ _ hc e _=>⟨o.slots,k b o (λz=>hc<|by simp[z]) e⟩) (λ_ _ _ _ n=>n)
  (λb o hc e=>⟨o,k b o (λz=>hc<|by simp[z]) e⟩) (λ_ _ e=>e) (λ_ _ _ e=>e) (λb ps e=>⟨#[],by rw[e];simp⟩) (λm hm=>?_) (λb u e=>?_) I.bare
 .have e:b=it:=by simpa using hb
  subst e;exact⟨h1,hL,h2,h3⟩
 .obtain⟨o,es,ep,ho,r⟩:=hm;exact⟨o,es,ep,k _ o (Ie hL) ho,r⟩
 .refine(I.hok b u e).stay (λc v hc q=>k c v ?_ q) (λ_ q=>q) λ_ _ q=>q
  rcases hc with z | z
  .rw[z];exact nit b u e
  .exact nit c _ z
def Inv.tok (I:Inv X pins σ H s)(t:Nat):Inv X pins σ H { s with toks:=t }:=I.un (h':=s.heap) (t':=t) Un.refl I.hok
def Inv.kept {t':Nat}(I:Inv X pins σ H s)(k:∀b u,s.heap.get? b=some u->h'.get? b=some u):Inv X pins σ H { s with heap:=h',toks:=t' }:=I.un (Un.kept k)<|I.hok.kept k
def Inv.laid {a:LA}{o:HO}{t':Nat}(I:Inv X pins σ H s)(k:∀b u,s.heap.get? b=some u->h'.get? b=some u)(hp:s.heap.objs.size<=a)(new:D7 X.prog X.w (upd H a o) h' a o) :
  Inv X pins σ (upd H a o) { s with heap:=h',toks:=t' }:=I.un (Un.laid k hp<|I.hok.fresh hp)<|I.hok.laid k hp new
def Inv.write {x e:LA}{o:HO}{t':Nat}(I:Inv X pins σ H s)(mu:Mut (H x))(he:e=x\/H e=some (.own x))(k:∀b u,b≠e->s.heap.get? b=some u->h'.get? b=some u)(heo:∃u,h'.get? e=some u)
  (new:D7 X.prog X.w (upd H x o) h' x o):Inv X pins σ (upd H x o) { s with heap:=h',toks:=t' }:=I.un (Un.write mu he k heo)<|I.hok.write mu he k heo new
def Inv.pins_of {pins':List (LA×LO)}(I:Inv X pins σ H s)(h:∀p∈pins',s.heap.get? p.1=some p.2/\H p.1=none/\p.1≠X.env.locals/\p.1 ∉ X.fs/\∀v,p.2.data ≠ .cell v):Inv X pins' σ H s :=
 ⟨I.ok,I.os,I.bare,I.base,I.loc,I.cell,I.free,I.freeC,λp hp=>(GP.1 hp).elim (λz=>I.pin p<|KC _ z)<|h p,I.hok,I.len⟩
def kj {N:List Str}(hN:N.Nodup){i j:Nat}{x:Str}(a:N[i]? = some x)(b:N[j]? = some x):i=j:=by
 obtain⟨h1,e1⟩:=GE.1 a;obtain⟨h2,e2⟩:=GE.1 b;exact(List.getElem_inj hN).1<|e1.trans e2.symm
def pU {M:Model}{A:LG}{E:Lz->LC->Prop}{i:Nat}{x:Str}{v:V}{u:Lz}{Q:Unit->LC->Prop}(I:Inv X pins σ H s)(hN:X.N.Nodup)(hi:X.N[i]? = some x)(hx:Loc X.env.scope x)(r:m7 v u)
  (h:∀s',Inv X pins (σ.set i<|some v) H s'->(∃a,LL.SameBut a s.heap s'.heap/\(a=X.env.locals\/X.env.cells.lookup x=some a))->Q () s') (hf:X.fn x=true\/X.env.scope.names.lookup x=some .local:=by first | exact .inl rfl | exact .inr rfl | assumption):LU M A (storeName X.env x u) Q E s:=by
 obtain⟨m,hn,hl⟩:=id I.loc;have hcls:(X.env.scope.kind == .class||(X.env.scope.kind == .module&&X.env.locals != X.env.globals))=false:=by rw[I.ok.kind];rfl
 have hiσ:i < σ.length:=by rw[I.len];exact(GE.1 hi).1
 have cne:=I.cne;have tracked:∀{a:LA} {h':LL},(∃o,s.heap.get? a=some o/\H a=none)->LL.SameBut a s.heap h'->HOk X.prog X.w H h':=λ{a h'} ha hs b ob e=>by
  obtain⟨_,_,hfree⟩:=ha;refine(I.hok b ob e).stay (λc w' hc q=>(hs.2 c ?_).trans q) (λ_ q=>q) λ_ _ q=>q
  rintro rfl;rcases hc with rfl | hc
  .rw[hfree]at e;cases e
  .rw[hfree]at hc;cases hc
 rcases hx with hk | hk
 .refine wpAny_storeName_local hk hn (λh' hn' hs=>?_) hcls;obtain⟨oL,_,_,hoL,_⟩:=id hn;refine h _ ⟨I.ok,I.os,I.bare,⟨λb o e n hb hx=>?_,λb o e n hb hx=>?_,I.base.free,λb o e hx=>?_,I.base.tups,I.base.frzs,I.base.tbls⟩,⟨_,hn',λj y v' e1 e2 e3=>?_⟩,λy c e=>?_,I.free,I.freeC,λp hp=>?_,tracked ⟨oL,hoL,I.free⟩ hs,by simpa using I.len⟩ ⟨_,hs,.inl rfl⟩
  .exact(hs.2 b<|GR<|GT (Gv e) I.ok.above).trans<|I.base.keep b o e n hb hx
  .obtain⟨sl,e1⟩:=I.base.slot b o e n hb hx;exact⟨sl,(hs.2 b<|GR<|GT (Gv e) I.ok.above).trans e1⟩
  .obtain⟨o',e1⟩:=I.base.there b o e hx;exact⟨o',(hs.2 b<|GR<|GT (Gv e) I.ok.above).trans e1⟩
  .by_cases hj:j=i
   .subst hj;rw[hi]at e1;cases e1;rw[GA hiσ]at e2;cases e2;exact⟨u,r,.inl ⟨hk,by simp⟩⟩
   .rw[Gu<|Ie hj]at e2;obtain⟨u',r',q⟩:=hl j y v' e1 e2 e3;refine⟨u',r',?_⟩;rcases q with ⟨k,e⟩ | ⟨k,c,e,z⟩
    .refine .inl ⟨k,?_⟩;have:y≠x:=λe=>hj<|kj hN e1<|e▸hi
     simp[this,e]
    .exact .inr ⟨k,c,e,z.sameBut hs<|cne y c e⟩
  .obtain⟨w',z⟩:=I.cell y c e;exact⟨w',z.sameBut hs<|cne y c e⟩
  .obtain⟨e,n,ne,nf,d⟩:=I.pin p hp;exact⟨(hs.2 p.1 ne).trans e,n,ne,nf,d⟩
 .have hfn:X.fn x=true:=by
   rcases hf with z | z
   .exact z
   .rw[z]at hk;cases hk
  obtain⟨c,hc⟩:=I.ok.has x<|.inl hk;obtain⟨w',z⟩:=I.cell x c hc;refine wpAny_storeName_cell I.ok.kind hk hc z (λh' hc' hs=>?_);obtain⟨oc,hoc,hocd⟩:=id z;refine h { s with heap:=h' } ⟨I.ok,I.os,I.bare,⟨λb o e n hb hx=>?_,λb o e n hb hx=>?_,I.base.free,λb o e hx=>?_,I.base.tups,I.base.frzs,I.base.tbls⟩,⟨m,hn.sameBut hs<|Ie<|cne x c hc,λj y v' e1 e2 e3=>?_⟩,λy c' e=>?_,I.free,I.freeC,λp hp=>?_,tracked ⟨oc,hoc,I.freeC x c hc⟩ hs,by simpa using I.len⟩ ⟨c,hs,.inr hc⟩
  .exact(hs.2 b<|GR<|GT (Gv e)<|I.ok.cab x c hfn hc).trans<|I.base.keep b o e n hb hx
  .obtain⟨sl,e1⟩:=I.base.slot b o e n hb hx;exact⟨sl,(hs.2 b<|GR<|GT (Gv e)<|I.ok.cab x c hfn hc).trans e1⟩
  .obtain⟨o',e1⟩:=I.base.there b o e hx;exact⟨o',(hs.2 b<|GR<|GT (Gv e)<|I.ok.cab x c hfn hc).trans e1⟩
  .by_cases hj:j=i
   .subst hj;rw[hi]at e1;cases e1;rw[GA hiσ]at e2;cases e2;exact⟨u,r,.inr ⟨.inl hk,c,hc,hc'⟩⟩
   .rw[Gu<|Ie hj]at e2;obtain⟨u',r',q⟩:=hl j y v' e1 e2 e3;refine⟨u',r',?_⟩;rcases q with q | ⟨k,c',e,z'⟩
    .exact .inl q
    .refine .inr ⟨k,c',e,z'.sameBut hs ?_⟩;rintro rfl;exact hj<|kj hN e1<|I.ok.inj _ _ _ e hc▸hi
  .by_cases hcc:c'=c
   .subst hcc;exact⟨_,hc'⟩
   .obtain⟨w2,z2⟩:=I.cell y c' e;exact⟨w2,z2.sameBut hs hcc⟩
  .obtain⟨e,n,ne,nf,d⟩:=I.pin p hp;refine⟨(hs.2 p.1 ?_).trans e,n,ne,nf,d⟩;intro q;rw[q,hoc]at e;have q':oc=p.2:=Gy e;exact d w' (by rw[<-q'];exact hocd)
def D8 {M:Model}{A:LG}{E:Lz->LC->Prop}{i:Nat}{x:Str}{v:V}{u:Lz}{Q:Unit->LC->Prop}(I:Inv X pins σ H s)(hN:X.N.Nodup)(hi:X.N[i]? = some x)(hx:Loc X.env.scope x)(r:m7 v u)
  (h:∀s',Inv X pins (σ.set i<|some v) H s'->Q () s') (hf:X.fn x=true\/X.env.scope.names.lookup x=some .local:=by first | exact .inl rfl | exact .inr rfl | assumption):LU M A (storeName X.env x u) Q E s :=
 pU I hN hi hx r (λs' I' _=>h s' I') hf
def Inv.call' {s':LC}{ch:List LA}(I:Inv X pins σ H s)(ho:s'.os=s.os)(u:Un (frs X.stack) ch H H' s.heap s'.heap)(hok:HOk X.prog X.w H' s'.heap)(hg:AllBare s'.gens)
  (hch:∀b∈ch,(b∈X.ex\/X.s₀.heap.objs.size<=b)/\b≠X.env.locals/\(∀x c,X.env.cells.lookup x=some c->c≠b)/\∀p∈X.pn++pins,p.1≠b):Inv X pins σ H' s':=by
 obtain⟨h',g',d',t',o'⟩:=s';have e:o'=s.os:=ho;subst e;exact I.call (g':=g') (t':=t') (d':=d') u hok hg hch
end
abbrev XK:=Lz->Option LA->Hp->Prop
abbrev St:=List<|Option V
abbrev VK:=V->Hp->Prop
abbrev TE:=St->Hp->VK->Prop
abbrev TT:=St->Hp->(Bool->Hp->Prop)->Prop
abbrev TA:=St->Hp->(List V->Hp->Prop)->Prop
structure Ends where
 nx:St->Hp->Prop
 rt:VK
 bk:St->Hp->Prop:=λ_ _=>False
 ct:St->Hp->Prop:=λ_ _=>False
abbrev TS:=Ends->St->Hp->Prop
def EP (X:Cx)(pins:List (LA×LO))(σ:St)(Q:VK)(u:Lz)(s':LC):Prop:=∃v H',Inv X pins σ H' s'/\m7 v u/\Q v H'
def TP (X:Cx)(pins:List (LA×LO))(σ:St)(Q:Bool->Hp->Prop)(b:Bool)(s':LC):Prop:=∃H',Inv X pins σ H' s'/\Q b H'
def AP (X:Cx)(pins:List (LA×LO))(σ:St)(Q:List V->Hp->Prop)(us:List Lz)(s':LC):Prop:=∃vs H',Inv X pins σ H' s'/\j6 vs us/\Q vs H'
def SP (X:Cx)(pins:List (LA×LO))(D:Ends)(f:Flow)(s':LC):Prop :=
 match f with
 | .next=>∃σ' H',Inv X pins σ' H' s'/\D.nx σ' H'
 | .brk=>∃σ' H',Inv X pins σ' H' s'/\D.bk σ' H'
 | .cont=>∃σ' H',Inv X pins σ' H' s'/\D.ct σ' H'
 | .ret u=>∃v σ' H',Inv X pins σ' H' s'/\m7 v u/\D.rt v H'
def PE (X:Cx)(e:LK)(t:TE):Prop :=
 ∀(pins:List (LA×LO)) (s:LC) (σ:St) (H:Hp) (Q:VK),Inv X pins σ H s->t σ H Q->LU (model X.prog X.w) X.A (eval e X.env) (EP X pins σ Q) X.xe s
def PT (X:Cx)(e:LK)(t:TT):Prop :=
 ∀(pins:List (LA×LO)) (s:LC) (σ:St) (H:Hp) (Q:Bool->Hp->Prop),Inv X pins σ H s->t σ H Q->LU (model X.prog X.w) X.A (isTrue e X.env<|eval e X.env) (TP X pins σ Q) X.xe s
def PW (X:Cx)(e:LK)(t:TT):Prop :=
 ∀(whole:Sem Lz) (pins:List (LA×LO)) (s:LC) (σ:St) (H:Hp) (Q:Bool->Hp->Prop),Inv X pins σ H s->t σ H Q->LU (model X.prog X.w) X.A (isTrue e X.env whole) (TP X pins σ Q) X.xe s
def PW.pt {X:Cx}{e:LK}{t:TT}(h:PW X e t):PT X e t:=h _
def PA (X:Cx)(es:List LK)(t:TA):Prop :=
 ∀(pos:Pos) (pins:List (LA×LO)) (s:LC) (σ:St) (H:Hp) (Q:List V->Hp->Prop),Inv X pins σ H s->t σ H Q->LU (model X.prog X.w) X.A (spliced<|LR pos<|LN es X.env) (AP X pins σ Q) X.xe s
def PS (X:Cx)(st:LJ)(t:TS):Prop :=
 ∀(pins:List (LA×LO)) (s:LC) (σ:St) (H:Hp) (D:Ends),Inv X pins σ H s->t D σ H->LU (model X.prog X.w) X.A (exec st X.env) (SP X pins D) X.xe s
def PSs (X:Cx)(st:List LJ)(t:TS):Prop :=
 ∀(pins:List (LA×LO)) (s:LC) (σ:St) (H:Hp) (D:Ends),Inv X pins σ H s->t D σ H->LU (model X.prog X.w) X.A (execs st X.env) (SP X pins D) X.xe s
def thn {α:Type}{t:Sem α}{Q Q':α->LC->Prop}{M:Model}{A:LG}{E:Lz->LC->Prop}{s:LC}(h:LU M A t Q E s)(hQ:∀a s,Q a s->Q' a s):LU M A t Q' E s:=Hg h hQ λ_ _ x=>x
end
section
section
variable {X:Cx}
def W0 (i:Nat):TE:=λσ H Q=>∃v,σ[i]? = some (some v)/\Q v H
def tC (v:V):TE:=λ_ H Q=>Q v H
def Q3 {i:Nat}{x:Str}{pos:Pos}(hN:X.N[i]? = some x)(hv:Vis X.env.scope x)(hd:(x == ("__debug__":Str))=false:=by decide)(hcd:(x == ("__classdict__":Str))=false:=by decide):PE X (.Name x pos) (W0 i):=by
 intro pins s σ H Q I h;obtain⟨v,e,h⟩:=h;obtain⟨m,hn,hl⟩:=I.loc;obtain⟨u,r,l⟩:=hl i x v hN e hv;have fin:EP X pins σ Q u s:=⟨v,H,I,r,h⟩;rcases l with ⟨hk,hm⟩ | ⟨hk,c,hc,hcell⟩
 .exact wpAny_Name (wpAny_loadName_local I.ok.kind hk hn hm fin) hd
 .rcases hk with hk | hk
  .exact wpAny_Name (wpAny_loadName_cell I.ok.kind hk hc hcell fin) hd
  .exact wpAny_Name (wpAny_loadName_free I.ok.kind hk hc hcell fin hcd) hd
def k4 {i j pos}:PE X (.Constant (.int i) j pos) (tC<|.int i):=λ_ _ _ H _ I h=>wpAny_Constant_int ⟨.int i,H,I.tok _,⟨_,rfl⟩,h⟩
def BH {b j pos}:PE X (.Constant (.bool b) j pos) (tC<|.bl b):=λ_ _ _ H _ I h=>Constant_bool ⟨.bl b,H,I,rfl,h⟩
def zL {j pos}:PE X (.Constant .none j pos) (tC .non):=λ_ _ _ H _ I h=>Constant_none ⟨.non,H,I,rfl,h⟩
def yp {x j pos}:PE X (.Constant (.str x) j pos) (tC<|.str x):=λ_ _ _ H _ I h=>Calls.Constant_str ⟨.str x,H,I.tok _,⟨_,rfl⟩,h⟩
def Gl (X:Cx)(x:Str):Prop:=X.env.kindOf x=some .globalImplicit
def mK {E:Lz->LC->Prop}{pins:List (LA×LO)}{s:LC}{σ:St}{H:Hp}{x:Str}{u:Lz}{pos:Pos}{Q:Lz->LC->Prop}(I:Inv X pins σ H s)(hg:Gl X x)(hm:X.mg x=some u)(h:Q u s)
  (hd:(x == ("__debug__":Str))=false:=by decide):LU (model X.prog X.w) X.A (eval (.Name x pos) X.env) Q E s :=
 Calls.Name_function_global I.ok.kind hg (Calls.loadGlobal_global (by rw[I.ok.glob];exact I.mod.glob.keeps I.bk) hm h) hd
def Q5 {E:Lz->LC->Prop}{pins:List (LA×LO)}{s:LC}{σ:St}{H:Hp}{x:Str}{u:Lz}{pos:Pos}{Q:Lz->LC->Prop}(I:Inv X pins σ H s)(hg:Gl X x)(hm:X.mg x=none)(hv:LZ x=some u)(h:Q u s)
  (hn:x ≠ "__name__":=by decide) (hd:(x == ("__debug__":Str))=false:=by decide):LU (model X.prog X.w) X.A (eval (.Name x pos) X.env) Q E s:=by
 obtain⟨mb,h1,h2⟩:=I.mod.blt;exact Calls.Name_function_global I.ok.kind hg (Calls.loadGlobal_builtin (by rw[I.ok.glob];exact I.mod.glob.keeps I.bk) hm (by rw[I.ok.blt];exact h1.keeps I.bk) ((h2 x hn).trans hv) h) hd
def wU {x:Str}{v:V}{u:Lz}{pos:Pos}(hg:Gl X x)(hm:X.mg x=some u)(r:m7 v u)(hd:(x == ("__debug__":Str))=false:=by decide):PE X (.Name x pos) (tC v) :=
 λ_ _ _ H _ I h=>mK I hg hm ⟨v,H,I,r,h⟩ hd
variable {a b:LK}{ta tb:TE}{pos:Pos}
variable {tA tB':TT}{rest:List LK}
def Cv (t u:TT):TT:=λσ H Q=>t σ H λc H1=>if c=true then u σ H1 Q else Q false H1
def tOr (t u:TT):TT:=λσ H Q=>t σ H λc H1=>if c=true then Q true H1 else u σ H1 Q
def wG (ha:PT X a tA):PW X (.BoolOp .And [a] pos) tA:=by
 intro wh pins s σ H Q I h;refine isTrue_and (thn (ha pins s σ H Q I h) λc s1 e=>?_);cases c with
 | true=>exact isTrue_and_nil e
 | false=>exact e
def zC (ha:PT X a tA):PW X (.BoolOp .Or [a] pos) tA:=by
 intro wh pins s σ H Q I h;refine isTrue_or (thn (ha pins s σ H Q I h) λc s1 e=>?_);cases c with
 | false=>exact isTrue_or_nil e
 | true=>exact e
def Ai (ha:PT X a tA)(hb:PW X (.BoolOp .And (b::rest) pos) tB'):PW X (.BoolOp .And (a::b::rest) pos) (Cv tA tB'):=by
 intro wh pins s σ H Q I h;refine isTrue_and (thn (ha pins s σ H _ I h) λc s1 ⟨H1,I1,q1⟩=>?_);cases c with
 | true=>exact hb wh pins s1 σ H1 Q I1 q1
 | false=>exact⟨H1,I1,q1⟩
def AX (ha:PT X a tA)(hb:PW X (.BoolOp .Or (b::rest) pos) tB'):PW X (.BoolOp .Or (a::b::rest) pos) (tOr tA tB'):=by
 intro wh pins s σ H Q I h;refine isTrue_or (thn (ha pins s σ H _ I h) λc s1 ⟨H1,I1,q1⟩=>?_);cases c with
 | true=>exact⟨H1,I1,q1⟩
 | false=>exact hb wh pins s1 σ H1 Q I1 q1
def yc (ta tb:TE):TE:=λσ H Q=>ta σ H λx H1=>∃c,x = .bl c/\if c=true then tb σ H1 Q else Q (.bl false) H1
def xO (ta:TE):TE:=λσ H Q=>ta σ H λx H1=>∃c,x = .bl c/\Q (.bl (!c)) H1
def zi {op}{t:TE}(h:PE X a t):PE X (.BoolOp op [a] pos) t:=λpins s σ H Q I hw=>BoolOp_one<|h pins s σ H Q I hw
def zH (ha:PE X a ta)(hb:PE X (.BoolOp .And (b::rest) pos) tb):PE X (.BoolOp .And (a::b::rest) pos) (yc ta tb):=by
 intro pins s σ H Q I h;refine BoolOp_and (thn (ha pins s σ H _ I h) λv s1 ⟨x,H1,I1,r1,q1⟩=>?_);obtain⟨c,rfl,q1⟩:=q1;cases r1;refine IV ?_;cases c with
 | true=>exact hb pins s1 σ H1 Q I1 q1
 | false=>exact⟨.bl false,H1,I1,rfl,q1⟩
def Am (ha:PE X a ta):PE X (.UnaryOp .Not a pos) (xO ta):=by
 intro pins s σ H Q I h;refine UnaryOp_ (thn (ha pins s σ H _ I h) λv s1 ⟨x,H1,I1,r1,q1⟩=>?_);obtain⟨c,rfl,q1⟩:=q1;cases r1;exact not_of<|IV ⟨.bl (!c),H1,I1,rfl,q1⟩
def tIf (t:TT)(ta tb:TE):TE:=λσ H Q=>t σ H λc H1=>if c=true then ta σ H1 Q else tb σ H1 Q
def km {c:LK}(hc:PT X c tA)(ha:PE X a ta)(hb:PE X b tb):PE X (.IfExp c a b pos) (tIf tA ta tb):=by
 intro pins s σ H Q I h;refine wpAny_IfExp (thn (hc pins s σ H _ I h) λd s1 ⟨H1,I1,q1⟩=>?_);cases d with
 | true=>exact ha pins s1 σ H1 Q I1 q1
 | false=>exact hb pins s1 σ H1 Q I1 q1
end
end
section
def SqL (K:Fg)(H:Hp)(a:LA)(xs:List V):Prop :=
 Rd H a (.lst xs) \/
  ∃(o:LO) (its:Array Lz) (n:Nat),K.lookup a=some o/\o.cls = .type "list" /\ o.dict=none/\o.data = .seq its n/\its.size<=LM/\j6 xs its.toList
def SqT (K:Fg)(H:Hp)(a:LA)(xs:List V):Prop :=
 Rd H a (.tup xs) \/
  ∃(o:LO) (its:Array Lz) (n:Nat),K.lookup a=some o/\o.cls = .type "tuple" /\ o.data = .seq its n/\its.size<=LM/\j6 xs its.toList
def Cq:Lz->Option V
 | .none=>some .non
 | .bool b=>some<|.bl b
 | .int i _=>some<|.int i
 | .str x _=>some<|.str x
 | .bytes b _=>some<|.byt b
 | .float b _=>some<|.flt b
 | .ref a=>some<|.ref a
 | .type n=>some<|.ty n
 | _=>none
def m7.abs {x:V}{u:Lz}(r:m7 x u):Cq u=some x:=by
 cases x with
 | non=>cases r;rfl
 | bl _=>cases r;rfl
 | int _=>obtain⟨t,rfl⟩:=r;rfl
 | str _=>obtain⟨t,rfl⟩:=r;rfl
 | byt _=>obtain⟨t,rfl⟩:=r;rfl
 | flt _=>obtain⟨t,rfl⟩:=r;rfl
 | ref _=>cases r;rfl
 | ty _=>cases r;rfl
def m7.inj {x y:V}{u:Lz}(r:m7 x u)(q:m7 y u):x=y:=Gy<|r.abs.symm.trans q.abs
theorem j6.inj:∀{xs ys:List V} {us:List Lz},j6 xs us->j6 ys us->xs=ys
 | _,_,_,.nil,.nil=>rfl
 | _,_,_,.cons r t,.cons r' t'=>by rw[r.inj r',j6.inj t t']
section
variable {X:Cx}{pins:List (LA×LO)}{σ:St}{H:Hp}{s:LC}{a:LA}{xs ys:List V}
def SqL.of {K:Fg}(h:H a=some (.lst xs)):SqL K H a xs:=.inl<|.inl h
def SqT.of {K:Fg}(h:H a=some (.tup xs)):SqT K H a xs:=.inl<|.inl h
def Inv.list (I:Inv X pins σ H s)(h:SqL X.K H a xs):∃its:List Lz,j6 xs its/\PlainL s.heap a its.toArray/\xs.length<=LM:=by
 rcases h with h | ⟨o,its,n,hk,hc,hd,hs,hz,r⟩
 .obtain⟨z,its,n,r,e⟩:=h.ok I.hok;exact⟨its,r,⟨_,n,e,rfl,rfl,rfl⟩,z⟩
 .refine⟨its.toList,r,⟨o,n,I.kIn a o hk,hc,hd,by simpa using hs⟩,?_⟩;have e:=r.length;simp only[IA]at e;omega
def Inv.tuple (I:Inv X pins σ H s)(h:SqT X.K H a xs):∃its:List Lz,j6 xs its/\IsTup s.heap a its.toArray/\xs.length<=LM:=by
 rcases h with h | ⟨o,its,n,hk,hc,hs,hz,r⟩
 .obtain⟨z,its,r,p⟩:=h.ok I.hok;exact⟨its,r,p,z⟩
 .refine⟨its.toList,r,⟨o,I.kIn a o hk,hc,n,by simpa using hs⟩,?_⟩;have e:=r.length;simp only[IA]at e;omega
def Inv.list_inj (I:Inv X pins σ H s)(h:SqL X.K H a xs)(h':SqL X.K H a ys):xs=ys:=by
 obtain⟨its,r,⟨o,n,e,_,_,d⟩,_⟩:=I.list h;obtain⟨its',r',⟨o',n',e',_,_,d'⟩,_⟩:=I.list h';rw[e]at e';cases e';rw[d]at d';injection d' with d1 _
 have:its=its':=by simpa using HJ Array.toList d1
 subst this;exact r.inj r'
def Inv.tuple_inj (I:Inv X pins σ H s)(h:SqT X.K H a xs)(h':SqT X.K H a ys):xs=ys:=by
 obtain⟨its,r,⟨o,e,_,n,d⟩,_⟩:=I.tuple h;obtain⟨its',r',⟨o',e',_,n',d'⟩,_⟩:=I.tuple h';rw[e]at e';cases e';rw[d]at d';injection d' with d1 _
 have:its=its':=by simpa using HJ Array.toList d1
 subst this;exact r.inj r'
end
abbrev Cx.wish (X:Cx)(E:Lz->LC->Prop):Cx:={ X with xe:=E }
abbrev Cx.nox (X:Cx):Cx:=X.wish λ_ _=>False
def Cx.Ok.wish {X:Cx}(ok:X.Ok)(E:Lz->LC->Prop):(X.wish E).Ok :=
 ⟨ok.mod,ok.kind,ok.glob,ok.blt,ok.above,ok.inj,ok.has,ok.cab,ok.hd,ok.frames,ok.stk,ok.exf,ok.bs,ok.bsz,ok.noex,ok.exfs,ok.funs,ok.frf⟩
def Cx.Ok.unwish {X:Cx}{E:Lz->LC->Prop}(ok:(X.wish E).Ok):X.Ok :=
 ⟨ok.mod,ok.kind,ok.glob,ok.blt,ok.above,ok.inj,ok.has,ok.cab,ok.hd,ok.frames,ok.stk,ok.exf,ok.bs,ok.bsz,ok.noex,ok.exfs,ok.funs,ok.frf⟩
section
variable {X:Cx}{pins:List (LA×LO)}{σ:St}{H:Hp}{s:LC}{E:Lz->LC->Prop}
def Inv.wish (I:Inv X pins σ H s)(E:Lz->LC->Prop):Inv (X.wish E) pins σ H s:=⟨I.ok.wish E,I.os,I.bare,I.base,I.loc,I.cell,I.free,I.freeC,I.pin,I.hok,I.len⟩
def Inv.unwish (I:Inv (X.wish E) pins σ H s):Inv X pins σ H s:=⟨I.ok.unwish,I.os,I.bare,I.base,I.loc,I.cell,I.free,I.freeC,I.pin,I.hok,I.len⟩
def SP.unwish {D:Ends}{f:Flow}{s':LC}(h:SP (X.wish E) pins D f s'):SP X pins D f s':=by
 cases f with
 | next=>obtain⟨σ',H',I,q⟩:=h;exact⟨σ',H',I.unwish,q⟩
 | brk=>obtain⟨σ',H',I,q⟩:=h;exact⟨σ',H',I.unwish,q⟩
 | cont=>obtain⟨σ',H',I,q⟩:=h;exact⟨σ',H',I.unwish,q⟩
 | ret u=>obtain⟨v,σ',H',I,r,q⟩:=h;exact⟨v,σ',H',I.unwish,r,q⟩
def PSs.nox {st:List LJ}{t:TS}(h:PSs X.nox st t):PSs X st t:=λpins s σ H D I hw =>
 Hg (h pins s σ H D (I.wish _) hw) (λ_ _ q=>q.unwish) λ_ _ z=>False.elim z
end
section
variable {X:Cx}{st:LJ}{rest:List LJ}{t u:TS}{e:LK}{te:TE}{pos:Pos}
def rV:TS:=λD σ H=>D.nx σ H
def rQ (t u:TS):TS:=λD σ H=>t { D with nx:=u D } σ H
def dz:PSs X [] rV:=λ_ _ σ H _ I h=>KD ⟨σ,H,I,h⟩
def y8 (h1:PS X st t)(h2:PSs X rest u):PSs X (st::rest) (rQ t u):=by
 intro pins s σ H D I h;refine wpAny_execs_cons (thn (h1 pins s σ H { D with nx:=u D } I h) λf s1 q=>?_);cases f with
 | next =>
  obtain⟨σ',H',I',q⟩:=q;exact h2 pins s1 σ' H' D I' q
 | ret v=>exact q
 | brk=>exact q
 | cont=>exact q
def Z7 (h1:PS X st t):PSs X [st] t:=by
 intro pins s σ H D I h;refine wpAny_execs_cons (thn (h1 pins s σ H D I h) λf s1 q=>?_);cases f with
 | next=>exact KD q
 | ret v=>exact q
 | brk=>exact q
 | cont=>exact q
def Inv.quiet {pins:List (LA×LO)}{σ:St}{H:Hp}{s:LC}(I:Inv X pins σ H s):interactive X.env=false:=by simp[interactive,I.ok.kind]
def eR (te:TE):TS:=λD σ H=>te σ H λ_ H1=>D.nx σ H1
def il (he:PE X e te)(hs:LX e none pos.line X.env=pure false:=by rfl):PS X (.Expr e pos) (eR te):=by
 intro pins s σ H D I h;exact wpAny_Expr_any (thn (he pins s σ H _ I h) λv s1 ⟨x,H1,I1,r1,q1⟩=>⟨σ,H1,I1,q1⟩) I.quiet hs
def Aj (te:TE):TS:=λD σ H=>te σ H D.rt
def bu (he:PE X e te):PS X (.Return (some e) pos) (Aj te):=by
 intro pins s σ H D I h;exact wpAny_Return_some (thn (he pins s σ H _ I h) λv s1 ⟨x,H1,I1,r1,q1⟩=>⟨x,σ,H1,I1,r1,q1⟩)
def zP (c:TT)(t u:TS):TS:=λD σ H=>c σ H λb H1=>if b=true then t D σ H1 else u D σ H1
def nH {c:LK}{a b:List LJ}{tc:TT}(hc:PT X c tc)(ha:PSs X a t)(hb:PSs X b u):PS X (.If c a b pos) (zP tc t u):=by
 intro pins s σ H D I h;refine wpAny_If (thn (hc pins s σ H _ I h) λd s1 ⟨H1,I1,q1⟩=>?_);cases d with
 | true=>exact ha pins s1 σ H1 D I1 q1
 | false=>exact hb pins s1 σ H1 D I1 q1
end
abbrev TG:=V->St->Hp->(St->Hp->Prop)->Prop
abbrev TGs:=List V->St->Hp->(St->Hp->Prop)->Prop
def PG (X:Cx)(target:LK)(t:TG):Prop :=
 ∀(pins:List (LA×LO)) (s:LC) (σ:St) (H:Hp) (v:V) (u:Lz) (Q:St->Hp->Prop),Inv X pins σ H s->m7 v u->t v σ H Q ->
  LU (model X.prog X.w) X.A (assign target X.env u) (λ_ s'=>∃σ' H',Inv X pins σ' H' s'/\Q σ' H') X.xe s
def PGs (X:Cx)(ts:List LK)(t:TGs):Prop :=
 ∀(pins:List (LA×LO)) (s:LC) (σ:St) (H:Hp) (vs:List V) (us:List Lz) (Q:St->Hp->Prop),Inv X pins σ H s->j6 vs us->t vs σ H Q ->
  LU (model X.prog X.w) X.A (assignInOrder ((Mb ts X.env).map (·.2)) us) (λ_ s'=>∃σ' H',Inv X pins σ' H' s'/\Q σ' H') X.xe s
abbrev zm:=V->V->V->Hp->(Hp->Prop)->Prop
def Bb (X:Cx)(t:zm):Prop :=
 ∀(pins:List (LA×LO)) (s:LC) (σ:St) (H:Hp) (o i v:V) (ov iv u:Lz) (Q:Hp->Prop),Inv X pins σ H s->m7 o ov->m7 i iv->m7 v u->t o i v H Q ->
  LU (model X.prog X.w) X.A (setItem ov iv u) (λ_ s'=>∃H',Inv X pins σ H' s'/\Q H') X.xe s
abbrev TIp:=V->V->Hp->VK->Prop
def PIp (X:Cx)(op:Operator)(t:TIp):Prop :=
 ∀(pins:List (LA×LO)) (s:LC) (σ:St) (H:Hp) (x y:V) (v u:Lz) (Q:VK),Inv X pins σ H s->m7 x v->m7 y u->t x y H Q ->
  LU (model X.prog X.w) X.A (inplaceOp op v u) (EP X pins σ Q) X.xe s
section
variable {X:Cx}{pos:Pos}
def E9 (i:Nat):TG:=λv σ H Q=>Q (σ.set i<|some v) H
def iC {i:Nat}{x:Str}(hN:X.N.Nodup)(hi:X.N[i]? = some x)(hx:Loc X.env.scope x)(hf:X.fn x=true\/X.env.scope.names.lookup x=some .local:=by first | exact .inl rfl | exact .inr rfl | assumption):PG X (.Name x pos) (E9 i):=by
 intro pins s σ H v u Q I r h;exact wpAny_assign_Name (D8 I hN hi hx r (λs' I'=>⟨_,H,I',h⟩) hf)
def zN:TGs:=λvs σ H Q=>vs=[]/\Q σ H
def nX (t:TG)(u:TGs):TGs:=λvs σ H Q=>∃v r,vs=v::r/\t v σ H λσ' H'=>u r σ' H' Q
def ni:PGs X [] zN:=by
 intro pins s σ H vs us Q I r h;obtain⟨e,h⟩:=h;subst e;cases r;exact assignInOrder_nil ⟨σ,H,I,h⟩
def dG {e:LK}{es:List LK}{t:TG}{u:TGs}(h1:PG X e t)(h2:PGs X es u)
  (hs:(Mb (e::es) X.env).map (·.2)=assign e X.env::(Mb es X.env).map (·.2):=by rfl):PGs X (e::es) (nX t u):=by
 intro pins s σ H vs us Q I r h;obtain⟨v,vr,e1,h⟩:=h;subst e1;cases r with
 | cons r rr =>
  rw[hs];refine Jd (thn (h1 pins s σ H _ _ _ I r h) λ_ s1 ⟨σ1,H1,I1,q1⟩=>?_);exact h2 pins s1 σ1 H1 _ _ Q I1 rr q1
def vV (K:Fg)(n:Nat)(t:TGs):TG:=λv σ H Q=>∃a xs,v = .ref a/\SqT K H a xs/\xs.length=n/\t xs σ H Q
def zB {es:List LK}{k:Nat}{t:TGs}{n:Nat}(hc:X.calm=true)(h:PGs X es t)
  (hn:(Mb es X.env).length=n:=by rfl) (hst:(Mb es X.env).findIdx? (·.1)=none:=by rfl):PG X (.Tuple es k pos) (vV X.K n t):=by
 intro pins s σ H v u Q I r hw;obtain⟨a,xs,e1,hq,hl,hw⟩:=hw;subst e1;cases r;obtain⟨its,rv,ht,hz⟩:=I.tuple hq;refine assign_Tuple_tuple (I.ok.hd hc) ht (by simp[hn,<-hl,rv.length]) hst λh' hx=>?_
 have I1:Inv X pins σ H { s with heap:=h' }:=I.kept (t':=s.toks) λb o e=>hx b o (GR<|Gv e) e
 exact h pins _ σ H xs _ Q I1 (by simpa using rv) hw
def BW (to ti:TE)(t:zm):TG:=λv σ H Q=>to σ H λo H1=>ti σ H1 λi H2=>t o i v H2 λH3=>Q σ H3
def ia {o i:LK}{to ti:TE}{t:zm}(ho:PE X o to)(hi:PE X i ti)(hs:Bb X t)
  (ha:∀v,assign (.Subscript o i pos) X.env v=(do
   let ov <-holding [v] (eval o X.env)
   let iv <-holding [v,ov] (eval i X.env)
   standAt pos
   holding [v,ov,iv] (setItem ov iv v)
   release [v,ov,iv] []):=by intro _;rfl):PG X (.Subscript o i pos) (BW to ti t):=by
 intro pins s σ H v u Q I r h;rw[ha];refine Gh (HB<|thn (ho pins s σ H _ I h) λov s1 ⟨x,H1,I1,r1,q1⟩=>?_);refine Gh (HB<|thn (hi pins s1 σ H1 _ I1 q1) λiv s2 ⟨y,H2,I2,r2,q2⟩=>?_);refine Gh (IM<|Gh<|HB<|thn (hs pins s2 σ H2 x y v ov iv u _ I2 r1 r2 r q2) λ_ s3 ⟨H3,I3,q3⟩=>?_);exact wpAny_release ⟨σ,H3,I3,q3⟩
def X3 (te:TE)(g:TG):TS:=λD σ H=>te σ H λx H1=>g x σ H1 D.nx
def cx {tg e:LK}{te:TE}{g:TG}(he:PE X e te)(hg:PG X tg g)(hs:swapsWithSole [tg] e pos.line X.env=pure false:=by rfl)(hw:swappedStores [tg] e X.env=pure none:=by rfl)
  (h1:(Mb [tg] X.env).map (·.2)=[assign tg X.env]:=by rfl):PS X (.Assign [tg] e pos) (X3 te g):=by
 intro pins s σ H D I h;refine wpAny_Assign_stores (thn (he pins s σ H _ I h) λv s1 ⟨x,H1,I1,r1,q1⟩=>?_) hs hw;rw[h1];exact thn (hg pins s1 σ H1 x v _ I1 r1 q1) λ_ s2 q=>q
def Y0 {i:Nat}{x:Str}{e:LK}{te:TE}{pos':Pos}(hN:X.N.Nodup)(hi:X.N[i]? = some x)(hx:Loc X.env.scope x)(he:PE X e te)(hs:LX e (some<|.Name x pos') pos.line X.env=pure false:=by rfl)(hf:X.fn x=true\/X.env.scope.names.lookup x=some .local:=by first | exact .inl rfl | exact .inr rfl | assumption) :
  PS X (.Assign [.Name x pos'] e pos) (X3 te<|E9 i):=by
 intro pins s σ H D I h;refine wpAny_Assign_Name (thn (he pins s σ H _ I h) λv s1 ⟨y,H1,I1,r1,q1⟩=>?_) hs;exact D8 I1 hN hi hx r1 (λs2 I2=>⟨_,H1,I2,q1⟩) hf
def BX (i j:Nat)(ta:TA):TS:=λD σ H=>ta σ H λvs H1=>∃v w,vs=[v,w]/\D.nx ((σ.set i<|some v).set j<|some w) H1
def yZ {i j:Nat}{x y:Str}{a b:LK}{ta:TA}{px py pt:Pos}{kt k2 pt2}(hc:X.calm=true)(hN:X.N.Nodup)(hi:X.N[i]? = some x)(hj:X.N[j]? = some y)(hij:i≠j)
  (hx:X.env.scope.names.lookup x=some .local) (hy:X.env.scope.names.lookup y=some .local) (ha:PA X [a,b] ta)
  (hw:swappedStores [.Tuple [.Name x px,.Name y py] kt pt] (.Tuple [a,b] k2 pt2) X.env=pure (some [x,y]))
  (hs:swapsWithSole [.Tuple [.Name x px,.Name y py] kt pt] (.Tuple [a,b] k2 pt2) pos.line X.env=pure false:=by rfl) :
  PS X (.Assign [.Tuple [.Name x px,.Name y py] kt pt] (.Tuple [a,b] k2 pt2) pos) (BX i j ta):=by
 intro pins s σ H D I h;rw[exec_Assign_arm];refine Gh<|IM ?_;rw[hs];refine Gh<|Gk ?_;rw[Gr<|by decide];refine Gh (Tuple_<|thn (ha _ pins s σ H _ I h) λus s1 ⟨vs,H1,I1,r1,q1⟩=>?_);obtain⟨v,w,e1,q1⟩:=q1;subst e1;obtain⟨u1,u2,rfl,rv,rw'⟩:∃u1 u2,us=[u1,u2]/\m7 v u1/\m7 w u2:=by
  cases r1 with
  | cons p q =>
   cases q with
   | cons p' q' =>
    cases q';exact⟨_,_,rfl,p,p'⟩
 refine Hr ?_ (by show 2<=LM;decide);have I2:Inv X pins σ H1 { s1 with heap:=s1.heap.push { cls:=.type "tuple",data:=.seq [u1,u2].toArray } }:=I1.kept (t':=s1.toks) λb o e=>Gj _ e
 rw[hw];refine Gh<|Gk ?_;show LU (model X.prog X.w) X.A (do rule "assign.swapped-stores";let items <-unpackItems (.ref s1.heap.objs.size) 2 none;assignInOrder [λv=>bindName X.env y v,λv=>bindName X.env x v] items.reverse;pure Flow.next) _ _ _;refine Gh (Iw<|Gh<|unpackItems_tuple (items:=#[u1,u2]) (I.ok.hd hc) (JZ s1.heap _) λh' hx'=>?_);have I3:=I2.kept (h':=h') (t':=s1.toks) λb o e=>hx' b o (GR<|Gv e) e
 show LU _ _ (assignInOrder [λv=>bindName X.env y v,λv=>bindName X.env x v] [u2,u1] >>= λ_=>pure Flow.next) _ _ _;refine Gh (Jd<|Ki<|D8 I3 hN hj (.inl hy) rw' (λs2 I4=>?_)<|.inr hy);refine Jd (Ki<|D8 I4 hN hi (.inl hx) rv (λs3 I5=>assignInOrder_nil<|Gk ?_)<|.inr hx);rw[Lf _ _<|Ie hij]at I5;exact⟨_,H1,I5,q1⟩
def qY (i:Nat)(te:TE)(ti:TIp):TS:=λD σ H=>∃x,σ[i]? = some (some x)/\te σ H λy H1=>ti x y H1 λz H2=>D.nx (σ.set i<|some z) H2
def qP {i:Nat}{x:Str}{e:LK}{te:TE}{op:Operator}{ti:TIp}{pos':Pos}(hN:X.N.Nodup)(hi:X.N[i]? = some x)(hx:Loc X.env.scope x)(he:PE X e te)(ho:PIp X op ti)(hf:X.fn x=true\/X.env.scope.names.lookup x=some .local:=by first | exact .inl rfl | exact .inr rfl | assumption) :
  PS X (.AugAssign (.Name x pos') op e pos) (qY i te ti):=by
 intro pins s σ H D I h;obtain⟨v,e1,h⟩:=h;obtain⟨m,hn,hl⟩:=I.loc;have vis:Vis X.env.scope x:=by rcases hx with k | k;exact .inl k;exact .inr<|.inl k
 obtain⟨u,r,l⟩:=hl i x v hi e1 vis;refine wpAny_AugAssign_Name ?_;have go:LU (model X.prog X.w) X.A (eval e X.env) (λw s₂=>LU (model X.prog X.w) X.A (inplaceOp op u w) (λr s₃=>LU (model X.prog X.w) X.A (storeName X.env x r) (λ_=>SP X pins D .next) X.xe s₃) X.xe s₂) X.xe s:=by
  refine thn (he pins s σ H _ I h) λw s1 ⟨y,H1,I1,r1,q1⟩=>?_
  refine thn (ho pins s1 σ H1 v y u w _ I1 r r1 q1) λz s2 ⟨zv,H2,I2,r2,q2⟩=>?_
  exact D8 I2 hN hi hx r2 (λs3 I3=>⟨_,H2,I3,q2⟩) hf
 rcases l with ⟨hk,hm⟩ | ⟨hk,c,hc,hcell⟩
 .exact wpAny_loadName_local I.ok.kind hk hn hm go
 .rcases hk with hk | hk
  .exact wpAny_loadName_cell I.ok.kind hk hc hcell go
  .rcases hx with k | k
   .have:X.env.scope.names.lookup x=some .free:=hk;rw[k]at this;cases this
   .have:X.env.scope.names.lookup x=some .free:=hk;rw[k]at this;cases this
def ipI (f:Int->Int->Int):TIp:=λx y H Q=>∃i j,x = .int i/\y = .int j/\Q (.int<|f i j) H
def yH:PIp X .Add (ipI λi j=>i+j):=by
 intro pins s σ H x y v u Q I r1 r2 h;obtain⟨i,j,e1,e2,q⟩:=h;subst e1;subst e2;obtain⟨t,rfl⟩:=r1;obtain⟨t',rfl⟩:=r2;exact iadd_int ⟨.int _,H,I.tok _,⟨_,rfl⟩,q⟩
end
section
variable {X:Cx}{pos:Pos}
def lO (c:TT)(tb:TS):TS:=λD σ H=>∃W:Nat->St->Hp->Prop,(∃m,W m σ H)/\∀m σ H,W m σ H ->
 c σ H λb H1=>if b=true then ∃N:St->Hp->Prop,(∀σ' H',N σ' H'->∃m',m'<m/\W m' σ' H')/\tb { D with nx:=N,ct:=N,bk:=D.nx } σ H1 else D.nx σ H1
def tw {c:LK}{body:List LJ}{tc:TT}{tb:TS}(hp:PassesOwn (model X.prog X.w) X.A X.env X.xe)(hc:PT X c tc)(hb:PSs X body tb):PS X (.While c body [] pos) (lO tc tb):=by
 intro pins s σ H D I h;obtain⟨W,⟨m0,w0⟩,turn⟩:=h;refine wpAny_While (codeAny_whileLoop (λn s'=>∃σ' H',Inv X pins σ' H' s'/\W n σ' H') ?_ m0 ⟨σ,H,I,w0⟩);rintro n s1 ⟨σ1,H1,I1,w1⟩;refine Ji hp (thn (hc pins s1 σ1 H1 _ I1<|turn n σ1 H1 w1) λb s2 ⟨H2,I2,q2⟩=>?_);cases b with
 | true =>
  obtain⟨N,hN,q2⟩:=q2;rw[Gp rfl];refine Ji hp (thn (hb pins s2 σ1 H2 _ I2 q2) λf s3 q3=>?_);cases f with
  | next =>
   obtain⟨σ3,H3,I3,n3⟩:=q3;obtain⟨m',hm,w3⟩:=hN σ3 H3 n3;exact⟨m',hm,σ3,H3,I3,w3⟩
  | cont =>
   obtain⟨σ3,H3,I3,n3⟩:=q3;obtain⟨m',hm,w3⟩:=hN σ3 H3 n3;exact⟨m',hm,σ3,H3,I3,w3⟩
  | brk=>exact q3
  | ret v=>exact q3
 | false =>
  rw[Gr GQ];exact KD ⟨σ1,H2,I2,q2⟩
end
structure It where
 go:Nat->Hp->Prop
 yld:Nat->Hp->V->Hp->Prop
 stop:Nat->Hp->Prop
def aC (X:Cx)(pins:List (LA×LO))(H:Hp)(b:LA):Prop :=
 H b=none/\b≠X.env.locals/\b ∉ X.fs/\(b∈X.ex\/X.s₀.heap.objs.size<=b)/\(∀x c,X.env.cells.lookup x=some c->c≠b)/\∀p∈X.pn++pins,p.1≠b
def Inv.fpOk {X:Cx}{pins:List (LA×LO)}{σ:St}{H H':Hp}{s:LC}{b:LA}(I:Inv X pins σ H s)(hb:s.heap.objs.size<=b)(hn:H' b=none):aC X pins H' b:=by
 refine⟨hn,IL<|GT I.lt hb,I.nofs hb,.inr<|He I.sz hb,λx c e z=>?_,λp hp z=>?_⟩
 .obtain⟨v,q⟩:=I.cell x c e;exact absurd (GT q.lt (by rw[z];exact hb))<|Im _
 .exact absurd (GT (Gv (I.pin p hp).1) (by rw[z];exact hb))<|Im _
structure Turn (P:LD) (w:LF) (K:Fg) (tg:LK) (J:It) (fp:List LA) (it:LA) (tn:Nat->LL->Prop):Prop where
 mem:it∈fp
 obj:∀i h,tn i h->∀b∈fp,∃o,h.get? b=some o/\∀v,o.data ≠ .cell v
 keep:∀i h h',tn i h->(∀b∈fp,∀o,h.get? b=some o->h'.get? b=some o)->tn i h'
 item:∀(X:Cx),X.prog=P->X.w=w->X.K=K->X.calm=true->∀(i:Nat) (pins:List (LA×LO)) (s:LC) (σ:St) (H:Hp) (E:Lz->LC->Prop),Inv X pins σ H s->(∀b∈fp,aC X pins H b)->tn i s.heap->J.go i H ->
  LU (model P w) X.A (pyNext<|.ref it) (λr s1=>∃u,r=some u /\
   LU (model P w) X.A (letOwnedTupleGo tg (.ref it) u) (λ_ s2=>∃x H',Inv X pins σ H' s2/\m7 x u/\J.yld i H x H'/\tn (i+1) s2.heap/\∀b∈fp,H' b=none) E s1) E s
 done:∀(X:Cx),X.prog=P->X.w=w->X.K=K->X.calm=true->∀(i:Nat) (pins:List (LA×LO)) (s:LC) (σ:St) (H:Hp) (E:Lz->LC->Prop),Inv X pins σ H s->(∀b∈fp,aC X pins H b)->tn i s.heap->J.stop i H ->
  LU (model P w) X.A (pyNext<|.ref it) (λr s1=>r=none/\Inv X pins σ H s1) E s
 self:∀(A:LG) (i:Nat) (s:LC) (Q:Lz->LC->Prop) (E:Lz->LC->Prop),tn i s.heap->Q (.ref it) s->LU (model P w) A (pyIter<|.ref it) Q E s
abbrev TI:=St->Hp->(It->Hp->Prop)->Prop
def PIE (X:Cx)(pins:List (LA×LO))(σ:St)(tg:LK)(R:It->Hp->Prop)(itv:Lz)(s2:LC):Prop :=
 ∃(it:LA) (fp:List LA) (tn:Nat->LL->Prop) (J:It) (H':Hp),itv = .ref it/\Inv X pins σ H' s2/\Turn X.prog X.w X.K tg J fp it tn/\tn 0 s2.heap/\(∀b∈fp,aC X pins H' b)/\R J H'
def PI (X:Cx)(tg iter:LK)(wi:TI):Prop :=
 ∀(pins:List (LA×LO)) (s:LC) (σ:St) (H:Hp) (R:It->Hp->Prop),Inv X pins σ H s->wi σ H R ->
  LU (model X.prog X.w) X.A (eval iter X.env) (λv s1=>LU (model X.prog X.w) X.A (pyIter v) (PIE X pins σ tg R) X.xe s1) X.xe s
def qU {M:Model}{A:LG}{E:Lz->LC->Prop}{s:LC}{tg:LK}{it:LA}{u:Lz}{o:LO}{n:String}{vs:Array Lz}{Q:Unit->LC->Prop}(ho:s.heap.get? it=some o)(hc:o.cls = .type n)(hd:o.data = .fields vs)
    (hn:["enumerate","zip","dict_itemiterator","dict_reverseitemiterator","odict_iterator","itertools.zip_longest","itertools.pairwise"].contains n=false) (hQ:Q () s):LU M A (letOwnedTupleGo tg (.ref it) u) Q E s:=by
  unfold letOwnedTupleGo;cases tg <;> first
    | exact Gk hQ
    | (cases u <;> first
        | exact Gk hQ
        | (refine Gh (wpAny_load ho ?_)
           rw[hc,hd]
           show LU M A (if (["enumerate","zip","dict_itemiterator","dict_reverseitemiterator","odict_iterator","itertools.zip_longest","itertools.pairwise"].contains n&&vs[0]? == some (rawInt _))=true then _ else _) Q E s
           rw[Gr (by intro h;rw[hn,Bool.false_and]at h;cases h)]
           exact Gk hQ))
def Itl (K:Fg)(a:LA):It :=
 ⟨λi H=>∃xs x,SqL K H a xs/\xs[i]? = some x,λi H x H'=>H'=H/\∀xs,SqL K H a xs->xs[i]? = some x,λi H=>∃xs,SqL K H a xs/\xs.length<=i⟩
def Itt (K:Fg)(a:LA):It :=
 ⟨λi H=>∃xs x,SqT K H a xs/\xs[i]? = some x,λi H x H'=>H'=H/\∀xs,SqT K H a xs->xs[i]? = some x,λi H=>∃xs,SqT K H a xs/\xs.length<=i⟩
def Itr (lo:Int)(n:Nat):It:=⟨λi _=>i<n,λi H x H'=>H'=H/\x = .int (lo+i),λi _=>n<=i⟩
def oA {P:LD}{w:LF}{K:Fg}{tg:LK}(a it:LA):Turn P w K tg (Itl K a) [it] it (λi h=>h.IsListIter it a i) where
 mem:=by simp
 obj:=λi h st b hb=>by
  have e:b=it:=by simpa using hb
  subst e;obtain⟨o,e,c,d⟩:=st;exact⟨o,e,λv z=>by rw[d]at z;cases z⟩
 keep:=λi h h' st k=>st.at λo e=>k it (by simp) o e
 item:=by
  intro X hP hw hK hc i pins s σ H E I hf st hg;subst hP hw hK;obtain⟨xs,x,hq,hx⟩:=hg;obtain⟨its,rv,p,hz⟩:=I.list hq;obtain⟨u,hu,ru⟩:=rv.get hx;obtain⟨f0,f1,f2,f3,f4,f5⟩:=hf it (by simp);refine wpAny_pyNext_list_item st p.isList (x:=u) (by simpa using hu) λh' st' sb=>?_
  have I1:Inv X pins σ H { s with heap:=h' }:=I.turned (t':=s.toks) (λb o hb e=>(sb.2 b hb).trans e) f0 f1 f3 f4 f5;obtain⟨o,e,c,d⟩:=id st';exact⟨u,rfl,qU (s:={ s with heap:=h' }) e c d (by decide) ⟨x,H,I1,ru,⟨rfl,λys hy=>by rw[I.list_inj hy hq];exact hx⟩,st',λb hb=>(hf b hb).1⟩⟩
 done:=by
  intro X hP hw hK hc i pins s σ H E I hf st hg;subst hP hw hK;obtain⟨xs,hq,hx⟩:=hg;obtain⟨its,rv,p,hz⟩:=I.list hq;obtain⟨f0,f1,f2,f3,f4,f5⟩:=hf it (by simp);have hl:=rv.length;exact wpAny_pyNext_list_end (I.ok.hd hc) st p.isList (by simp;omega) λh' eb=>⟨rfl,I.turned (t':=s.toks) (λb o hb e=>eb b o hb e) f0 f1 f3 f4 f5⟩
 self:=λ_ _ _ _ _ st h=>wpAny_pyIter_listiter st h
def lp {P:LD}{w:LF}{K:Fg}{tg:LK}(a it:LA):Turn P w K tg (Itt K a) [it] it (λi h=>h.IsTupleIter it a i) where
 mem:=by simp
 obj:=λi h st b hb=>by
  have e:b=it:=by simpa using hb
  subst e;obtain⟨o,e,c,d⟩:=st;exact⟨o,e,λv z=>by rw[d]at z;cases z⟩
 keep:=λi h h' st k=>st.at λo e=>k it (by simp) o e
 item:=by
  intro X hP hw hK hc i pins s σ H E I hf st hg;subst hP hw hK;obtain⟨xs,x,hq,hx⟩:=hg;obtain⟨its,rv,p,hz⟩:=I.tuple hq;obtain⟨u,hu,ru⟩:=rv.get hx;obtain⟨f0,f1,f2,f3,f4,f5⟩:=hf it (by simp);refine wpAny_pyNext_tuple_item st (show s.heap.IsTuple a its.toArray from p) (x:=u) (by simpa using hu) λh' st' sb=>?_
  have I1:Inv X pins σ H { s with heap:=h' }:=I.turned (t':=s.toks) (λb o hb e=>(sb.2 b hb).trans e) f0 f1 f3 f4 f5;obtain⟨o,e,c,d⟩:=id st';exact⟨u,rfl,qU (s:={ s with heap:=h' }) e c d (by decide) ⟨x,H,I1,ru,⟨rfl,λys hy=>by rw[I.tuple_inj hy hq];exact hx⟩,st',λb hb=>(hf b hb).1⟩⟩
 done:=by
  intro X hP hw hK hc i pins s σ H E I hf st hg;subst hP hw hK;obtain⟨xs,hq,hx⟩:=hg;obtain⟨its,rv,p,hz⟩:=I.tuple hq;obtain⟨f0,f1,f2,f3,f4,f5⟩:=hf it (by simp);have hl:=rv.length;exact wpAny_pyNext_tuple_end (I.ok.hd hc) st (show s.heap.IsTuple a its.toArray from p) (by simp;omega) λh' eb=>⟨rfl,I.turned (t':=s.toks) (λb o hb e=>eb b o hb e) f0 f1 f3 f4 f5⟩
 self:=λ_ _ _ _ _ st h=>wpAny_pyIter_tupleiter st h
def mv {P:LD}{w:LF}{K:Fg}{tg:LK}(it:LA)(lo:Int)(n:Nat):Turn P w K tg (Itr lo n) [it] it (λi h=>IsRangeIter h it (lo+(i:Nat)*1) ((n:Int)-(i:Nat)) 1) where
 mem:=by simp
 obj:=λi h st b hb=>by
  have e:b=it:=by simpa using hb
  subst e;exact⟨_,st,λv z=>by
   have z':Data.fields _=Data.cell v:=z;cases z'⟩
 keep:=λi h h' st k=>k it (by simp) _ st
 item:=by
  intro X hP hw hK hc i pins s σ H E I hf st hg;subst hP hw hK;obtain⟨f0,f1,f2,f3,f4,f5⟩:=hf it (by simp);have W:=Walks.range (prog:=X.prog) (w:=X.w) (I.ok.hd hc) it lo 1 n;refine W.item i s _ _ hg st λv h' tk hv st' kk=>?_
  obtain⟨t,rfl⟩:=hv;have I1:Inv X pins σ H { s with heap:=h',toks:=tk }:=I.turned (λb o hb e=>kk b o (by simpa using hb) e) f0 f1 f3 f4 f5;refine⟨_,rfl,qU (s:={ s with heap:=h',toks:=tk }) (n:="range_iterator") st' rfl rfl (by decide) ⟨.int<|lo+i,H,I1,⟨t,?_⟩,⟨rfl,rfl⟩,st',λb hb=>(hf b hb).1⟩⟩;rw[Int.mul_one]
 done:=by
  intro X hP hw hK hc i pins s σ H E I hf st hg;subst hP hw hK;obtain⟨f0,f1,f2,f3,f4,f5⟩:=hf it (by simp);exact wpAny_pyNext_range_end (I.ok.hd hc) st (by have:n<=i:=hg;omega) λh' eb=>⟨rfl,I.turned (t':=s.toks) (λb o hb e=>eb b o hb e) f0 f1 f3 f4 f5⟩
 self:=λ_ _ _ _ _ st h=>wpAny_pyIter_rangeiter st h
end
section
section
variable {X:Cx}{tg:LK}
def sI {pins:List (LA×LO)}{σ:St}{H:Hp}{s:LC}{R:It->Hp->Prop}{E:Lz->LC->Prop}{lo hi:Int}{t u v:Tok}{tk:Nat}(I:Inv X pins σ H s)(h1:-(2 ^ 62)<=lo)(h2:lo<2 ^ 62)(h3:-(2 ^ 62)<=hi)(h4:hi<2 ^ 62)
  (q:R (Itr lo (hi-lo).toNat) H):LU (model X.prog X.w) X.A (pyIter<|.ref s.heap.objs.size) (PIE X pins σ tg R) E { s with heap:=s.heap.push { cls:=.type "range",data:=.fields #[.int lo t,.int hi u,.int 1 v] },toks:=tk }:=by
 refine wpAny_pyIter_range (IsRange.new ..) (small_one h1 h2 h3 h4) ?_;have I1:Inv X pins σ H { s with heap:=s.heap.push { cls:=.type "range",data:=.fields #[.int lo t,.int hi u,.int 1 v] },toks:=tk }:=I.kept λb o e=>Gj _ e
 refine⟨(s.heap.push { cls:=.type "range",data:=.fields #[.int lo t,.int hi u,.int 1 v] }).objs.size,[(s.heap.push { cls:=.type "range",data:=.fields #[.int lo t,.int hi u,.int 1 v] }).objs.size],_,_,H,rfl,
  I1.kept (t':=tk) λb o e=>Gj _ e,mv _ lo (hi-lo).toNat,?_,λb hb=>?_,q⟩
 .have e1:lo+((0:Nat):Int)*1=lo:=by simp
  have e2:(((hi-lo).toNat:Nat):Int)-((0:Nat):Int)=Builtin.Range.rangeSize lo hi 1:=by rw[rangeSize_one];split <;> omega
  show IsRangeIter _ _ (lo+((0:Nat):Int)*1) ((((hi-lo).toNat:Nat):Int)-((0:Nat):Int)) 1;rw[e1,e2];exact GN _ rfl
 .have e:b=(s.heap.push { cls:=.type "range",data:=.fields #[.int lo t,.int hi u,.int 1 v] }).objs.size:=by simpa using hb
  subst e;exact I1.fpOk (Gs _)<|I1.hok.fresh<|Gs _
def xP (ta:TA):TI:=λσ H R=>ta σ H λvs H1=>∃j:Int,vs=[.int j] /\ -(2 ^ 62)<=j/\j<2 ^ 62/\R (Itr 0 j.toNat) H1
def oE {a:LK}{ta:TA}{p pos:Pos}(hg:Gl X "range")(hm:X.mg "range" = none)(ha:PA X [a] ta)(hs:LN [a] X.env=[(false,eval a X.env)]:=by rfl):PI X tg (.Call (.Name "range" p) [a] [] pos) (xP ta):=by
 intro pins s σ H R I h;refine Call_ (Q5 I hg hm boot_range<|Ik (thn (ha pos pins s σ H _ I h) λus s1 ⟨vs,H1,I1,r1,q1⟩=>?_) hs rfl);obtain⟨j,e,q1,q2,q⟩:=q1;subst e;cases r1 with
 | cons r rr =>
  cases rr;obtain⟨t,rfl⟩:=r;exact call_range_1 (sI I1 (by omega) (by omega) q1 q2<|by simpa using q)
def rM (wi:TI)(g:TG)(tb:TS):TS:=λD σ H=>wi σ H λJ H1=>∃W:Nat->Nat->St->Hp->Prop,(∃m,W 0 m σ H1)/\∀i m σ H,W i m σ H ->
 (J.stop i H/\D.nx σ H)\/(J.go i H/\∃N:St->Hp->Prop,(∀σ' H',N σ' H'->∃m',m'<m/\W (i+1) m' σ' H')/\∀x H',J.yld i H x H'->g x σ H' λσ2 H2=>tb { D with nx:=N,ct:=N,bk:=D.nx } σ2 H2)
def bT (fp:List LA)(h:LL):List (LA×LO):=fp.filterMap λb=>(h.get? b).map λo=>(b,o)
def L7 {fp:List LA}{h:LL}{b:LA}{o:LO}(hb:b∈fp)(e:h.get? b=some o):(b,o)∈bT fp h:=Ka.2 ⟨b,hb,by rw[e];rfl⟩
def oG {fp:List LA}{h:LL}{p:LA×LO}(hp:p∈bT fp h):p.1∈fp/\h.get? p.1=some p.2:=by
 obtain⟨b,hb,e⟩:=Ka.1 hp;cases q:h.get? b with
 | none=>rw[q]at e;cases e
 | some o =>
  rw[q]at e;have e':(b,o)=p:=Gy e;subst e';exact⟨hb,q⟩
def Inv.pinned {pins:List (LA×LO)}{σ:St}{H:Hp}{s:LC}{fp:List LA}(I:Inv X pins σ H s)(hf:∀b∈fp,aC X pins H b)(ho:∀b∈fp,∃o,s.heap.get? b=some o/\∀v,o.data ≠ .cell v):Inv X (pins++bT fp s.heap) σ H s :=
 I.pins_of λp hp=>(GP.1 hp).elim (λz=>I.pin p<|GG _ z) λz=>by
  obtain⟨hb,e⟩:=oG z;obtain⟨f0,f1,f2,_⟩:=hf p.1 hb;obtain⟨o,e',d⟩:=ho p.1 hb;rw[e]at e';cases e';exact⟨e,f0,f1,f2,d⟩
def Inv.unpinned {pins pl:List (LA×LO)}{σ:St}{H:Hp}{s:LC}(I:Inv X (pins++pl) σ H s):Inv X pins σ H s:=I.pins_of λp hp=>I.pin p<|GG _<|KC _ hp
def sG {iter:LK}{body:List LJ}{wi:TI}{g:TG}{tb:TS}{pos:Pos}(hp:PassesOwn (model X.prog X.w) X.A X.env X.xe)(hc:X.calm=true)(hi:PI X tg iter wi)(hg:PG X tg g)(hb:PSs X body tb)
  (hs:∀x,Ma iter X.env x=pure x:=by intro _;rfl):PS X (.For tg iter body [] pos) (rM wi g tb):=by
 intro pins s σ H D I h;refine wpAny_For (thn (hi pins s σ H _ I h) λv s1 h1=>thn h1 λitv s2 h2=>?_) hs;obtain⟨it,fp,tn,J,H2,e,I2,T,st2,f2,W,⟨m0,w0⟩,turn⟩:=h2;subst e;have stat:∀{H':Hp},(∀b∈fp,H' b=none)->∀b∈fp,aC X pins H' b:=λhn b hb=>⟨hn b hb,(f2 b hb).2⟩
 refine codeAny_forLoop_any (λn s'=>∃i σ' H',Inv X pins σ' H' s'/\tn i s'.heap/\(∀b∈fp,H' b=none)/\W i n σ' H') ?_ m0 ⟨0,σ,H2,I2,st2,λb hb=>(f2 b hb).1,w0⟩;rintro n s3 ⟨i,σ3,H3,I3,st3,fr3,w3⟩;rcases turn i n σ3 H3 w3 with ⟨stop,qn⟩ | ⟨go,N,hN,step⟩
 .refine Ji hp (thn (T.done X rfl rfl rfl hc i pins s3 σ3 H3 X.xe I3 (stat fr3) st3 stop) λr s4 ⟨hr,I4⟩=>?_);subst hr;exact KD ⟨σ3,H3,I4,qn⟩
 .refine Ji hp (thn (T.item X rfl rfl rfl hc i pins s3 σ3 H3 X.xe I3 (stat fr3) st3 go) λr s4 ⟨u,hr,h4⟩=>?_);subst hr;refine Ji hp (thn h4 λ_ s5 ⟨x,H5,I5,r5,y5,st5,fr5⟩=>?_);have I5':=I5.pinned (stat fr5)<|T.obj _ _ st5;refine Ji hp (thn (hg _ s5 σ3 H5 x u _ I5' r5<|step x H5 y5) λ_ s6 ⟨σ6,H6,I6,q6⟩=>?_);refine Ji hp (thn (hb _ s6 σ6 H6 _ I6 q6) λf s7 q7=>?_);have again:∀{σ7:St} {H7:Hp},Inv X (pins++bT fp s5.heap) σ7 H7 s7->N σ7 H7->∃m,m<n/\∃i σ' H',Inv X pins σ' H' s7/\tn i s7.heap/\(∀b∈fp,H' b=none)/\W i m σ' H':=λ{σ7 H7} I7 n7=>by
   obtain⟨m',hm,w7⟩:=hN σ7 H7 n7;refine⟨m',hm,i+1,σ7,H7,I7.unpinned,T.keep _ _ _ st5 λb hb o e=>(I7.pin (b,o)<|GG _<|GG _<|L7 hb e).1,λb hb=>?_,w7⟩;obtain⟨o,e,d⟩:=T.obj _ _ st5 b hb;exact(I7.pin (b,o)<|GG _<|GG _<|L7 hb e).2.1
  cases f with
  | next=>obtain⟨σ7,H7,I7,n7⟩:=q7;exact again I7 n7
  | cont=>obtain⟨σ7,H7,I7,n7⟩:=q7;exact again I7 n7
  | brk=>obtain⟨σ7,H7,I7,q7⟩:=q7;exact⟨σ7,H7,I7.unpinned,q7⟩
  | ret v=>obtain⟨x7,σ7,H7,I7,r7,q7⟩:=q7;exact⟨x7,σ7,H7,I7.unpinned,r7,q7⟩
end
end
section
abbrev R2:=V->V->Hp->VK->Prop
def OpR (X:Cx)(f:Lz->Lz->Sem Lz)(r:R2):Prop :=
 ∀(pins:List (LA×LO)) (s:LC) (σ:St) (H:Hp) (x y:V) (v u:Lz) (Q:VK),Inv X pins σ H s->m7 x v->m7 y u->r x y H Q ->
  LU (model X.prog X.w) X.A (f v u) (EP X pins σ Q) X.xe s
def UnR (X:Cx)(f:Lz->Sem Lz)(r:V->Hp->VK->Prop):Prop :=
 ∀(pins:List (LA×LO)) (s:LC) (σ:St) (H:Hp) (x:V) (v:Lz) (Q:VK),Inv X pins σ H s->m7 x v->r x H Q ->
  LU (model X.prog X.w) X.A (f v) (EP X pins σ Q) X.xe s
def E7 (X:Cx)(f:Lz)(r:List V->Hp->VK->Prop):Prop :=
 ∀(pins:List (LA×LO)) (s:LC) (σ:St) (H:Hp) (xs:List V) (us:List Lz) (Q:VK),Inv X pins σ H s->j6 xs us->r xs H Q ->
  LU (model X.prog X.w) X.A (call f us) (EP X pins σ Q) X.xe s
def Ct (X:Cx)(r:V->Hp->(Bool->Hp->Prop)->Prop):Prop :=
 ∀(pins:List (LA×LO)) (s:LC) (σ:St) (H:Hp) (x:V) (v:Lz) (Q:Bool->Hp->Prop),Inv X pins σ H s->m7 x v->r x H Q ->
  LU (model X.prog X.w) X.A (truthy v) (TP X pins σ Q) X.xe s
def tOp (r:R2)(ta tb:TE):TE:=λσ H Q=>ta σ H λx H1=>tb σ H1 λy H2=>r x y H2 Q
def tUn (r:V->Hp->VK->Prop)(ta:TE):TE:=λσ H Q=>ta σ H λx H1=>r x H1 Q
def rI (C:Int->Int->Prop)(g:Int->Int->V):R2:=λx y H Q=>∃i j,x = .int i/\y = .int j/\C i j/\Q (g i j) H
def rI0 (g:Int->Int->V):R2:=λx y H Q=>∃i j,x = .int i/\y = .int j/\Q (g i j) H
def rU (g:Int->V):V->Hp->VK->Prop:=λx H Q=>∃i,x = .int i/\Q (g i) H
section
variable {X:Cx}{a b c:LK}{ta tb tc:TE}{pos:Pos}
def As (ha:PE X a ta)(hb:PE X b tb){pins:List (LA×LO)}{s:LC}{σ:St}{H:Hp}{R:V->V->Hp->Prop}(I:Inv X pins σ H s)
  (h:ta σ H λx H1=>tb σ H1 λy H2=>R x y H2) {Q:Lz->LC->Prop} {f:Lz->Lz->Sem Lz}
  (hf:∀v u s2 x y H2,Inv X pins σ H2 s2->m7 x v->m7 y u->R x y H2->LU (model X.prog X.w) X.A (f v u) Q X.xe s2) :
  LU (model X.prog X.w) X.A (eval a X.env) (λv s₁=>LU (model X.prog X.w) X.A (eval b X.env) (λu s₂=>LU (model X.prog X.w) X.A (f v u) Q X.xe s₂) X.xe s₁) X.xe s:=by
 refine thn (ha pins s σ H _ I h) λv s1 ⟨x,H1,I1,r1,q1⟩=>?_
 refine thn (hb pins s1 σ H1 _ I1 q1) λu s2 ⟨y,H2,I2,r2,q2⟩=>?_
 exact hf v u s2 x y H2 I2 r1 r2 q2
def y4 {op:Operator}{r:R2}(ho:OpR X (binaryOp op) r)(ha:PE X a ta)(hb:PE X b tb):PE X (.BinOp a op b pos) (tOp r ta tb):=by
 intro pins s σ H Q I h;exact wpAny_BinOp (As ha hb I h λv u s2 x y H2 I2 rx ry q=>ho pins s2 σ H2 x y v u Q I2 rx ry q)
def sH {op:UnaryOp}{r:V->Hp->VK->Prop}(ho:UnR X (unaryOp op) r)(ha:PE X a ta):PE X (.UnaryOp op a pos) (tUn r ta):=by
 intro pins s σ H Q I h;exact UnaryOp_ (thn (ha pins s σ H _ I h) λv s1 ⟨x,H1,I1,r1,q1⟩=>ho pins s1 σ H1 x v Q I1 r1 q1)
def opI {f:Lz->Lz->Sem Lz}{C:Int->Int->Prop}{g:Int->Int->Int}
  (rule:∀(i j:Int) (t u:Tok) (s:LC) (Q:Lz->LC->Prop) (E:Lz->LC->Prop),C i j->Q (.int (g i j) s.toks) { s with toks:=s.toks+1 }->LU (model X.prog X.w) X.A (f (.int i t)<|.int j u) Q E s) :
  OpR X f (rI C λi j=>.int<|g i j):=by
 intro pins s σ H x y v u Q I rx ry h;obtain⟨i,j,rfl,rfl,hc,q⟩:=h;obtain⟨t,rfl⟩:=rx;obtain⟨t',rfl⟩:=ry;exact rule i j t t' s _ _ hc ⟨.int<|g i j,H,I.tok _,⟨_,rfl⟩,q⟩
def AA {f:Lz->Lz->Sem Lz}{g:Int->Int->Int}
  (rule:∀(i j:Int) (t u:Tok) (s:LC) (Q:Lz->LC->Prop) (E:Lz->LC->Prop),Q (.int (g i j) s.toks) { s with toks:=s.toks+1 }->LU (model X.prog X.w) X.A (f (.int i t)<|.int j u) Q E s) :
  OpR X f (rI0 λi j=>.int<|g i j):=by
 intro pins s σ H x y v u Q I rx ry h;obtain⟨i,j,rfl,rfl,q⟩:=h;obtain⟨t,rfl⟩:=rx;obtain⟨t',rfl⟩:=ry;exact rule i j t t' s _ _ ⟨.int<|g i j,H,I.tok _,⟨_,rfl⟩,q⟩
def Av {f:Lz->Lz->Sem Lz}{g:Int->Int->Bool}
  (rule:∀(i j:Int) (t u:Tok) (s:LC) (Q:Lz->LC->Prop) (E:Lz->LC->Prop),Q (.bool<|g i j) s->LU (model X.prog X.w) X.A (f (.int i t)<|.int j u) Q E s) :
  OpR X f (rI0 λi j=>.bl<|g i j):=by
 intro pins s σ H x y v u Q I rx ry h;obtain⟨i,j,rfl,rfl,q⟩:=h;obtain⟨t,rfl⟩:=rx;obtain⟨t',rfl⟩:=ry;exact rule i j t t' s _ _ ⟨.bl<|g i j,H,I,rfl,q⟩
def Cz (i j:Int):Prop:=0<j/\j<1073741824
def vp (i j:Int):Prop:=0<=j/\j<=1000000/\i.natAbs<2 ^ 64
def um (i j:Int):Prop:=(-(2 ^ 64)<i/\i<2 ^ 64)\/(-(2 ^ 64)<j/\j<2 ^ 64)
def um.ok {i j:Int}(h:um i j):IntMulOk i j:=by
 rcases h with ⟨h1,h2⟩ | ⟨h1,h2⟩
 .exact .of_left<|intBits_le_64 h1 h2
 .exact .of_right<|intBits_le_64 h1 h2
def aF:OpR X (binaryOp .Add) (rI0 λi j=>.int<|i+j):=AA λ_ _ _ _ _ _ _ q=>add_int q
def yF:OpR X (binaryOp .Sub) (rI0 λi j=>.int<|i-j):=AA λ_ _ _ _ _ _ _ q=>sub_int q
def aA:OpR X (binaryOp .Mult) (rI um λi j=>.int<|i*j):=opI λ_ _ _ _ _ _ _ hc q=>mul_int q hc.ok
def gn:OpR X (binaryOp .FloorDiv) (rI Cz λi j=>.int<|i / j):=opI λi j _ _ _ _ _ hc q=>by
 have h1:(0:Int)<j:=hc.1;have h2:j<1073741824:=hc.2;exact floordiv_int (by omega) (by rw[Int.fdiv_eq_ediv_of_nonneg i<|by omega];exact q) (.inl<|PyProof.noPylong_small<|by omega)
def Y1:OpR X (binaryOp .Mod) (rI (λ_ j=>0<j) λi j=>.int<|i % j):=opI λi j _ _ _ _ _ hc q=>by
 have h1:(0:Int)<j:=hc;exact mod_int' (by omega) (by rw[Int.fmod_eq_emod_of_nonneg i<|by omega];exact q)
def qJ:OpR X (binaryOp .Pow) (rI vp λi j=>.int<|i ^ j.toNat):=opI λ_ _ _ _ _ _ _ hc q=>pow_int_small hc.1 hc.2.1 hc.2.2 q
def unI {f:Lz->Sem Lz}{g:Int->Int}
  (rule:∀(i:Int) (t:Tok) (s:LC) (Q:Lz->LC->Prop) (E:Lz->LC->Prop),Q (.int (g i) s.toks) { s with toks:=s.toks+1 }->LU (model X.prog X.w) X.A (f<|.int i t) Q E s) :
  UnR X f (rU λi=>.int<|g i):=by
 intro pins s σ H x v Q I rx h;obtain⟨i,rfl,q⟩:=h;obtain⟨t,rfl⟩:=rx;exact rule i t s _ _ ⟨.int<|g i,H,I.tok _,⟨_,rfl⟩,q⟩
def kJ:UnR X (unaryOp .USub) (rU λi=>.int (-i)):=unI λ_ _ _ _ _ q=>neg_int q
end
def Bc:V->V->Bool
 | .non,.non=>true | .non,.int _=>true | .int _,.non=>true | .non,.bl _=>true | .bl _,.non=>true | .non,.str _=>true | .str _,.non=>true
 | .int _,.int _=>true | .bl _,.bl _=>true | .str _,.str _=>true | .byt _,.byt _=>true
 | .int _,.str _=>true | .str _,.int _=>true | .bl _,.str _=>true | .str _,.bl _=>true
 | _,_=>false
def rEq:R2:=λx y H Q=>Bc x y=true/\Q (.bl<|decide (x=y)) H
def rNe:R2:=λx y H Q=>Bc x y=true/\Q (.bl (!decide (x=y))) H
def nz {i j:Int}:decide (V.int i=V.int j)=(i == j):=by
 rw[KF];simp
def uF {i j:Bool}:decide (V.bl i=V.bl j)=(i == j):=by
 rw[KF];simp
def om {i j:Str}:decide (V.str i=V.str j)=(i == j):=by
 rw[KF];simp
def mZ {i j:Array UInt8}:decide (V.byt i=V.byt j)=(i.toList == j.toList):=by
 rw[KF];cases i;cases j;simp
section
variable {X:Cx}{a b c:LK}{ta tb tc:TE}{pos:Pos}
def m5 {pins:List (LA×LO)}{σ:St}{H:Hp}{s:LC}{Q:VK}{k k':Bool}(I:Inv X pins σ H s)(q:Q (.bl k) H)(e:k=k'):EP X pins σ Q (.bool k') s:=by
 subst e;exact⟨.bl k,H,I,rfl,q⟩
def BF:OpR X (compareOp .Eq) rEq:=by
 intro pins s σ H x y v u Q I rx ry h;obtain⟨hs,q⟩:=h;cases x with
 | non =>
  cases rx;cases y with
  | non=>cases ry;exact PySem.EqNone.eq_none_none (m5 I q<|by simp)
  | bl j=>cases ry;exact PySem.EqNone.eq_none_bool (m5 I q<|by simp)
  | int j=>obtain⟨t',rfl⟩:=ry;exact PySem.EqNone.eq_none_int (m5 I q<|by simp)
  | str j=>obtain⟨t',rfl⟩:=ry;exact PySem.EqNone.eq_none_str (m5 I q<|by simp)
  | _=>exact absurd (show false=true from hs) GQ
 | bl i =>
  cases rx;cases y with
  | non=>cases ry;exact PySem.EqNone.eq_bool_none (m5 I q<|by simp)
  | bl j=>cases ry;exact eq_bool<|m5 I q uF
  | str j=>obtain⟨t',rfl⟩:=ry;exact PySem.EqMixed.eq_bool_str (m5 I q<|by simp)
  | _=>exact absurd (show false=true from hs) GQ
 | int i =>
  obtain⟨t,rfl⟩:=rx;cases y with
  | non=>cases ry;exact PySem.EqNone.eq_int_none (m5 I q<|by simp)
  | int j=>obtain⟨t',rfl⟩:=ry;exact eq_int<|m5 I q nz
  | str j=>obtain⟨t',rfl⟩:=ry;exact PySem.EqMixed.eq_int_str (m5 I q<|by simp)
  | _=>exact absurd (show false=true from hs) GQ
 | str i =>
  obtain⟨t,rfl⟩:=rx;cases y with
  | non=>cases ry;exact PySem.EqNone.eq_str_none (m5 I q<|by simp)
  | bl j=>cases ry;exact PySem.EqMixed.eq_str_bool (m5 I q<|by simp)
  | int j=>obtain⟨t',rfl⟩:=ry;exact PySem.EqMixed.eq_str_int (m5 I q<|by simp)
  | str j=>obtain⟨t',rfl⟩:=ry;exact eq_str<|m5 I q om
  | _=>exact absurd (show false=true from hs) GQ
 | byt i =>
  obtain⟨t,rfl⟩:=rx;cases y with
  | byt j=>obtain⟨t',rfl⟩:=ry;exact PySem.W.eq_bytes<|m5 I q mZ
  | _=>exact absurd (show false=true from hs) GQ
 | _=>cases y <;> exact absurd (show false=true from hs) GQ
def AV:OpR X (compareOp .NotEq) rNe:=by
 intro pins s σ H x y v u Q I rx ry h;obtain⟨hs,q⟩:=h;cases x with
 | non =>
  cases rx;cases y with
  | non=>cases ry;exact PySem.EqNone.ne_none_none (m5 I q<|by simp)
  | bl j=>cases ry;exact PySem.EqNone.ne_none_bool (m5 I q<|by simp)
  | int j=>obtain⟨t',rfl⟩:=ry;exact PySem.EqNone.ne_none_int (m5 I q<|by simp)
  | str j=>obtain⟨t',rfl⟩:=ry;exact PySem.EqNone.ne_none_str (m5 I q<|by simp)
  | _=>exact absurd (show false=true from hs) GQ
 | bl i =>
  cases rx;cases y with
  | non=>cases ry;exact PySem.EqNone.ne_bool_none (m5 I q<|by simp)
  | bl j=>cases ry;exact ne_bool<|m5 I q<|HJ not uF
  | str j=>obtain⟨t',rfl⟩:=ry;exact PySem.EqMixed.ne_bool_str (m5 I q<|by simp)
  | _=>exact absurd (show false=true from hs) GQ
 | int i =>
  obtain⟨t,rfl⟩:=rx;cases y with
  | non=>cases ry;exact PySem.EqNone.ne_int_none (m5 I q<|by simp)
  | int j=>obtain⟨t',rfl⟩:=ry;exact ne_int<|m5 I q<|HJ not nz
  | str j=>obtain⟨t',rfl⟩:=ry;exact PySem.EqMixed.ne_int_str (m5 I q<|by simp)
  | _=>exact absurd (show false=true from hs) GQ
 | str i =>
  obtain⟨t,rfl⟩:=rx;cases y with
  | non=>cases ry;exact PySem.EqNone.ne_str_none (m5 I q<|by simp)
  | bl j=>cases ry;exact PySem.EqMixed.ne_str_bool (m5 I q<|by simp)
  | int j=>obtain⟨t',rfl⟩:=ry;exact PySem.EqMixed.ne_str_int (m5 I q<|by simp)
  | str j=>obtain⟨t',rfl⟩:=ry;exact ne_str<|m5 I q<|HJ not om
  | _=>exact absurd (show false=true from hs) GQ
 | byt i =>
  obtain⟨t,rfl⟩:=rx;cases y with
  | byt j=>obtain⟨t',rfl⟩:=ry;exact PySem.W.ne_bytes<|m5 I q<|HJ not mZ
  | _=>exact absurd (show false=true from hs) GQ
 | _=>cases y <;> exact absurd (show false=true from hs) GQ
def xE:OpR X (compareOp .Lt) (rI0 λi j=>.bl<|decide (i<j)):=Av λ_ _ _ _ _ _ _ q=>lt_int q
def xD:OpR X (compareOp .Gt) (rI0 λi j=>.bl<|decide (j<i)):=Av λ_ _ _ _ _ _ _ q=>gt_int q
def AI:OpR X (compareOp .GtE) (rI0 λi j=>.bl<|decide (j<=i)):=Av λ_ _ _ _ _ _ _ q=>ge_int q
def Ad:OpR X (compareOp .Is) (λx y H Q=>y = .non/\Q (.bl<|decide (x = .non)) H):=by
 intro pins s σ H x y v u Q I rx ry h;obtain⟨rfl,q⟩:=h;cases ry;refine is_none_gen<|m5 I q ?_;cases x <;> first
  | (cases rx;rfl)
  | (obtain⟨t,rfl⟩:=rx;rfl)
def bJ (b:LK){op:CmpOp}(h:op ≠ .In:=by decide)(h2:op ≠ .NotIn:=by decide):behindInMarks op b=false:=by
 have e1:(op == CmpOp.In)=false:=by cases op <;> first | rfl | exact absurd rfl h
 have e2:(op == CmpOp.NotIn)=false:=by cases op <;> first | rfl | exact absurd rfl h2
 cases b <;> simp[behindInMarks,e1,e2]
def xf {op:CmpOp}{r:R2}(ho:OpR X (compareOp op) r)(ha:PE X a ta)(hb:PE X b tb)(hm:behindInMarks op b=false):PE X (.Compare a [op] [b] pos) (tOp r ta tb):=by
 intro pins s σ H Q I h;exact wpAny_Compare1 (As ha hb I h λv u s2 x y H2 I2 rx ry q=>ho pins s2 σ H2 x y v u Q I2 rx ry q) hm
def xC (t:TE):TT:=λσ H Q=>t σ H λx H'=>∃k,x = .bl k/\Q k H'
def aZ {op:CmpOp}{r:R2}(ho:OpR X (compareOp op) r)(ha:PE X a ta)(hb:PE X b tb)(hm:behindInMarks op b=false):PT X (.Compare a [op] [b] pos) (xC<|tOp r ta tb):=by
 intro pins s σ H Q I h;refine wpAny_isTrue_Compare1 (thn (ha pins s σ H _ I h) λv s1 ⟨x,H1,I1,r1,q1⟩=>thn (hb pins s1 σ H1 _ I1 q1) λu s2 ⟨y,H2,I2,r2,q2⟩ =>
  thn (ho pins s2 σ H2 x y v u _ I2 r1 r2 q2) λc s3 ⟨z,H3,I3,r3,k,e,q3⟩=>?_) hm
 subst e;cases r3;exact IV ⟨H3,I3,q3⟩
def sX (K:Fg)(x:V)(H:Hp)(k:Bool):Prop :=
 match x with
 | .non=>k=false
 | .bl b=>k=b
 | .int i=>k=(i != 0)
 | .str y=>y.length<=LM/\k=((y.length:Int) != 0)
 | .byt y=>y.size<=LM/\k=((y.size:Int) != 0)
 | .ref p=>(∃xs,SqL K H p xs/\k = !xs.isEmpty)\/(∃xs,SqT K H p xs/\k = !xs.isEmpty)\/∃kvs,H p=some (.dK kvs)/\k = !kvs.isEmpty
 | _=>False
def kF {κ:Type}{kvs:List (κ×V)}{vs:List (κ×Lz)}(r:KV kvs vs):(!vs.isEmpty) = !kvs.isEmpty:=by
 cases r <;> rfl
def fj {xs:List V}{its:List Lz}(r:j6 xs its):(!its.toArray.isEmpty) = !xs.isEmpty:=by
 cases r <;> simp
def aE:(LM:Nat)<2 ^ 63:=by rw[Hl];decide
def yL:Ct X (λx H Q=>∃k,sX X.K x H k/\Q k H):=by
 intro pins s σ H x v Q I rx h;obtain⟨k,e,q⟩:=h;have hl:=aE;have hs:LM=16777216:=Hl;cases x with
 | non =>
  cases rx;have e':k=false:=e;subst e';exact truthy_none ⟨H,I,q⟩
 | bl b =>
  cases rx;have e':k=b:=e;subst e';exact IV ⟨H,I,q⟩
 | int i =>
  obtain⟨t,rfl⟩:=rx;have e':k=(i != 0):=e;subst e';exact PySem.P.truthy_int ⟨H,I,q⟩
 | str y =>
  obtain⟨t,rfl⟩:=rx;obtain⟨hy,e'⟩:y.length<=LM/\k=((y.length:Int) != 0):=e;subst e';exact PySem.P.truthy_str (by omega) ⟨H,I.tok _,q⟩
 | byt y =>
  obtain⟨t,rfl⟩:=rx;obtain⟨hy,e'⟩:y.size<=LM/\k=((y.size:Int) != 0):=e;subst e';exact PySem.W.truthy_bytes (by omega) ⟨H,I.tok _,q⟩
 | ref p =>
  cases rx;have e':(∃xs,SqL X.K H p xs/\k = !xs.isEmpty)\/(∃xs,SqT X.K H p xs/\k = !xs.isEmpty)\/∃kvs,H p=some (.dK kvs)/\k = !kvs.isEmpty:=e;rcases e' with ⟨xs,hx,e'⟩ | ⟨xs,hx,e'⟩ | ⟨kvs,hx,e'⟩
  .subst e';obtain⟨its,r,pl,hz⟩:=I.list hx;have hlen:=r.length;exact wpAny_truthy_list pl.isList (by simp only[Gw];omega) ⟨H,I.tok _,by rw[fj r];exact q⟩
  .subst e';obtain⟨its,r,pl,hz⟩:=I.tuple hx;have hlen:=r.length;exact truthy_tuple pl (by simp only[Gw];omega) ⟨H,I.tok _,by rw[fj r];exact q⟩
  .subst e';obtain⟨hz,hS,vs,r,m⟩:kvs.length<=LM/\(p == sysModules)=false/\∃vs,KV kvs vs/\s.heap.DictOf (m8 X.prog X.w) p vs:=I.hok p _ hx;have hlen:kvs.length=vs.length:=Paired.length r;exact wpAny_truthy_dict hS m (by omega) ⟨H,I.tok _,by rw[kF r];exact q⟩
 | _=>exact(show False from e).elim
def uI (ha:PE X a ta)(he:∀whole,isTrue a X.env whole=(do let v <-whole;standAt a.pos;holding [v] (truthy v))) :
  PT X a (λσ H Q=>ta σ H λx H'=>∃k,sX X.K x H' k/\Q k H'):=by
 intro pins s σ H Q I h;exact isTrue_plain (thn (ha pins s σ H _ I h) λv s1 ⟨x,H1,I1,r1,q1⟩=>yL pins s1 σ H1 x v Q I1 r1 q1)<|he _
def mz:OpR X (binaryOp .Add) (λx y H Q=>∃i j,x = .str i/\y = .str j/\i.length+j.length<=LM/\Q (.str<|i++j) H):=by
 intro pins s σ H x y v u Q I rx ry h;obtain⟨i,j,rfl,rfl,hz,q⟩:=h;obtain⟨t,rfl⟩:=rx;obtain⟨t',rfl⟩:=ry;exact add_str (λt' tk=>⟨.str<|i++j,H,I.tok _,⟨_,rfl⟩,q⟩) hz
def Y6 {x:V}{us:List Lz}(r:j6 [x] us):∃u,us=[u]/\m7 x u:=by
 cases r with
 | cons r1 r2=>cases r2;exact⟨_,rfl,r1⟩
def Ca {x y:V}{us:List Lz}(r:j6 [x,y] us):∃u w',us=[u,w']/\m7 x u/\m7 y w':=by
 cases r with
 | cons r1 r2 =>
  cases r2 with
  | cons r3 r4=>cases r4;exact⟨_,_,rfl,r1,r3⟩
def qf (hc:X.calm=true):E7 X (.builtin "max") (λxs H Q=>∃i j,xs=[.int i,.int j]/\Q (.int<|if j > i then j else i) H):=by
 intro pins s σ H xs us Q I r h;obtain⟨i,j,rfl,q⟩:=h;obtain⟨u,w',rfl,⟨t,rfl⟩,⟨t',rfl⟩⟩:=Ca r;refine max_two_ints (I.ok.hd hc) λh' tk k=>⟨_,H,I.kept k,?_,q⟩
 by_cases hj:j > i
 .rw[Gp hj,Gp hj];exact⟨_,rfl⟩
 .rw[Gr hj,Gr hj];exact⟨_,rfl⟩
end
end
section
structure Room (k:Nat) (A:LG):Prop where
 hd:A.handled=none
 dp:A.depth+3*k+5<recursionLimit
 un:A.units+16*k+200<Mc
 gd:A.guards=some []
def Room.mono {j k:Nat}{A:LG}(r:Room k A)(h:j<=k):Room j A:=⟨r.hd,by have:=r.dp;omega,by have:=r.un;omega,r.gd⟩
def Room.deeper {k:Nat}{A:LG}(r:Room (k+1) A)(env:LQ):Room k (A.deeper env) :=
 ⟨r.hd,by have:=r.dp;show A.depth+1+3*k+5<_;omega,by have:=r.un;show A.units+3+16*k+200<_;omega,r.gd⟩
def Room.depth {k:Nat}{A:LG}(r:Room k A):A.depth<recursionLimit:=by have:=r.dp;omega
def Room.units {k:Nat}{A:LG}(r:Room k A):A.units+64<Mc:=by have:=r.un;omega
def N4:TA:=λ_ H Q=>Q [] H
def u8 (ta:TE)(tr:TA):TA:=λσ H Q=>ta σ H λx H1=>tr σ H1 λxs H2=>Q (x::xs) H2
section
variable {X:Cx}{e:LK}{es:List LK}{te:TE}{t:TA}{pos:Pos}
def v6:PA X [] N4:=λ_ _ _ _ H Q I h=>Calls.spliced_nil ⟨[],H,I,.nil,h⟩
def k9 (ha:PE X e te)(hr:PA X es t)(hs:LN (e::es) X.env=(false,eval e X.env)::LN es X.env:=by rfl):PA X (e::es) (u8 te t):=by
 intro pos pins s σ H Q I h;rw[hs];show LU _ _ (spliced ((false,eval e X.env)::LR pos (LN es X.env))) _ _ s;refine La (thn (ha pins s σ H _ I h) λu s1 ⟨x,H1,I1,r1,q1⟩=>?_);exact thn (hr pos pins s1 σ H1 _ I1 q1) λus s2 ⟨xs,H2,I2,r2,q2⟩=>⟨x::xs,H2,I2,.cons r1 r2,q2⟩
def xt (t:TA):TE:=λσ H Q=>t σ H λxs H1=>xs.length<=LM/\∀p,H1 p=none->Q (.ref p) (upd H1 p<|.tup xs)
def ou (t:TA):TE:=λσ H Q=>t σ H λxs H1=>xs.length<=LM/\∀p,H1 p=none->Q (.ref p) (upd H1 p<|.lst xs)
def mj {x1}(h:PA X es t):PE X (.Tuple es x1 pos) (xt t):=by
 intro pins s σ H Q I hq;refine wpAny_Tuple_spliced (thn (h pos pins s σ H _ I hq) λus s1 ⟨xs,H1,I1,r,z,q⟩=>⟨by rw[<-r.length];exact z,?_⟩);have hf:H1 s1.heap.objs.size=none:=I1.hok.fresh<|Gs _;refine⟨.ref s1.heap.objs.size,upd H1 s1.heap.objs.size<|.tup xs,I1.laid (t':=s1.toks) (λb u e=>Gj _ e) (Gs _) ?_,rfl,q _ hf⟩;exact⟨z,us,r,⟨_,GN _ rfl,rfl,_,rfl⟩⟩
def bL (h:PA X es t):PE X (.List es pos) (ou t):=by
 intro pins s σ H Q I hq;refine wpAny_List_spliced (thn (h pos pins s σ H _ I hq) λus s1 ⟨xs,H1,I1,r,z,q⟩=>⟨by rw[<-r.length];exact z,?_⟩);have hf:H1 s1.heap.objs.size=none:=I1.hok.fresh<|Gs _;refine⟨.ref s1.heap.objs.size,upd H1 s1.heap.objs.size<|.lst xs,I1.laid (t':=s1.toks) (λb u e=>Gj _ e) (Gs _) ?_,rfl,q _ hf⟩;exact⟨z,us,0,r,GN _ rfl⟩
end
abbrev Sp:=List V->Hp->VK->XK->Prop
abbrev CXT:=List LQ->Hp->LC->XK->Lz->LC->Prop
structure Env0 (P:LD) (w:LF) (K:Fg) (mg:Str->Option Lz) (base:LL) (A:LG) (outer:List LQ) (s:LC) (H:Hp):Prop where
 frames:A.frames=some outer
 mod:Mod K mg base
 bs:∀b o,base.get? b=some o->s.heap.get? b=some o/\H b=none
 bsz:base.objs.size<=s.heap.objs.size
 funs:s.heap.FunFrames base outer
 frf:∀b∈frs outer,H b=none
 hok:HOk P w H s.heap
 bare:AllBare s.gens
def CE (outer:List LQ)(P:LD)(w:LF)(H:Hp)(s:LC)(Q:VK)(u:Lz)(s':LC):Prop :=
 ∃v H',s'.os=s.os/\AllBare s'.gens/\Un (frs outer) [] H H' s.heap s'.heap/\HOk P w H' s'.heap/\m7 v u/\Q v H'
def CR (CX:CXT)(outer:List LQ)(P:LD)(w:LF)(H:Hp)(s:LC)(Q:VK)(E:XK)(r:Result)(s':LC):Prop :=
 match r with
 | .ok (.ret u)=>CE outer P w H s Q u s'
 | .ok _=>False
 | .error e=>CX outer H s E e s'
structure FnOk (P:LD) (w:LF) (K:Fg) (mg:Str->Option Lz) (base:LL) (CX:CXT) (k:Nat) (f:LA) (fd:LI) (ps:List Str) (sp:Sp):Prop where
 len:∀vs H Q E,sp vs H Q E->vs.length=ps.length
 run:∀(A:LG) (outer:List LQ) (s:LC) (H:Hp) (args:Args) (us:List Lz) (vs:List V) (Q:VK) (E:XK),Room k A->Env0 P w K mg base A outer s H->BindsTo s fd args (ps.zip us)->j6 vs us->sp vs H Q E ->
  codeAny (model P w) A (.call (.ref f) args) (CR CX outer P w H s Q E) s
section
variable {X:Cx}{pins:List (LA×LO)}{σ:St}{H:Hp}{s s':LC}
def Inv.env0 (I:Inv X pins σ H s):Env0 X.prog X.w X.K X.mg X.base X.A X.stack s H :=
 ⟨I.ok.frames,I.ok.mod,I.bs,He I.ok.bsz I.sz,I.stack,I.stkFree,I.hok,I.bare⟩
def Inv.after {Q:VK}{u:Lz}(I:Inv X pins σ H s)(h:CE X.stack X.prog X.w H s Q u s'):EP X pins σ Q u s':=by
 obtain⟨v,H',os,bare,un,hok,r,q⟩:=h;obtain⟨hh,g,d,t,os'⟩:=s';obtain rfl:os'=s.os:=os;exact⟨v,H',I.call (h':=hh) (g':=g) (d':=d) (t':=t) (ch:=[]) un hok bare<|λb z=>absurd z<|by simp,r,q⟩
end
def gk (sp:Sp)(dvs:List V)(E:XK)(t:TA):TE:=λσ H Q=>t σ H λvs H1=>sp (vs++dvs) H1 Q E
def cR (K:Fg)(fd:LI)(ps:List Str)(ds:List Lz):Prop :=
 ∀(s:LC) (us:List Lz),K.In s.heap->(us++ds).length=ps.length->BindsTo s fd ⟨us,[]⟩ (ps.zip<|us++ds)
def cR.all {K:Fg}{fd:LI}{ps:List Str}(h:∀us:List Lz,us.length=ps.length->bindArgs fd ⟨us,[]⟩=pure (ps.zip us)):cR K fd ps []:=λs us _ hl=>by
 rw[HE]at hl ⊢;exact .of_eq<|h us hl
def lX (CX:CXT)(X:Cx)(E:XK):Prop:=∀(pins:List (LA×LO)) (σ:St) (H:Hp) (s:LC) (e:Lz) (s':LC),Inv X pins σ H s->CX X.stack H s E e s'->X.xe e s'
section
variable {X:Cx}{CX:CXT}{k:Nat}{f C:LA}{fd:LI}{ps:List Str}{sp:Sp}{dvs:List V}{ds:List Lz}{E:XK}{x m:Str}{p pos apos:Pos}{e o:LK}{es:List LK}{ta:TE}{t:TA}
def Ae {pins:List (LA×LO)}{σ:St}{H:Hp}{s:LC}{Q:VK}{us:List Lz}{vs:List V}(F:FnOk X.prog X.w X.K X.mg X.base CX k f fd ps sp)(hr:Room k X.A)(hb:cR X.K fd ps ds)(hd:j6 dvs ds)(hx:lX CX X E)
  (I:Inv X pins σ H s) (r:j6 vs us) (h:sp (vs++dvs) H Q E):LU (model X.prog X.w) X.A (call (.ref f) us) (EP X pins σ Q) X.xe s:=by
 have r2:j6 (vs++dvs) (us++ds):=r.append hd;have hl:(us++ds).length=ps.length:=by rw[<-r2.length];exact F.len _ _ _ _ h
 refine wpAny_call (codeAny_mono (F.run X.A X.stack s H ⟨us,[]⟩ (us++ds) (vs++dvs) Q E hr I.env0 (hb s us I.kIn hl) r2 h) λr s' hq=>?_);cases r with
 | error e=>exact hx pins σ H s e s' I hq
 | ok fl =>
  cases fl with
  | ret u=>exact I.after hq
  | next=>exact False.elim hq
  | brk=>exact False.elim hq
  | cont=>exact False.elim hq
def wJ (F:FnOk X.prog X.w X.K X.mg X.base CX k f fd ps sp)(hr:Room k X.A)(hg:Gl X x)(hm:X.mg x=some (.ref f))(hk:PySem.W.keepIn X.K (.ref f)=true)(hb:cR X.K fd ps ds)(hd:j6 dvs ds)(hx:lX CX X E)
  (ha:PA X (e::es) t) (hdb:(x == ("__debug__":Str))=false:=by decide) (he:LN (e::es) X.env=(false,eval e X.env)::LN es X.env:=by rfl) (hpl:(LR pos<|LN es X.env).any (·.1)=false:=by rfl) :
  PE X (.Call (.Name x p) (e::es) [] pos) (gk sp dvs E t):=by
 intro pins s σ H Q I h;refine Kb<|mK I hg hm ?_ hdb;refine PySem.W.callWith_K (h₀:=X.base) I.ok.mod.kin hk (thn (ha pos pins s σ H _ I h) λus s1 ⟨vs,H1,I1,r,q⟩=>⟨I1.kIn,?_⟩) he hpl;exact Ae F hr hb hd hx I1 r q
end
structure FnScope (N P:List Str) (sc:LH):Prop where
 kind:sc.kind = .function:=by rfl
 co:sc.isCoroutine=false:=by rfl
 gen:sc.isGenerator=false:=by rfl
 nd:N.Nodup:=by decide +kernel
 pre:N.take P.length=P:=by rfl
 par:∀x∈P,sc.names.lookup x=some .local\/sc.names.lookup x=some .cell:=by decide +kernel
 nofree:∀y∈sc.names,y.2 ≠ .free:=by decide +kernel
theorem gh {kindOf:Str->Option Me}{x:Str}:∀{binds:List (Str×Lz)} {m:Str->Option Lz},(∀v,(x,v) ∉ binds)->bindL kindOf binds m x=m x
 | [],_,_=>rfl
 | (n,v)::r,m,h=>by
  unfold bindL;rw[gh λw hw=>h w<|Gq _ hw];split
  .have:x≠n:=by rintro rfl;exact h v Gx
   simp[this]
  .rfl
theorem gc {kindOf:Str->Option Me}{x:Str}:∀{binds:List (Str×Lz)} {m:Str->Option Lz},(∀v,(x,v) ∉ binds)->bindC kindOf binds m x=m x
 | [],_,_=>rfl
 | (n,v)::r,m,h=>by
  unfold bindC;rw[gc λw hw=>h w<|Gq _ hw];split
  .rfl
  .have:x≠n:=by rintro rfl;exact h v Gx
   simp[this]
def fJ {kindOf:Str->Option Me}{x:Str}{v:Lz}:∀{P:List Str} {vs:List Lz} {i:Nat} {m:Str->Option Lz},P.Nodup->P[i]? = some x->vs[i]? = some v->kindOf x=some .local ->
  bindL kindOf (P.zip vs) m x=some v
 | [],_,_,_,_,h,_,_=>by simp at h
 | _::_,[],_,_,_,_,h,_=>by simp at h
 | p::P,w::vs,0,m,nd,h1,h2,hk=>by
  simp at h1 h2;subst h1;subst h2;show bindL kindOf ((p,w)::P.zip vs) m p=_;unfold bindL;rw[gh λv hv=>(IJ.1 nd).1 (Lv hv).1,Gp hk];simp
 | p::P,w::vs,i+1,m,nd,h1,h2,hk=>by
  show bindL kindOf ((p,w)::P.zip vs) m x=_;unfold bindL;exact fJ (i:=i) (IJ.1 nd).2 (by simpa using h1) (by simpa using h2) hk
def fU {kindOf:Str->Option Me}{x:Str}{v:Lz}:∀{P:List Str} {vs:List Lz} {i:Nat} {m:Str->Option Lz},P.Nodup->P[i]? = some x->vs[i]? = some v->kindOf x≠some .local ->
  bindC kindOf (P.zip vs) m x=some v
 | [],_,_,_,_,h,_,_=>by simp at h
 | _::_,[],_,_,_,_,h,_=>by simp at h
 | p::P,w::vs,0,m,nd,h1,h2,hk=>by
  simp at h1 h2;subst h1;subst h2;show bindC kindOf ((p,w)::P.zip vs) m p=_;unfold bindC;rw[gc λv hv=>(IJ.1 nd).1 (Lv hv).1,Gr hk];simp
 | p::P,w::vs,i+1,m,nd,h1,h2,hk=>by
  show bindC kindOf ((p,w)::P.zip vs) m x=_;unfold bindC;exact fU (i:=i) (IJ.1 nd).2 (by simpa using h1) (by simpa using h2) hk
def P1 (N:List Str)(vs:List V):St:=vs.map some++List.replicate (N.length-vs.length) none
def Q9 (CX:CXT)(P:LD)(w:LF)(K:Fg)(mg:Str->Option Lz)(base:LL)(N:List Str)(qual:Str)(scope:LH)(f:LA)(cd:Lz)(A:LG)(outer:List LQ)(s:LC)(H:Hp)(E:XK):Cx where
 prog:=P
 w:=w
 K:=K
 mg:=mg
 base:=base
 A:=A.deeper<|envOfC qual scope s.heap.objs.size f cd
 N:=N
 s₀:=s
 H₀:=H
 env:=envOfC qual scope s.heap.objs.size f cd
 outer:=outer
 stack:=envOfC qual scope s.heap.objs.size f cd::outer
 ex:=[]
 calm:=true
 fn:=λ_=>true
 pn:=[]
 xe:=λe s'=>LU (model P w) (A.deeper<|envOfC qual scope s.heap.objs.size f cd) (leaving (envOfC qual scope s.heap.objs.size f cd) e) (λ_ s''=>CX outer H s E e s'') (λe' s''=>CX outer H s E e' s'') s'
def jR {sc:LH}{n:Nat}{x:Str}(h:sc.names.lookup x=some .cell):∃c,(cellsFrom n sc.names []).lookup x=some c:=by
 have q:=Jy sc.names n []<|.inl h;exact Jo.1 q
def oH {CX:CXT}{P:LD}{w:LF}{K:Fg}{mg:Str->Option Lz}{base:LL}{N ps:List Str}{qual:Str}{scope:LH}{f:LA}{cd:Lz}{A:LG}{outer:List LQ}{s s1:LC}{H:Hp}{E:XK}{us:List Lz}{vs:List V}
  (S:FnScope N ps scope) (hd:A.handled=none) (e0:Env0 P w K mg base A outer s H) (hl:vs.length=ps.length) (r:j6 vs us)
  (x:InCallC s s.heap.objs.size (bindL (envOfC qual scope s.heap.objs.size f cd).kindOf (ps.zip us) λ_=>none) (cellsFrom (s.heap.objs.size+1) scope.names []) (bindC (envOfC qual scope s.heap.objs.size f cd).kindOf (ps.zip us) λ_=>none) s1) :
  Inv (Q9 CX P w K mg base N qual scope f cd A outer s H E) [] (P1 N vs) H s1:=by
 have hpl:ps.length<=N.length:=by have:=HJ List.length S.pre;rw[Ij]at this;omega
 obtain⟨h1,tk,rfl,hk⟩:=x.done;have noA:∀b:LA,b ∉ (Q9 CX P w K mg base N qual scope f cd A outer s H E).ex:=λb z=>absurd (show b∈([]:List LA) from z) (by simp)
 refine⟨⟨e0.mod,S.kind,rfl,rfl,Gs _,λy z c h1 h2=>?_,λy hy=>?_,λy c _ h=>?_,λ_=>hd,LG.frames_deeper e0.frames,.inr ⟨rfl,rfl⟩,λb z=>absurd z<|noA b,e0.bs,e0.bsz,λb _ _=>noA b,λb z=>absurd z<|noA b,e0.funs,e0.frf⟩,
  rfl,e0.bare,Un.kept hk,⟨_,x.toInCall.ns,λi y v h1 h2 h3=>?_⟩,λy c h=>⟨_,x.cell y c h⟩,e0.hok.fresh<|Gs _,λy c h=>?_,λp hp=>absurd (show p∈([]:List (LA×LO)) from hp) (by simp),e0.hok.kept hk,?_⟩
 .exact name_of_addr x.apart (Hs h1)<|Hs h2
 .have hy:scope.names.lookup y=some .cell\/scope.names.lookup y=some .free:=hy;rcases hy with hy | hy
  .exact jR hy
  .exact absurd rfl<|S.nofree _<|Hs hy
 .exact Ii<|x.above y c<|Hs h
 .have hi:i<vs.length:=by
   unfold P1 at h2;by_cases hi:i<vs.length
   .exact hi
   .rw[HV<|by simpa using hi]at h2;rw[HW]at h2;split at h2 <;> cases h2
  have ha:vs[i]? = some v:=by
   unfold P1 at h2;rw[ID (by simpa using hi),GC]at h2;cases e:vs[i]? with
   | none=>rw[e]at h2;cases h2
   | some a=>rw[e]at h2;cases h2;rfl
  obtain⟨u,hu,rv⟩:=r.get ha;have hp:ps[i]? = some y:=by
   rw[<-S.pre,List.getElem?_take_of_lt<|by omega];exact h1
  have ndP:ps.Nodup:=by rw[<-S.pre];exact S.nd.sublist<|List.take_sublist _ _
  refine⟨u,rv,?_⟩;rcases S.par y (HF hp) with k | k
  .exact .inl ⟨k,fJ ndP hp hu k⟩
  .obtain⟨c,e⟩:=jR (n:=s.heap.objs.size+1) k;refine .inr ⟨.inl k,c,e,?_⟩;have q:=x.cell y c e;rw[fU ndP hp hu (by show scope.names.lookup y≠_;rw[k];decide)]at q;exact q
 .exact e0.hok.fresh<|Ii<|x.above y c<|Hs h
 .unfold P1;show _=N.length;rw[Hm,Gi,IG];omega
def xT {CX:CXT}{P:LD}{w:LF}{K:Fg}{mg:Str->Option Lz}{base:LL}{k:Nat}{f:LA}{name qual:Str}{params:Arguments}{body:List LJ}{scope:LH}{dV kV doc pm cdv ct oc:Lz}{an od:Option LA}
  {osl:Array (Option Lz)} {N ps:List Str} {sp:Sp} (lk:K.lookup f=some ⟨oc,od,.func<|PySem.W.fnOf name qual params body scope dV kV doc pm an cdv ct,osl⟩) (hcd:PySem.W.codeIn K cdv qual=true) (S:FnScope N ps scope)
  (len:∀vs H Q E,sp vs H Q E->vs.length=ps.length)
  (hbody:∀(A:LG) (outer:List LQ) (s:LC) (H:Hp) (vs:List V) (Q:VK) (E:XK),Room k (A.deeper<|envOfC qual scope s.heap.objs.size f cdv)->sp vs H Q E ->
   ∃t,PSs (Q9 CX P w K mg base N qual scope f cdv A outer s H E) body t/\t { nx:=λ_ H'=>Q .non H',rt:=Q } (P1 N vs) H) :
  FnOk P w K mg base CX (k+1) f (PySem.W.fnOf name qual params body scope dV kV doc pm an cdv ct) ps sp:=by
 refine⟨len,λA outer s H args us vs Q E hr e0 hb r hsp=>?_⟩;have hl:=len _ _ _ _ hsp;have KX:K.In s.heap:=e0.mod.kin.keeps λb o e=>(e0.bs b o e).1
 have lim:s.heap.NoLimit:=e0.mod.nolimit.keeps λb o e=>(e0.bs b o e).1
 have hkind:∀y∈ps.zip us,scope.names.lookup y.1=some .local\/(scope.names.lookup y.1=some .cell/\((cellsFrom (s.heap.objs.size+1) scope.names []).lookup y.1).isSome=true):=λ⟨n,v⟩ hy=>by
  rcases S.par n (Lv hy).1 with q | q
  .exact .inl q
  .exact .inr ⟨q,Jy _ _ _<|.inl q⟩
 refine codeAny_call_function hr.depth (KX _ _ lk) rfl S.co S.gen rfl (PySem.W.codeRec_of KX hcd)<|hb _ _ _ _ ?_;refine wpAny_newFunctionEnv_cells S.kind hkind λenv he s1 x=>?_
 subst he;refine⟨lim.keeps x.toInCall.keep,codeAny_func ?_⟩;obtain⟨t,ht,hq⟩:=hbody A outer s H vs Q E (hr.deeper _) hsp;have I:Inv (Q9 CX P w K mg base N qual scope f cdv A outer s H E) [] (P1 N vs) H s1:=oH S hr.hd e0 hl r x;refine Hg (ht [] s1 (P1 N vs) H _ I hq) (λfl s' hs=>?_) λe s' hs=>hs
 have fin:∀{σ':St} {H':Hp} {v:V} {u:Lz},Inv (Q9 CX P w K mg base N qual scope f cdv A outer s H E) [] σ' H' s'->m7 v u->Q v H'->CE outer P w H s Q u s' :=
  λ{σ' H' v u} J rv q=>⟨v,H',J.os,J.bare,J.base,J.hok,rv,q⟩
 cases fl with
 | ret u =>
  obtain⟨v,σ',H',J,rv,q⟩:=hs;exact fin J rv q
 | next =>
  obtain⟨σ',H',J,q⟩:=hs;exact fin (v:=V.non) (u:=Lz.none) J rfl q
 | brk =>
  obtain⟨_,_,_,q⟩:=hs;exact False.elim q
 | cont =>
  obtain⟨_,_,_,q⟩:=hs;exact False.elim q
end
section
section
variable {X:Cx}{x:Str}{p pos:Pos}{e:LK}{es:List LK}{t:TA}{id T:String}{r:List V->Hp->VK->Prop}
def tCB (r:List V->Hp->VK->Prop)(t:TA):TE:=λσ H Q=>t σ H λvs H1=>r vs H1 Q
def eK (hc:E7 X (.builtin id) r)(hg:Gl X x)(hm:X.mg x=none)(hv:LZ x=some (.builtin id))(ha:PA X (e::es) t)(hn:x ≠ "__name__":=by decide)(hdb:(x == ("__debug__":Str))=false:=by decide)
  (he:LN (e::es) X.env=(false,eval e X.env)::LN es X.env:=by rfl) (hpl:(LR pos<|LN es X.env).any (·.1)=false:=by rfl):PE X (.Call (.Name x p) (e::es) [] pos) (tCB r t):=by
 intro pins s σ H Q I h;refine Kb<|Q5 I hg hm hv ?_ hn hdb;exact PyProof.Rows.callWith_builtin1 (thn (ha pos pins s σ H _ I h) λus s1 ⟨vs,H1,I1,r1,q1⟩=>hc pins s1 σ H1 vs us Q I1 r1 q1) he hpl
def Z4 (hc:E7 X (.type T) r)(hg:Gl X x)(hm:X.mg x=none)(hv:LZ x=some (.type T))(ha:PA X (e::es) t)(hn:x ≠ "__name__":=by decide)(hdb:(x == ("__debug__":Str))=false:=by decide)
  (he:LN (e::es) X.env=(false,eval e X.env)::LN es X.env:=by rfl) (hpl:(LR pos<|LN es X.env).any (·.1)=false:=by rfl):PE X (.Call (.Name x p) (e::es) [] pos) (tCB r t):=by
 intro pins s σ H Q I h;refine Kb<|Q5 I hg hm hv ?_ hn hdb;exact Ik (thn (ha pos pins s σ H _ I h) λus s1 ⟨vs,H1,I1,r1,q1⟩=>hc pins s1 σ H1 vs us Q I1 r1 q1) he hpl
end
end
end L2
namespace HT
open PySem PyProof.Rows
section
variable {prog:LD}{w:LF}{A:LG}{E:Lz->LC->Prop}{s:LC}
def cat_tup {t b:LA}{vs ws:List Lz}{Q:Lz->LC->Prop}(ht:IsTup s.heap t vs.toArray)(hb:IsTup s.heap b ws.toArray)(hv:vs≠[])
  (h1:ws=[]->Q (.ref t) s) (h2:ws≠[]->Q (.ref s.heap.objs.size) { s with heap:=s.heap.push { cls:=.type "tuple",data:=.seq (vs++ws).toArray } })
  (hsz:vs.length+ws.length<=LM):LU (model prog w) A (binaryOp .Add (.ref t)<|.ref b) Q E s:=by
 obtain⟨⟨cls,dd,data,sl⟩,ho,hc,n,hd⟩:=id ht;obtain⟨⟨cls2,dd2,data2,sl2⟩,ho2,hc2,n2,hd2⟩:=id hb;simp only at hc hd hc2 hd2;subst hc hd hc2 hd2;have e:vs.toArray++ws.toArray=(vs++ws).toArray:=by simp
 by_cases hw:ws=[]
 .exact concat_meets ⟨_,ho,rfl⟩ ⟨_,ho2,rfl⟩ noFill_tuple_add seq_tuple_add Kt Kk (Kc _ _)
   (tuple_addW1 t b vs.toArray ws.toArray n n2 dd dd2 sl sl2 (by simpa using hv)<|by simp[hw]) ⟨ho,ho2,h1 hw⟩
 .refine concat_meets ⟨_,ho,rfl⟩ ⟨_,ho2,rfl⟩ noFill_tuple_add seq_tuple_add Kt Kk (Kc _ _)
   (tuple_addW2 t b vs.toArray ws.toArray n n2 dd dd2 sl sl2 (by simpa using hv) (by simpa using hw) (by rw[Gw,Gw];exact hsz)) ⟨ho,ho2,?_⟩
  rw[e];exact h2 hw
def sIx (n d:Nat):Option Int->Nat
 | none=>d
 | some v=>if v<0 then(v+(n:Int)).toNat else min v.toNat n
def sIx_none (n d:Nat):sIx n d none=d:=rfl
def sIx_nat (n d k:Nat):sIx n d (some (k:Int))=min k n:=by
 show(if (k:Int)<0 then((k:Int)+(n:Int)).toNat else min (k:Int).toNat n)=min k n;rw[Gr (by omega),HG]
def zy (n d:Nat)(hd:d<=n)(o:Option Int):sIx n d o<=n:=by
 cases o with
 | none=>exact hd
 | some v =>
  show(if v<0 then(v+(n:Int)).toNat else min v.toNat n)<=n;by_cases hv:v<0
  .rw[Gp hv];omega
  .rw[Gr hv];exact Nat.min_le_right _ _
def nA (v:Int)(n d:Nat):(if v<0 then max (v+(n:Int)) 0 else min v (n:Int))=((sIx n d (some v):Nat):Int):=by
 show(if v<0 then max (v+(n:Int)) 0 else min v (n:Int))=(((if v<0 then(v+(n:Int)).toNat else min v.toNat n):Nat):Int);by_cases hv:v<0
 .simp only[Gp hv];omega
 .simp only[Gr hv];omega
def kT (lo hi:Option Int)(n:Nat):Builtin.Slice.sliceAdjust lo hi 1 (n:Int)=(((sIx n 0 lo:Nat):Int),((sIx n n hi:Nat):Int)):=by
 have h1:¬((1:Int)<0):=by omega
 unfold Builtin.Slice.sliceAdjust;simp only[h1,HP];refine Prod.ext ?_ ?_
 .cases lo with
  | none=>rfl
  | some v=>exact nA v n 0
 .cases hi with
  | none=>rfl
  | some v=>exact nA v n n
def lP (i j:Nat):Builtin.Slice.slicePlaces (i:Int) (j:Int) 1=j-i:=by
 unfold Builtin.Slice.slicePlaces;have h1:(1:Int) > 0:=by omega
 simp only[h1,Ig,Int.ediv_one];split <;> omega
def az {v:Lz}{o:Option Int}{Q:Option Int->LC->Prop}(p:IsPart v o)(h:Q o s):LU (model prog w) A (Builtin.Slice.slicePartIndex v) Q E s:=by
 cases p with
 | none=>exact slicePart_none h
 | int i t=>exact slicePart_int h
def R3 {sl:LA}{vl vu:Lz}{lo hi:Option Int}{n:Nat}{Q:Int×Int×Nat->LC->Prop}(hs:s.heap.IsSliceOf sl vl vu .none)(pl:IsPart vl lo)(pu:IsPart vu hi)
  (h:Q (((sIx n 0 lo:Nat):Int),1,sIx n n hi-sIx n 0 lo) s):LU (model prog w) A (Builtin.Slice.sliceApplied (.ref sl)<|pure (n:Int)) Q E s:=by
 obtain⟨os,hos,hcs,hds⟩:=id hs;unfold Builtin.Slice.sliceApplied Builtin.Slice.sliceFields;refine Gh<|Gh<|Hy hos hds (x:=vl) rfl<|Gh<|Hy hos hds (x:=vu) rfl<|Gh<|Hy hos hds (x:=.none) rfl<|Gk ?_;refine Gh<|slicePart_none ?_;show LU _ _ (if ((1:Int) == 0)=true then _ else _) _ _ s;rw[Gr<|by decide];refine Gh<|az pl<|Gh<|az pu<|Gh<|Gk ?_;show LU _ _ (match Builtin.Slice.sliceAdjust lo hi 1 (n:Int) with | (lo,hi)=>pure (lo,(1:Int),Builtin.Slice.slicePlaces lo hi 1)) _ _ s;rw[kT lo hi n];show LU _ _ (pure (((sIx n 0 lo:Nat):Int),(1:Int),Builtin.Slice.slicePlaces ((sIx n 0 lo:Nat):Int) ((sIx n n hi:Nat):Int) 1)) _ _ s;rw[lP];exact Gk h
def qu (xs:Array Lz)(i k:Nat):((List.range k).filterMap λ(m:Nat)=>xs[((i:Int)+(m:Int)*1).toNat]?).toArray=((xs.toList.drop i).take k).toArray:=by
 have e:(λ(m:Nat)=>xs[((i:Int)+(m:Int)*1).toNat]?) = λm=>xs[i+m]?:=by
  funext m;have:((i:Int)+(m:Int)*1).toNat=i+m:=by omega
  rw[this]
 rw[e];have:=pick_run xs i k;rw[List.filterMap_map]at this;have e2:((λx=>xs[x]?) ∘ λx=>i+x) = λm=>xs[i+m]?:=rfl
 rw[e2]at this;rw[this]
def getItem_tuple_cut {t sl:LA}{items:Array Lz}{vl vu:Lz}{lo hi:Option Int}{Q:Lz->LC->Prop}(ht:IsTup s.heap t items)(hs:s.heap.IsSliceOf sl vl vu .none)(pl:IsPart vl lo)(pu:IsPart vu hi)
  (hw:¬(sIx items.size 0 lo=0/\sIx items.size items.size hi=items.size))
  (h:Q (.ref s.heap.objs.size) { s with heap:=s.heap.push { cls:=.type "tuple",data:=.seq ((items.toList.drop<|sIx items.size 0 lo).take<|sIx items.size items.size hi-sIx items.size 0 lo).toArray } })
  (hsz:items.size<=LM):LU (model prog w) A (getItem (.ref t)<|.ref sl) Q E s:=by
 have htake:sizeOk (.seq ((items.toList.drop<|sIx items.size 0 lo).take<|sIx items.size items.size hi-sIx items.size 0 lo).toArray):=by
  show((items.toList.drop<|sIx items.size 0 lo).take<|sIx items.size items.size hi-sIx items.size 0 lo).toArray.size<=LM;rw[Gw,Ij,List.length_drop,IA];omega
 have hj:sIx items.size items.size hi<=items.size:=zy _ _ (Gs _) hi;obtain⟨os,hos,hcs,hds⟩:=id hs;have hTs:s.TypeIs (.ref sl) "slice":=⟨os,hos,hcs⟩;unfold getItem;try with_reducible refine HB ?_
 first | refine Gh (Gk ?_) | skip
 refine Gh (wpAny_sequenceKey ht.typeIs (by decide) ?_);refine Gh (HX (name:=Str.ofString "__getitem__") ht.typeIs Hu
  (HK Hu ht.typeIs entry_tuple_getitem ?_<|args_tuple_getitem _ _))
 show LU _ _ (Builtin.Tuple.tupleItemsOf (.ref t) >>= _) _ _ s;refine Gh<|tupleItemsOf_ ht ?_;refine Gh<|JG hTs ?_;rw[Gp<|by decide];refine Gh<|R3 hs pl pu ?_;have hno:¬((((sIx items.size 0 lo:Nat):Int) == 0&&(1:Int) == 1&&(sIx items.size items.size hi-sIx items.size 0 lo) == items.size)=true):=by
  intro q;rw[IP,IP]at q;have q1:((sIx items.size 0 lo:Nat):Int)=0:=eq_of_beq q.1.1;have q2:sIx items.size items.size hi-sIx items.size 0 lo=items.size:=eq_of_beq q.2;exact hw ⟨by omega,by omega⟩
 show LU _ _ (if (((sIx items.size 0 lo:Nat):Int) == 0&&(1:Int) == 1&&(sIx items.size items.size hi-sIx items.size 0 lo) == items.size)=true then _ else _) _ _ s;rw[Gr hno,qu];first
  | exact Gh (m:=Builtin.Tuple.tupleExact _)<|Hr (Gk ⟨_,rfl,Gk h⟩) htake
  | exact Gh (m:=Builtin.Tuple.tupleExact _)<|Hr (Gh<|Gk<|Gk ⟨_,rfl,Gk h⟩) htake
  | exact Gh<|Gh (m:=Builtin.Tuple.tupleExact _)<|Hr (Gk<|Gk ⟨_,rfl,Gk h⟩) htake
  | exact Gh<|Gh (m:=Builtin.Tuple.tupleExact _)<|Hr (Gk ⟨_,rfl,Gk h⟩) htake
end
end HT
namespace L2
open PySem PySem.Spec PyProof.Rows
section
abbrev TO:=St->Hp->(Option Int->Hp->Prop)->Prop
def PO (X:Cx)(e:Option LK)(t:TO):Prop :=
 ∀(pins:List (LA×LO)) (s:LC) (σ:St) (H:Hp) (Q:Option Int->Hp->Prop),Inv X pins σ H s->t σ H Q ->
  LU (model X.prog X.w) X.A (evalPart e X.env) (λu s'=>∃o H',Inv X pins σ H' s'/\IsPart u o/\Q o H') X.xe s
def mR:TO:=λ_ H Q=>Q none H
def xW (t:TE):TO:=λσ H Q=>t σ H λx H1=>∃i,x = .int i/\Q (some i) H1
def U9 {ns:List Int}:∀{us:List Lz},j6 (ns.map V.int) us->IntsAre us ns:=by
 induction ns with
 | nil=>intro us r;rw[HY]at r;cases r;exact .nil
 | cons n ns ih =>
  intro us r;rw[GH]at r;cases r with
  | cons r1 r2 =>
   obtain⟨t,e⟩:=r1;subst e;exact .cons n t<|ih r2
section
variable {X:Cx}{e:LK}{te:TE}{lo hi:Option LK}{tl th:TO}{pos p2:Pos}
def mD:PO X none mR:=by
 intro pins s σ H Q I h;rw[evalPart_none];exact Gk ⟨none,H,I,.none,h⟩
def iu (h:PE X e te):PO X (some e) (xW te):=by
 intro pins s σ H Q I hw;rw[evalPart_some];refine thn (h pins s σ H _ I hw) λu s1 ⟨x,H1,I1,r1,q1⟩=>?_
 obtain⟨i,rfl,q⟩:=q1;obtain⟨t,rfl⟩:=r1;exact⟨some i,H1,I1,.int i t,q⟩
def SlR (X:Cx)(r:V->Option Int->Option Int->Hp->VK->Prop):Prop :=
 ∀(pins:List (LA×LO)) (s:LC) (σ:St) (H:Hp) (x:V) (v vl vu:Lz) (lo hi:Option Int) (sl:LA) (Q:VK),Inv X pins σ H s->m7 x v->s.heap.IsSliceOf sl vl vu .none->IsPart vl lo->IsPart vu hi->r x lo hi H Q ->
  ∃T id,typeLookup (.type T) "__getitem__" = pure (some<|.builtin id)/\s.TypeIs v T/\LU (model X.prog X.w) X.A (getItem v<|.ref sl) (EP X pins σ Q) X.xe s
def tSl (r:V->Option Int->Option Int->Hp->VK->Prop)(te:TE)(tl th:TO):TE:=λσ H Q=>te σ H λx H1=>tl σ H1 λl H2=>th σ H2 λu H3=>r x l u H3 Q
def jE {r:V->Option Int->Option Int->Hp->VK->Prop}(hr:SlR X r)(he:PE X e te)(hl:PO X lo tl)(hu:PO X hi th):PE X (.Subscript e (.Slice lo hi none p2) pos) (tSl r te tl th):=by
 intro pins s σ H Q I h;refine Subscript_ (thn (he pins s σ H _ I h) λv s1 ⟨x,H1,I1,r1,q1⟩=>?_);refine wpAny_Slice (thn (hl pins s1 σ H1 _ I1 q1) λvl s2 ⟨l,H2,I2,pl,q2⟩=>thn (hu pins s2 σ H2 _ I2 q2) λvu s3 ⟨u,H3,I3,pu,q3⟩=>?_);rw[evalPart_none];refine Gk ?_;have I4:Inv X pins σ H3 { s3 with heap:=s3.heap.push { cls:=.type "slice",data:=.fields #[vl,vu,.none] } }:=I3.kept (t':=s3.toks) λb ob q=>Gj _ q
 obtain⟨T,id,hT,ht,hg⟩:=hr pins { s3 with heap:=s3.heap.push { cls:=.type "slice",data:=.fields #[vl,vu,.none] } } σ H3 x v vl vu l u s3.heap.objs.size Q I4 r1 (Lb ..) pl pu q3;show LU (model X.prog X.w) X.A (subscriptTail e (.Slice lo hi none p2) v<|.ref s3.heap.objs.size) (EP X pins σ Q) X.xe { s3 with heap:=s3.heap.push { cls:=.type "slice",data:=.fields #[vl,vu,.none] } };exact tail_any (ops:=[.ref s3.heap.objs.size,v]) ht hT hg (by with_unfolding_all rfl)
def bC (xs:List V)(lo hi:Option Int):List V:=(xs.drop<|HT.sIx xs.length 0 lo).take<|HT.sIx xs.length xs.length hi-HT.sIx xs.length 0 lo
def cT (xs:List V)(lo hi:Option Int):(bC xs lo hi).length<=xs.length:=by
 unfold bC;rw[Ij,List.length_drop];omega
def CD (K:Fg):V->Option Int->Option Int->Hp->VK->Prop:=λx lo hi H Q=>∃a xs,x = .ref a/\SqT K H a xs /\
 ¬(HT.sIx xs.length 0 lo=0/\HT.sIx xs.length xs.length hi=xs.length)/\∀p,H p=none->Q (.ref p) (upd H p<|.tup<|bC xs lo hi)
def yC:SlR X (CD X.K):=by
 intro pins s σ H x v vl vu lo hi sl Q I rx hs pl pu h;obtain⟨a,xs,rfl,hx,hw,q⟩:=h;cases rx;obtain⟨its,r,ht,hz⟩:=I.tuple hx;have hlen:its.toArray.size=xs.length:=by rw[Gw];exact r.length.symm
 refine⟨"tuple",_,Hu.lookup,ht.typeIs,?_⟩;refine HT.getItem_tuple_cut ht hs pl pu (by rw[hlen];exact hw) ?_ (by rw[hlen];exact hz);rw[hlen];refine⟨.ref s.heap.objs.size,_,I.laid (t':=s.toks) (o:=.tup<|bC xs lo hi) (λb ob q=>Gj _ q) (Gs _) ?_,rfl,q _<|I.hok.fresh<|Gs _⟩;exact⟨He (cT xs lo hi) hz,_,(r.drop<|HT.sIx xs.length 0 lo).take<|HT.sIx xs.length xs.length hi-HT.sIx xs.length 0 lo,JZ _ _⟩
def Bl (K:Fg):R2:=λx y H Q=>∃a b xs ys,x = .ref a/\y = .ref b/\SqT K H a xs/\SqT K H b ys/\xs≠[]/\xs.length+ys.length<=LM /\
 (ys=[]->Q (.ref a) H)/\(ys≠[]->∀p,H p=none->Q (.ref p) (upd H p<|.tup<|xs++ys))
def j6.nil_iff {xs:List V}{us:List Lz}(r:j6 xs us):us=[]↔xs=[]:=by
 cases r with
 | nil=>simp
 | cons _ _=>simp
def vK:OpR X (binaryOp .Add) (Bl X.K):=by
 intro pins s σ H x y v u Q I rx ry h;obtain⟨a,b,xs,ys,rfl,rfl,ha,hb,hx,hz,q1,q2⟩:=h;cases rx;cases ry;obtain⟨its,r1,p1,_⟩:=I.tuple ha;obtain⟨its2,r2,p2,_⟩:=I.tuple hb;refine HT.cat_tup p1 p2 (λz=>hx<|r1.nil_iff.1 z) (λz=>⟨.ref a,H,I,rfl,q1<|r2.nil_iff.1 z⟩) (λz=>?_) (by rw[<-r1.length,<-r2.length];exact hz);refine⟨.ref s.heap.objs.size,_,I.laid (t':=s.toks) (o:=.tup<|xs++ys) (λb ob q=>Gj _ q) (Gs _) ?_,rfl,q2 (λw=>z<|r2.nil_iff.2 w) _<|I.hok.fresh<|Gs _⟩;exact⟨by rw[Hm];exact hz,_,r1.append r2,JZ _ _⟩
end
end
section
def ixN (n:Nat)(i:Int):Option Nat:=if 0<=i then(if i<n then some i.toNat else none) else if -(n:Int)<=i then some (i+n).toNat else none
def atI {α:Type}(xs:List α)(i:Int):Option α:=(ixN xs.length i).bind λj=>xs[j]?
def iK {n:Nat}{i:Int}{j:Nat}(h:ixN n i=some j):seqIndex? i n=some j/\j<n /\ -(n:Int)<=i/\i<n:=by
 unfold ixN at h;by_cases h0:0<=i
 .rw[Gp h0]at h;by_cases h1:i<n
  .rw[Gp h1]at h;have e:i.toNat=j:=Gy h;exact⟨by rw[seqIndex_of h0 h1,e],by omega,by omega,h1⟩
  .rw[Gr h1]at h;cases h
 .rw[Gr h0]at h;by_cases h1:-(n:Int)<=i
  .rw[Gp h1]at h;have e:(i+n).toNat=j:=Gy h;exact⟨by rw[seqIndex_neg (by omega) h1,e],by omega,h1,by omega⟩
  .rw[Gr h1]at h;cases h
def gz {α:Type}{xs:List α}{i:Int}{v:α}(h:atI xs i=some v):∃j,seqIndex? i xs.length=some j/\xs[j]? = some v/\j<xs.length /\ -(xs.length:Int)<=i/\i<xs.length:=by
 unfold atI at h;cases e:ixN xs.length i with
 | none=>rw[e]at h;cases h
 | some j =>
  rw[e]at h;obtain⟨h1,h2,h3,h4⟩:=iK e;exact⟨j,h1,h,h2,h3,h4⟩
def dE {α:Type}{xs:List α}{j:Nat}{v:α}(h:xs[j]? = some v):atI xs (j:Int)=some v:=by
 have hj:j<xs.length:=(GE.1 h).1;have e:ixN xs.length (j:Int)=some j:=by
  unfold ixN;rw[Gp (by omega),Gp<|by omega];simp
 unfold atI;rw[e];exact h
def gx (b:LK):Prop:=∀o i,subscripted b false o i=operate [o,i] (getItem o i)
def IxR (X:Cx)(r:R2):Prop :=
 ∀(value slice:LK) (pins:List (LA×LO)) (s:LC) (σ:St) (H:Hp) (x y:V) (v u:Lz) (Q:VK),Inv X pins σ H s->m7 x v->m7 y u->r x y H Q ->
  subscripted slice false v u=operate [v,u] (getItem v u)->LU (model X.prog X.w) X.A (subscriptTail value slice v u) (EP X pins σ Q) X.xe s
def MtR (X:Cx)(id:String)(r:V->List V->Hp->VK->Prop):Prop :=
 ∀(pins:List (LA×LO)) (s:LC) (σ:St) (H:Hp) (x:V) (xs:List V) (v:Lz) (us:List Lz) (Q:VK),Inv X pins σ H s->m7 x v->j6 xs us->r x xs H Q ->
  LU (model X.prog X.w) X.A (call (.builtin id) (v::us)) (EP X pins σ Q) X.xe s
section
variable {X:Cx}{a b:LK}{ta tb:TE}{pos:Pos}
def X5 {r:R2}(hr:IxR X r)(ha:PE X a ta)(hb:PE X b tb)(hs:gx b):PE X (.Subscript a b pos) (tOp r ta tb):=by
 intro pins s σ H Q I h;exact Subscript_ (As ha hb I h λv u s2 x y H2 I2 rx ry q=>hr a b pins s2 σ H2 x y v u Q I2 rx ry q<|hs _ _)
def wR (K:Fg):R2:=λx y H Q=>∃p xs i v,x = .ref p/\y = .int i/\SqL K H p xs/\atI xs i=some v/\Q v H
def Bw (K:Fg):R2:=λx y H Q=>∃p xs i v,x = .ref p/\y = .int i/\SqT K H p xs/\atI xs i=some v/\Q v H
def Cw:R2:=λx y H Q=>∃z i c,x = .str z/\y = .int i/\z.length<=LM/\atI z.cps.toList i=some c/\Q (.str ⟨#[c]⟩) H
def K3:IxR X (wR X.K):=by
 intro value slice pins s σ H x y v u Q I rx ry h hs;obtain⟨p,xs,i,z,rfl,rfl,hq,he,q⟩:=h;cases rx;obtain⟨t,rfl⟩:=ry;obtain⟨its,r,pl,hz⟩:=I.list hq;obtain⟨j,h1,h2,h3,h4,h5⟩:=gz he;obtain⟨w,ew,rw'⟩:=r.get h2;have hl:=r.length;have hn:=aE;have fin:EP X pins σ Q w s:=⟨z,H,I,rw',q⟩;by_cases h0:0<=i
 .have hj:i.toNat=j:=by
   rw[seqIndex_of h0 h5]at h1;exact Gy h1
  exact item_listR pl.isList h0 (by omega) (by rw[hj];simpa using ew) fin hs
 .have hj:(i+(its.toArray.size:Int)).toNat=j:=by
   rw[seqIndex_neg (by omega) h4]at h1;rw[Gw,<-hl];exact Gy h1
  exact subscriptTail_builtinR (x:=w) pl.isList.typeIs slot_list_getitem.lookup
   (wpAny_getItem_list_neg (Q:=λr s'=>r=w/\EP X pins σ Q r s') pl.isList (by omega) (by rw[Gw] <;> omega) (by omega) (by rw[hj];simpa using ew) ⟨rfl,fin⟩) hs
def yx:IxR X (Bw X.K):=by
 intro value slice pins s σ H x y v u Q I rx ry h hs;obtain⟨p,xs,i,z,rfl,rfl,hq,he,q⟩:=h;cases rx;obtain⟨t,rfl⟩:=ry;obtain⟨its,r,pl,hz⟩:=I.tuple hq;obtain⟨j,h1,h2,h3,h4,h5⟩:=gz he;obtain⟨w,ew,rw'⟩:=r.get h2;have hl:=r.length;have hn:=aE;have fin:EP X pins σ Q w s:=⟨z,H,I,rw',q⟩;exact subscriptTail_builtinR (x:=w) pl.typeIs slot_tuple_getitem.lookup
  (getItem_tuple (j:=j) (Q:=λr s'=>r=w/\EP X pins σ Q r s') pl (by omega) (by omega) (by rw[Gw,<-hl];exact h1) (by simpa using ew) ⟨rfl,fin⟩) hs
def zQ:IxR X Cw:=by
 intro value slice pins s σ H x y v u Q I rx ry h hs;obtain⟨z,i,c,rfl,rfl,hz,he,q⟩:=h;obtain⟨t,rfl⟩:=rx;obtain⟨t',rfl⟩:=ry;obtain⟨j,h1,h2,h3,h4,h5⟩:=gz he;have hl:z.cps.toList.length=z.length:=by simp[Str.length]
 rw[hl]at h1 h4 h5;have hn:=aE;exact tail_any (KG s z t) slot_str_getitem.lookup (getItem_str (c:=c) (by
  have e1:decide (i < -(2 ^ 63:Int))=false:=Hx (by omega);have e2:decide (i >= 2 ^ 63)=false:=Hx (by omega);rw[e1,e2,Bool.or_false]) (by rw[h1];simpa using h2) ⟨.str ⟨#[c]⟩,H,I.tok _,⟨_,rfl⟩,q⟩) hs
def lH (its:List Lz)(n j:Nat)(u:Lz):LO.mapSeq (·.setIfInBounds j u) { cls:=.type "list",data:=.seq its.toArray n }={ cls:=.type "list",data:=.seq (its.set j u).toArray n }:=by
 simp[LO.mapSeq]
def Inv.lst {pins:List (LA×LO)}{σ:St}{H:Hp}{s:LC}{p:LA}{xs:List V}(I:Inv X pins σ H s)(h:H p=some (.lst xs)) :
  ∃(its:List Lz) (n:Nat),j6 xs its/\s.heap.get? p=some { cls:=.type "list",data:=.seq its.toArray n }/\xs.length<=LM:=by
 obtain⟨z,its,n,r,e⟩:=I.hok p _ h;exact⟨its,n,r,e,z⟩
def Inv.lstUpd {pins:List (LA×LO)}{σ:St}{H:Hp}{s:LC}{p:LA}{xs ys:List V}{its its':List Lz}{n n':Nat}{f:LO->LO}(I:Inv X pins σ H s)(h:H p=some (.lst xs))
  (ho:s.heap.get? p=some { cls:=.type "list",data:=.seq its.toArray n }) (hf:f { cls:=.type "list",data:=.seq its.toArray n }={ cls:=.type "list",data:=.seq its'.toArray n' }) (r:j6 ys its') (hz:ys.length<=LM) (t:Nat) :
  Inv X pins σ (upd H p<|.lst ys) { s with heap:=s.heap.update p f,toks:=t }:=by
 have e:(s.heap.update p f).get? p=some { cls:=.type "list",data:=.seq its'.toArray n' }:=by
  rw[JH f ho (by rw[hf] <;> rfl),hf]
 refine I.write (x:=p) (e:=p) (by rw[h];trivial) (.inl rfl) (λb u hb q=>(Iz _ _<|Ie hb).trans q) ⟨_,e⟩ ?_;exact⟨hz,its',n',r,e⟩
def yh:V->V->V->Hp->(Hp->Prop)->Prop:=λo i v H Q=>∃p xs k j,o = .ref p/\i = .int k/\H p=some (.lst xs)/\ixN xs.length k=some j/\Q (upd H p<|.lst<|xs.set j v)
def aM:Bb X yh:=by
 intro pins s σ H o i v ov iv u Q I ro ri rv h;obtain⟨p,xs,k,j,rfl,rfl,hp,hj,q⟩:=h;cases ro;obtain⟨t,rfl⟩:=ri;obtain⟨its,n,r,ho,hz⟩:=I.lst hp;obtain⟨h1,h2,h3,h4⟩:=iK hj;have hl:=r.length;have hn:=aE;have I':Inv X pins σ (upd H p<|.lst<|xs.set j v) { s with heap:=s.heap.update p (LO.mapSeq (·.setIfInBounds j u)) } :=
  I.lstUpd hp ho (lH its n j u) (r.set rv j) (by rw[Hn];exact hz) s.toks
 by_cases h0:0<=k
 .have hk:k.toNat=j:=by
   rw[seqIndex_of h0 h4]at h1;exact Gy h1
  exact PySem.W.ki_setAt ho h0 (by omega) (by rw[Gw,<-hl];exact h4) (by rw[hk];exact⟨_,I',q⟩)
 .have hk:(k+(its.toArray.size:Int)).toNat=j:=by
   rw[seqIndex_neg (by omega) h3]at h1;rw[Gw,<-hl];exact Gy h1
  exact PySem.W.ki_setBack ho (by omega) (by rw[Gw,<-hl];exact h3) (by omega) (by rw[hk];exact⟨_,I',q⟩)
def ir (lo hi:Option Int)(n:Nat):(sliceBounds lo hi none n).1=((HT.sIx n 0 lo:Nat):Int)/\(sliceBounds lo hi none n).2.1=((HT.sIx n n hi:Nat):Int)/\(sliceBounds lo hi none n).2.2=1:=by
 refine⟨?_,?_,rfl⟩
 .cases lo with
  | none=>simp[sliceBounds,HT.sIx]
  | some i =>
   simp only[sliceBounds,HT.sIx,Ln,show(1:Int) > 0 by decide,Ig]
   by_cases h:i<0
   .simp only[h,Ig] <;> omega
   .simp only[h,HP] <;> omega
 .cases hi with
  | none=>simp[sliceBounds,HT.sIx]
  | some i =>
   simp only[sliceBounds,HT.sIx,Ln,show(1:Int) > 0 by decide,Ig]
   by_cases h:i<0
   .simp only[h,Ig] <;> omega
   .simp only[h,HP] <;> omega
def fD (its:List Lz)(lo hi:Option Int):slicePick its.toArray lo hi none=((its.drop<|HT.sIx its.length 0 lo).take<|HT.sIx its.length its.length hi-HT.sIx its.length 0 lo).toArray:=by
 obtain⟨h1,h2,h3⟩:=ir lo hi its.toArray.size;unfold slicePick;rw[h1,h2,h3];simp only[sliceRange_one,pick_run,Gw] <;> rfl
def Cn (K:Fg):V->Option Int->Option Int->Hp->VK->Prop:=λx lo hi H Q=>∃a xs,x = .ref a/\SqL K H a xs/\∀p,H p=none->Q (.ref p) (upd H p<|.lst<|bC xs lo hi)
def nj:SlR X (Cn X.K):=by
 intro pins s σ H x v vl vu lo hi sl Q I rx hs pl pu h;obtain⟨a,xs,rfl,hx,q⟩:=h;cases rx;obtain⟨its,r,ht,hz⟩:=I.list hx;have hlen:=r.length;refine⟨"list",_,slot_list_getitem.lookup,ht.isList.typeIs,?_⟩;refine wpAny_getItem_list_slice ht.isList hs pl pu .none (by simp) ?_ (by rw[Gw] <;> omega);rw[fD,<-hlen];refine⟨.ref s.heap.objs.size,_,I.laid (t':=s.toks) (o:=.lst<|bC xs lo hi) (λb ob q=>Gj _ q) (Gs _) ?_,rfl,q _<|I.hok.fresh<|Gs _⟩;exact⟨He (cT xs lo hi) hz,_,0,(r.drop<|HT.sIx xs.length 0 lo).take<|HT.sIx xs.length xs.length hi-HT.sIx xs.length 0 lo,GN _ rfl⟩
def U7:E7 X (.builtin "len") (λxs H Q=>∃p ys,xs=[.ref p]/\(SqL X.K H p ys\/SqT X.K H p ys)/\Q (.int ys.length) H):=by
 intro pins s σ H xs us Q I r h;obtain⟨p,ys,rfl,hq,q⟩:=h;obtain⟨u,rfl,rx⟩:=Y6 r;cases rx;have hn:=aE;rcases hq with hq | hq
 .obtain⟨its,r',pl,hz⟩:=I.list hq;have hlen:=r'.length;exact Calls.call_len_list pl.isList (by simp only[Gw] <;> omega) ⟨.int ys.length,H,I.tok _,⟨s.toks+1,by rw[Gw,hlen]⟩,q⟩
 .obtain⟨its,r',pl,hz⟩:=I.tuple hq;have hlen:=r'.length;exact len_tuple pl (by simp only[Gw] <;> omega) ⟨.int ys.length,H,I.tok _,⟨s.toks+1,by rw[Gw,hlen]⟩,q⟩
def gK:E7 X (.builtin "len") (λxs H Q=>∃z,xs=[.str z]/\z.length<=LM/\Q (.int z.length) H):=by
 intro pins s σ H xs us Q I r h;obtain⟨z,rfl,hz,q⟩:=h;obtain⟨u,rfl,t,rfl⟩:=Y6 r;have hn:=aE;exact len_str (by omega) ⟨.int z.length,H,I.tok _,⟨_,rfl⟩,q⟩
def gU:E7 X (.type "list") (λxs H Q=>∃p ys,xs=[.ref p]/\(SqL X.K H p ys\/SqT X.K H p ys)/\∀l,H l=none->Q (.ref l) (upd H l<|.lst ys)):=by
 intro pins s σ H xs us Q I r h;obtain⟨p,ys,rfl,hq,q⟩:=h;obtain⟨u,rfl,rx⟩:=Y6 r;cases rx;have fin:∀(its:List Lz),j6 ys its->ys.length<=LM->∀(h':LL) (c':Nat),(∀b o',s.heap.get? b=some o'->h'.get? b=some o') ->
   h'.get? s.heap.objs.size=some { cls:=.type "list",dict:=none,data:=.seq its.toArray c',slots:=#[] }->EP X pins σ Q (.ref s.heap.objs.size) { s with heap:=h' }:=λits r' hz h' c' kp e =>
  ⟨.ref s.heap.objs.size,_,I.laid (t':=s.toks) kp (Gs _) (show D7 X.prog X.w _ h' _ (.lst ys) from⟨hz,its,c',r',e⟩),rfl,q _<|I.hok.fresh<|Gs _⟩
 rcases hq with hq | hq
 .obtain⟨its,r',pl,hz⟩:=I.list hq;have hlen:=r'.length;obtain⟨o,ho,hc,n,hd⟩:=pl.isList;exact call_list_seq p (.inl rfl) ho hc hd (λh' c' kp e=>fin its r' hz h' c' kp e) (by simp only[Gw] <;> omega)
 .obtain⟨its,r',pl,hz⟩:=I.tuple hq;have hlen:=r'.length;obtain⟨o,ho,hc,n,hd⟩:=pl;exact call_list_seq p (.inr rfl) ho hc hd (λh' c' kp e=>fin its r' hz h' c' kp e) (by simp only[Gw] <;> omega)
def fz:E7 X (.type "tuple") (λxs H Q=>∃p ys,xs=[.ref p]/\((SqL X.K H p ys/\∀l,H l=none->Q (.ref l) (upd H l<|.tup ys))\/(SqT X.K H p ys/\Q (.ref p) H))):=by
 intro pins s σ H xs us Q I r h;obtain⟨p,ys,rfl,h⟩:=h;obtain⟨u,rfl,rx⟩:=Y6 r;cases rx;rcases h with ⟨hq,q⟩ | ⟨hq,q⟩
 .obtain⟨its,r',pl,hz⟩:=I.list hq;have hlen:=r'.length;refine call_tuple_list pl.isList (λh' kp=>?_) (by simp only[Gw] <;> omega);have I1:Inv X pins σ H { s with heap:=h' }:=I.kept (t':=s.toks) kp;have I2:Inv X pins σ (upd H h'.objs.size<|.tup ys) { s with heap:=h'.push { cls:=.type "tuple",data:=.seq its.toArray } } :=
   I1.laid (t':=s.toks) (λb o e=>Gj _ e) (Gs _) (show D7 X.prog X.w _ _ _ (.tup ys) from⟨hz,its,r',JZ _ _⟩)
  exact⟨.ref h'.objs.size,_,I2,rfl,q _<|I1.hok.fresh<|Gs _⟩
 .obtain⟨its,r',pl,hz⟩:=I.tuple hq;exact call_tuple_same pl ⟨.ref p,H,I,rfl,q⟩
def tyV (K:Fg)(T:String)(x:V)(H:Hp):Prop:=match x with
 | .str _=>T = "str"
 | .int _=>T = "int"
 | .ref p=>(T = "list" /\ ∃xs,SqL K H p xs)\/(T = "tuple" /\ ∃o,K.lookup p=some o/\o.cls = .type "tuple" /\ o.dict=none) \/
   (T = "dict" /\ ((∃kvs,H p=some (.dK kvs))\/∃kvs,H p=some (.dT kvs)))\/(T = "set" /\ ∃S n,H p=some (.set S n))
 | _=>False
def zq {pins:List (LA×LO)}{σ:St}{H:Hp}{s:LC}{T:String}{x:V}{v:Lz}(I:Inv X pins σ H s)(r:m7 x v)(ty:tyV X.K T x H) :
  s.TypeIs v T/\∀a,v = .ref a->∃ob,s.heap.get? a=some ob/\ob.dict=none:=by
 cases x with
 | str z =>
  obtain⟨t,rfl⟩:=r;cases(show T = "str" from ty);exact⟨KG s z t,λ_ e=>nomatch e⟩
 | int i =>
  obtain⟨t,rfl⟩:=r;cases(show T = "int" from ty);exact⟨typeIs_int s i t,λ_ e=>nomatch e⟩
 | ref p =>
  cases r;rcases ty with ⟨rfl,xs,hq⟩ | ⟨rfl,o,hk,hc,hd⟩ | ⟨rfl,hk⟩ | ⟨rfl,S,n,hk⟩
  .obtain⟨its,_,pl,_⟩:=I.list hq;refine⟨pl.isList.typeIs,λa e=>?_⟩;cases e;obtain⟨o,n,e,c,hd,_⟩:=pl;exact⟨o,e,hd⟩
  .refine⟨⟨o,I.kIn p o hk,hc⟩,λa e=>?_⟩;cases e;exact⟨o,I.kIn _ o hk,hd⟩
  .have z:∃o,s.heap.get? p=some o/\o.ExactDict:=by
    rcases hk with ⟨kvs,hk⟩ | ⟨kvs,hk⟩
    .obtain⟨_,_,_,_,o,_,_,e,ex,_⟩:=I.hok p _ hk;exact⟨o,e,ex⟩
    .obtain⟨_,_,_,_,o,_,_,e,ex,_⟩:=I.hok p _ hk;exact⟨o,e,ex⟩
   obtain⟨o,e,ex⟩:=z;refine⟨⟨o,e,ex.1⟩,λa e2=>?_⟩;cases e2;exact⟨o,e,ex.2.1⟩
  .obtain⟨o,_,_,_,e,ex,_⟩:=I.hok p _ hk;refine⟨⟨o,e,ex.1⟩,λa e2=>?_⟩;cases e2;exact⟨o,e,ex.2.1⟩
 | _=>exact False.elim ty
def tBM (K:Fg)(T:String)(r:V->List V->Hp->VK->Prop)(to:TE)(t:TA):TE:=λσ H Q=>to σ H λx H1=>tyV K T x H1/\t σ H1 λxs H2=>r x xs H2 Q
variable {o e:LK}{es:List LK}{to:TE}{t:TA}{name:Str}{apos cpos:Pos}{T id:String}{r:V->List V->Hp->VK->Prop}
def qQ (pa:PlainAttrs T)(slot:Slot T name id)(hty:typeOf (.builtin id)=pure (.type "method_descriptor"))(hm:MtR X id r)(ho:PE X o to)(ha:PA X (e::es) t)
  (hbase:LY o name X.env (eval o X.env)=eval o X.env:=by rfl)
  (hfew:((LR cpos<|LN (e::es) X.env).all (λx=>!x.1)&&(Mf cpos<|Mg [] X.env).all (λx=>x.1.isSome)
   && decide ((e::es).length+([]:List LS).length+(if ([]:List LS).isEmpty then 0 else 1)<30))=true:=by rfl)
  (hline:(apos.endLine == cpos.line)=true:=by rfl) (hs:LN (e::es) X.env=(false,eval e X.env)::LN es X.env:=by rfl) (hplain:(LR cpos<|LN es X.env).any (·.1)=false:=by rfl) :
  PE X (.Call (.Attribute o name apos) (e::es) [] cpos) (tBM X.K T r to t):=by
 intro pins s σ H Q I h;refine wpAny_Call_method_late hbase hfew hline rfl (thn (ho pins s σ H _ I h) λv s1 ⟨x,H1,I1,r1,ty,q1⟩=>?_);obtain⟨h1,h2⟩:=zq I1 r1 ty;refine⟨T,id,pa,slot,hty,h1,h2,?_⟩;have hA:=ha cpos pins s1 σ H1 _ I1 q1;rw[hs]at hA ⊢;refine Calls.callWith_builtin (by show(false||(LR cpos<|LN es X.env).any (·.1))=false;rw[hplain] <;> rfl)<|Calls.evalArgs_plain ?_;exact thn hA λus s2 ⟨vs,H2,I2,r2,q2⟩=>hm pins s2 σ H2 x vs v us Q I2 r1 r2 q2
end
end
section
def MtM (X:Cx)(id:String)(r:V->List V->Hp->VK->Prop):Prop :=
 ∀(pins:List (LA×LO)) (s:LC) (σ:St) (H:Hp) (x:V) (xs:List V) (v:Lz) (us:List Lz) (Q:VK),Inv X pins σ H s->m7 x v->j6 xs us->r x xs H Q ->
  LU (model X.prog X.w) X.A (call (.builtin id) (v::us)) (EP X pins σ Q) X.xe s
theorem j6.one:∀{x:V} {us:List Lz},j6 [x] us->∃u,us=[u]/\m7 x u
 | _,_,.cons r .nil=>⟨_,rfl,r⟩
def j6.reverse {xs:List V}{us:List Lz}(h:j6 xs us):j6 xs.reverse us.reverse:=by
 induction h with
 | nil=>exact .nil
 | cons r t ih=>rw[Kq,Kq];exact j6.append ih<|.cons r .nil
theorem j6.rep {xs:List V}{us:List Lz}(h:j6 xs us):∀k:Nat,j6 (List.replicate k xs).flatten (List.replicate k us).flatten
 | 0=>.nil
 | k+1=>by
  rw[Ht,Ht,HN,HN];exact j6.append h<|j6.rep h k
def bz (its:List Lz):∀(k:Nat) (acc:List Lz),
  List.foldl (λx1 x2=>x1++x2) acc.toArray (List.replicate k its.toArray)=(acc++(List.replicate k its).flatten).toArray
 | 0,acc=>by simp
 | k+1,acc=>by
  have e:acc.toArray++its.toArray=(acc++its).toArray:=by simp
  have e2:(acc++its)++(List.replicate k its).flatten=acc++(List.replicate (k+1) its).flatten:=by
   rw[Ht,HN,Lk]
  rw[<-e2,<-bz its k (acc++its),<-e,Ht,List.foldl_cons]
section
variable {X:Cx}{pins:List (LA×LO)}{σ:St}{H:Hp}{s:LC}{l b:LA}{xs ys zs:List V}
def Inv.lset {its its':List Lz}{n:Nat}{f:Array Lz->Array Lz}{t':Nat}(I:Inv X pins σ H s)(hH:H l=some (.lst xs))
  (e:s.heap.get? l=some { cls:=.type "list",data:=.seq its.toArray n }) (hf:f its.toArray=its'.toArray) (hv:j6 ys its') (hz:ys.length<=LM) :
  Inv X pins σ (upd H l<|.lst ys) { s with heap:=s.heap.update l<|LO.mapSeq f,toks:=t' }:=by
 have q:=PySem.IsL.update e f;rw[hf]at q;refine I.write (x:=l) (e:=l) (by rw[hH];exact trivial) (.inl rfl) (λb' u hb hu=>(Iz s.heap (LO.mapSeq f)<|Ie hb).trans hu) ⟨_,q⟩ ?_;exact⟨hz,its',_,hv,q⟩
def Inv.lnew {its:List Lz}{t':Nat}(I:Inv X pins σ H s)(hv:j6 ys its)(hz:ys.length<=LM) :
  Inv X pins σ (upd H s.heap.objs.size<|.lst ys) { s with heap:=s.heap.push { cls:=.type "list",data:=.seq its.toArray },toks:=t' } :=
 I.laid (λ_ _ q=>Gj _ q) (Gs _) ⟨hz,its,0,hv,GN _ rfl⟩
def Inv.fresh (I:Inv X pins σ H s):H s.heap.objs.size=none:=I.hok.fresh<|Gs _
def Inv.lstM (I:Inv X pins σ H s)(hH:H l=some (.lst xs)):xs.length<=LM/\∃(its:List Lz) (n:Nat),j6 xs its/\xs.length=its.length/\s.heap.get? l=some { cls:=.type "list",data:=.seq its.toArray n }:=by
 obtain⟨z,its,n,r,e⟩:=I.hok l _ hH;exact⟨z,its,n,r,r.length,e⟩
def eu {n:Nat}(h:n<=LM):Builtin.List.listTooLong n=false:=by
 unfold Builtin.List.listTooLong;exact Hx (by omega)
end
section
variable {X:Cx}
def aS:V->List V->Hp->VK->Prop:=λx vs H Q=>∃l xs y,x = .ref l/\vs=[y]/\H l=some (.lst xs)/\xs.length<LM/\Q .non (upd H l<|.lst<|xs++[y])
def R7:MtM X "list.append" aS:=by
 intro pins s σ H x vs v us Q I rx rv h;obtain⟨l,xs,y,rfl,rfl,hH,hz,q⟩:=h;cases rx;obtain⟨u,rfl,ru⟩:=rv.one;obtain⟨z,its,n,r,hl,e⟩:=I.lstM hH;refine Jm F.slot_list_append ⟨_,e,rfl⟩ F.entry_list_append (F.args_list_append_2 _ _) (PySem.list_append l its.toArray n u (by rw[Gw];omega)) ⟨e,?_⟩;refine⟨.non,_,I.lset (its':=its++[u]) hH e (by simp) (r.append<|.cons ru .nil) ?_,rfl,q⟩;rw[Hm,List.length_singleton];omega
def gP:V->List V->Hp->VK->Prop:=λx vs H Q=>∃l b xs zs,x = .ref l/\vs=[.ref b]/\H l=some (.lst xs)/\H b=some (.lst zs)/\xs.length+zs.length<=LM/\Q .non (upd H l<|.lst<|xs++zs)
def pk:MtM X "list.extend" gP:=by
 intro pins s σ H x vs v us Q I rx rv h;obtain⟨l,b,xs,zs,rfl,rfl,hH,hB,hz,q⟩:=h;cases rx;obtain⟨u,rfl,ru⟩:=rv.one;cases ru;obtain⟨z,its,n,r,hl,e⟩:=I.lstM hH;obtain⟨z2,its2,n2,r2,hl2,e2⟩:=I.lstM hB;have hsz:its.toArray.size+its2.toArray.size<=LM:=by rw[Gw,Gw];omega
 have hlong:¬(!its.toArray.isEmpty&&Builtin.List.listTooLong (its.toArray.size+its2.toArray.size))=true:=by
  rw[eu hsz,Bool.and_false];exact GQ
 refine Jm F.slot_list_extend ⟨_,e,rfl⟩ F.entry_list_extend (F.args_list_extend_2 _ _)
  (AutoSeq1.list_extend_list_list_0 l its.toArray n b its2.toArray n2 hlong (by rw[Gw];omega)<|by omega) ⟨e,e2,?_⟩
 refine⟨.non,_,I.lset (its':=its++its2) hH e (by simp) (r.append r2) ?_,rfl,q⟩;rw[Hm];omega
def CC:R2:=λx y H Q=>∃l b xs zs,x = .ref l/\y = .ref b/\H l=some (.lst xs)/\H b=some (.lst zs)/\xs.length+zs.length<=LM/\∀p,H p=none->Q (.ref p) (upd H p<|.lst<|xs++zs)
def yn:OpR X (binaryOp .Add) CC:=by
 intro pins s σ H x y v u Q I rx ry h;obtain⟨l,b,xs,zs,rfl,rfl,hH,hB,hz,q⟩:=h;cases rx;cases ry;obtain⟨z,its,n,r,hl,e⟩:=I.lstM hH;obtain⟨z2,its2,n2,r2,hl2,e2⟩:=I.lstM hB;refine PySem.P.add_list e e2 ?_ (by rw[Gw,Gw];omega);have ea:its.toArray++its2.toArray=(its++its2).toArray:=by simp
 rw[ea];exact⟨.ref _,_,I.lnew (t':=s.toks) (r.append r2) (by rw[Hm];omega),rfl,q _ I.fresh⟩
def Cf:R2:=λx y H Q=>∃l k xs,x = .ref l/\y = .int k/\H l=some (.lst xs) /\ -(2 ^ 63)<=k/\k<2 ^ 63/\xs.length*k.toNat<=LM /\
 ∀p,H p=none->Q (.ref p) (upd H p<|.lst (List.replicate k.toNat xs).flatten)
def gH {α:Type}(xs:List α)(k:Nat):(List.replicate k xs).flatten.length=k*xs.length:=by
 induction k with
 | zero=>simp
 | succ k ih=>rw[Ht,HN,Hm,ih,Nat.succ_mul,Lo]
def zh:OpR X (binaryOp .Mult) Cf:=by
 intro pins s σ H x y v u Q I rx ry h;obtain⟨l,k,xs,rfl,rfl,hH,h1,h2,hz,q⟩:=h;cases rx;obtain⟨t,rfl⟩:=ry;obtain⟨z,its,n,r,hl,e⟩:=I.lstM hH;have hlen:its.toArray.size*k.toNat<=LM:=by rw[Gw,<-hl];exact hz
 have hcap:¬its.toArray.size*k.toNat > (2 ^ 63-1) / 8:=by
  have:(LM:Nat)<=(2 ^ 63-1) / 8:=by decide
  omega
 have hfit:¬(!Builtin.List.listFitsIndex k)=true:=by
  rw[fitsIndex_both h1 h2];exact GQ
 have hlong:¬Builtin.List.listTooLong (its.toArray.size*k.toNat)=true:=by
  rw[eu hlen];exact GQ
 have hnew:List.foldl (λx1 x2=>x1++x2) #[] (List.replicate (if its.toArray.isEmpty=true then 0 else k.toNat) its.toArray)=(List.replicate k.toNat its).flatten.toArray:=by
  have f0:∀m:Nat,List.foldl (λx1 x2=>x1++x2) #[] (List.replicate m its.toArray)=(List.replicate m its).flatten.toArray:=λm=>by
   have:=bz its m [];rw[Ho]at this;exact this
  rw[f0];cases its with
  | nil=>simp
  | cons a r'=>rw[Gr<|by simp]
 refine wpAny_binaryOp_repeat_ref (T:="list") (U:="int") (by decide) ⟨_,e,rfl⟩ (λs'=>typeIs_int s' k t) noFill_list_mul F.fills_int_mul KH repeat_list F.slot_int_index.lookup
  (Jm KH (typeIs_int s k t) F.entry_int_rmul (F.args_int_rmul_2 _ _) (int___rmul___int_list k t l its.toArray n)
   ⟨e,rfl,⟨_,e,rfl⟩,Jm F.slot_list_mul ⟨_,e,rfl⟩ F.entry_list_mul (F.args_list_mul_2 _ _) (AutoListH.list___mul___list_int_3 l its.toArray n k t hfit hcap hlong) ⟨e,?_⟩⟩)
 rw[hnew];exact⟨.ref _,_,I.lnew (t':=s.toks) (r.rep k.toNat) (by rw[gH,Nat.mul_comm];exact hz),rfl,q _ I.fresh⟩
end
end
section
section
variable {κ:Type}[DecidableEq κ]
def cj (kvs:List (κ×V))(k:κ):Option V:=(kvs.find? λkv=>decide (kv.1=k)).map (·.2)
def bH (kvs:List (κ×V))(k:κ)(v:V):List (κ×V) :=
 if (kvs.any λkv=>decide (kv.1=k))=true then kvs.map (λkv=>if kv.1=k then(kv.1,v) else kv) else kvs++[(k,v)]
def uN {p:κ×V}{r:List (κ×V)}{k:κ}(e:p.1=k):cj (p::r) k=some p.2:=by simp[cj,KI,e]
def rC {p:κ×V}{r:List (κ×V)}{k:κ}(e:¬p.1=k):cj (p::r) k=cj r k:=by simp[cj,KI,e]
def jH (kvs:List (κ×V))(k:κ)(v:V):(bH kvs k v).length<=kvs.length+1:=by
 unfold bH;split
 .rw[Gi];omega
 .rw[Hm,GM,HR];omega
def qB.getD {o:Option V}{u:Option Lz}{d:V}{d':Lz}(r:qB o u)(rd:m7 d d'):m7 (o.getD d) (u.getD d'):=by
 cases o with
 | none=>cases u with
  | none=>exact rd
  | some _=>exact(show False from r).elim
 | some _=>cases u with
  | none=>exact(show False from r).elim
  | some _=>exact r
def KV.val {kvs:List (κ×V)}{vs:List (κ×Lz)}(r:KV kvs vs)(k:κ):qB (cj kvs k) (valueAt vs k):=by
 unfold KV at r;induction r with
 | nil=>exact True.intro
 | @cons p q ps qs h t ih =>
  obtain⟨h1,h2⟩:=h;by_cases e:p.1=k
  .have e':q.1=k:=h1.symm.trans e;have b:valueAt (q::qs) k=some q.2:=by simp[valueAt,KI,e']
   rw[uN e,b];exact h2
  .have e':¬q.1=k:=λz=>e<|h1.trans z
   have b:valueAt (q::qs) k=valueAt qs k:=by simp[valueAt,KI,e']
   rw[rC e,b];exact ih
def KV.any {kvs:List (κ×V)}{vs:List (κ×Lz)}(r:KV kvs vs)(k:κ):(kvs.any λkv=>decide (kv.1=k))=vs.any λkv=>decide (kv.1=k):=by
 unfold KV at r;induction r with
 | nil=>rfl
 | cons h t ih=>rw[Lg,Lg,ih,h.1]
def KV.repl {kvs:List (κ×V)}{vs:List (κ×Lz)}(r:KV kvs vs)(k:κ){y:V}{u:Lz}(ry:m7 y u) :
  KV (kvs.map λkv=>if kv.1=k then(kv.1,y) else kv) (vs.map λkv=>if kv.1=k then(kv.1,u) else kv):=by
 unfold KV at r ⊢;induction r with
 | nil=>exact .nil
 | @cons p q ps qs h t ih =>
  rw[GH,GH];refine .cons ?_ ih;obtain⟨h1,h2⟩:=h;by_cases e:p.1=k
  .rw[Gp e,Gp<|h1.symm.trans e];exact⟨h1,ry⟩
  .rw[Gr e,Gr<|λz=>e<|h1.trans z];exact⟨h1,h2⟩
def KV.put {kvs:List (κ×V)}{vs:List (κ×Lz)}(r:KV kvs vs)(k:κ){y:V}{u:Lz}(ry:m7 y u):KV (bH kvs k y) (stored vs k u):=by
 unfold bH stored;rw[r.any k];by_cases e:(vs.any λkv=>decide (kv.1=k))=true
 .rw[Gp e,Gp e];exact r.repl k ry
 .rw[Gr e,Gr e];exact Paired.snoc r ⟨rfl,ry⟩
end
def AK {P:LD}{w:LF}{k:Key}{u:Lz}(r:m7 (kV k) u):(m8 P w).is k u=true:=by
 cases k with
 | inl i=>obtain⟨t,e⟩:=(show ∃t,u=Lz.int i t from r);subst e;exact cH P w i t
 | inr x=>obtain⟨t,e⟩:=(show ∃t,u=Lz.str x t from r);subst e;exact jr P w x t
section
variable {P:LD}{w:LF}{H:Hp}{h:LL}{a:LA}
def Bh {u:HO}(ok:HOk P w H h)(e:Rd H a u):D7 P w H h a u:=e.ok ok
def Bm {kvs:List (Key×V)}(ok:HOk P w H h)(e:Rd H a (.dK kvs)):kvs.length<=LM/\(a == sysModules)=false/\∃vs,KV kvs vs/\h.DictOf (m8 P w) a vs :=
 show D7 P w H h a (.dK kvs) from Bh ok e
def Bv {kvs:List (Key×V)}(ok:HOk P w H h)(e:H a=some (.dK kvs)):kvs.length<=LM/\(a == sysModules)=false/\∃vs,KV kvs vs/\h.DictOf (m8 P w) a vs:=Bm ok<|.inl e
end
section
variable {X:Cx}{pins:List (LA×LO)}{σ:St}{H:Hp}{s:LC}{a:LA}{y v:V}{u r:Lz}{o:Option V}{A:LG}{E:Lz->LC->Prop}
def Inv.big (I:Inv X pins σ H s):sysModules<s.heap.objs.size:=by
 have h:LV<s.heap.objs.size:=(I.mod.glob.keeps I.bk).lt;exact Lp (by decide) h
def wQ {h':LL}{t':Nat}{ob:HO}(I:Inv X pins σ H s)(mu:Mut (H a))(hs:LL.SameBut a s.heap h')(he:∃q,h'.get? a=some q)(new:D7 X.prog X.w (upd H a ob) h' a ob) :
  Inv X pins σ (upd H a ob) { s with heap:=h',toks:=t' } :=
 I.write (x:=a) (e:=a) mu (.inl rfl) (λb q hb z=>(hs.2 b hb).trans z) he new
def zp {P:LD}{w:LF}{H':Hp}{h':LL}{kvs:List (Key×V)}{vs:List (Key×Lz)}(z:kvs.length<=LM)(hd:(a == sysModules)=false)(rel:KV kvs vs)(dd:h'.DictOf (m8 P w) a vs) :
  D7 P w H' h' a (.dK kvs):=⟨z,hd,vs,rel,dd⟩
end
structure M1 (X:Cx) (o:LK) (m:Str) (apos:Pos) (e:LK) (cpos:Pos):Prop where
 base:LY o m X.env (eval o X.env)=eval o X.env
 few:((LR cpos<|LN [e] X.env).all (λx=>!x.1)&&(Mf cpos<|Mg [] X.env).all (λx=>x.1.isSome)
  && decide (([e]:List LK).length+([]:List LS).length+(if ([]:List LS).isEmpty then 0 else 1)<30))=true
 line:(apos.endLine == cpos.line)=true
 trees:LR cpos (LN [e] X.env)=[(false,eval e X.env)]
end
end L2
namespace Att
open PySem PySem.W PySem.Calls PyProof.Rows
def da {P:Params}{h:LL}:∀(ns:List Int) (vs:List Lz),WellAll P h vs (ns.map WData.int)->IntsAre vs ns:=by
 intro ns;induction ns with
 | nil =>
  intro vs w;rw[HY]at w;cases w;exact .nil
 | cons n ns ih =>
  intro vs w;rw[GH]at w;cases w with
  | cons a b =>
   cases a;exact .cons _ _<|ih _ b
def qh {l:OpenLaw}{n:Nat}(hn:l.most=some n){P:Params}{h:LL}{args:List WData}{vals:List Lz}
  (hpre:l.row.toRowW.claim.pre args=true) (hwl:WellAll P h vals args) :
  ∃a vs ns,vals=[Lz.ref a]/\args=[WData.list<|ns.map WData.int]/\h.get? a=some { cls:=.type "list",data:=.seq vs.toArray }/\IntsAre vs ns/\ns.length<=n:=by
 have hsh:WShape.hasAll [] args [.list .int]=true:=(pre_splitW hpre).1;have hc:l.pre.holds [] { args:=args }=true:=(pre_splitW hpre).2;obtain⟨d,r,rfl,h1,h2⟩:=hasAllW_cons hsh;obtain rfl:=hasAllW_nil h2;obtain⟨xs,rfl,h3⟩:=hasW_list h1;obtain⟨ns,rfl⟩:=items_int h3;have hlen:ns.length<=n:=by
  unfold OpenLaw.pre at hc;have h4:(WTm.not<|.lt (.lit<|.int (n:Int))<|.len<|.arg 0).holds [] { args:=[.list<|ns.map .int] }=true:=by
   have h4:=(holds_andW hc).1;rw[hn]at h4;exact h4
  have h5:=condW_of h4<|w_not<|w_lt w_lit<|w_len_list<|w_arg rfl;rw[Gi]at h5;refine Nat.le_of_not_lt λq=>?_
  have q':(n:Int)<((ns.length:Nat):Int):=by omega
  first
   | (rw[GX q']at h5;exact absurd h5<|by decide)
   | (simp at h5;omega)
 cases hwl with
 | cons w1 w2 =>
  cases w2;cases w1 with
  | list ho hall=>exact⟨_,_,ns,rfl,rfl,ho,da ns _ hall,hlen⟩
def qe (l:OpenLaw)(args:List WData):l.row.toRowW.claim.post args (.bool true) args=true :=
 postW_of (r:=l.row.toRowW) (X:=(true == true))
  (show WShape.has [] (.bool true) .bool=true by first | rfl | decide | simp[WShape.has,WShape.arms,WShape.armsAll])
  (show(WTm.eq .res<|.lit<|.bool true).value [] { args:=args,res:=some<|.bool true,after:=args }=some (.bool<|true == true) from w_eq_bool (w_res rfl) w_lit) rfl
def attach_call {l:OpenLaw}{n:Nat}{q:LD}{loose:List Str}{XP:(Str->Option Lz)->LL->Prop}{YP:LF->LL->Prop}{d:DefRec}
  (hn:l.most=some n) (hdf:d.params.defaults=[])
  (call:∀(w:LF) (s₀ s₁:LC) (mg mb:Str->Option Lz) (fa:LA) (o:LO) (pm cd doc:Lz) (a:LA) (vs:List Lz) (ns:List Int),
   Ground q loose [] XP w s₀ mg mb s₁.heap->YP w s₁.heap ->
   s₁.heap.get? fa=some o->o.data = .func (docDef d.name d.params d.body d.scope pm cd doc)->s₁.heap.CodeRec cd d.name->mg d.name=some (.ref fa) ->
   s₁.heap.get? a=some { cls:=.type "list",data:=.seq vs.toArray }->IntsAre vs ns->ns.length<=n->s₁.gens = #[] ->
   codeAny (model l.prog w) callerA (.call (.ref fa) ⟨[.ref a],[]⟩) (λr s'=>r = .ok (.ret<|.bool true)/\OldK s₁.heap s'.heap/\s'.os=s₁.os/\AllBare s'.gens) s₁) :
  WalkO q loose XP YP l.row.toRowW d [] (λf vs=>PySem.call f vs):=by
 intro w s₀ s₁ mg mb G Y fa o pm cd doc dV kV ho hd hcd hD hmg hg args vals as hpre hlay hrd hwl hlo;obtain rfl:dV = .none:=Dflts.none hD hdf;obtain rfl:kV = .none:=Dflts.noKw hD;obtain⟨a,vs,ns,rfl,rfl,hobj,hints,hlen⟩:=qh hn hpre hwl;refine enter_call (codeAny_mono (call w s₀ s₁ mg mb fa o pm cd doc a vs ns G Y ho (fd_plain hd) hcd hmg hobj hints hlen hg) λr s' hq=>?_);obtain⟨rfl,h2,h3,h4⟩:=hq;exact⟨.inl ⟨.bool true,.bool true,[],rfl,λ_=>rfl,.bool true,qe l _,λ_=>⟨List.Pairwise.nil,λ_ hm=>(nomatch hm)⟩⟩,h2,h3,h4⟩
end Att
namespace L2
open PySem PySem.Spec PyProof.Rows
section
theorem bP:∀{vs:List Lz} {ns:List Int},IntsAre vs ns->j6 (ns.map V.int) vs
 | _,_,.nil=>.nil
 | _,_,.cons n t h=>.cons ⟨t,rfl⟩<|bP h
end
end L2
namespace L2
open PySem PySem.Spec PyProof.Rows
def defArgs (s:LJ):Arguments:=match s with
 | .FunctionDef _ a _ _ _ _ _ _ _ _=>a
 | _=>{ posonlyargs:=[],args:=[],vararg:=none,kwonlyargs:=[],kw_defaults:=[],kwarg:=none,defaults:=[] }
def defBody (s:LJ):List LJ:=match s with
 | .FunctionDef _ _ b _ _ _ _ _ _ _=>b
 | _=>[]
def defScope (s:LJ):LH:=match s with
 | .FunctionDef _ _ _ _ _ _ sc _ _ _=>sc
 | _=>{ kind:=.function,names:=[],isGenerator:=false,isCoroutine:=false }
abbrev CX0:CXT:=λ_ _ _ _ _ _=>False
abbrev E0:XK:=λ_ _ _=>False
def AS {X:Cx}:lX CX0 X E0:=λ_ _ _ _ _ _ _ h=>h.elim
structure Fun (K:Fg) (x qual:Str) (st:LJ) (f:LA) (fd:LI):Prop where
 ex:∃(oc:Lz) (od:Option LA) (kV doc pm:Lz) (an:Option LA) (cdv ct:Lz) (osl:Array (Option Lz)),
  fd=PySem.W.fnOf x qual (defArgs st) (defBody st) (defScope st) .none kV doc pm an cdv ct/\K.lookup f=some ⟨oc,od,.func fd,osl⟩/\PySem.W.codeIn K cdv qual=true
 kp:PySem.W.keepIn K (.ref f)=true
section
variable {P:LD}{w:LF}{K:Fg}{mg:Str->Option Lz}{base:LL}
def Fun.ok {x qual:Str}{st:LJ}{f:LA}{fd:LI}{N ps:List Str}{k:Nat}{sp:Sp}(F:Fun K x qual st f fd)(S:FnScope N ps (defScope st))(len:∀vs H Q E,sp vs H Q E->vs.length=ps.length)
  (hbody:∀(cdv:Lz) (A:LG) (outer:List LQ) (s:LC) (H:Hp) (vs:List V) (Q:VK) (E:XK),Room k (A.deeper<|envOfC qual (defScope st) s.heap.objs.size f cdv)->sp vs H Q E ->
   ∃t,PSs (Q9 CX0 P w K mg base N qual (defScope st) f cdv A outer s H E).nox (defBody st) t/\t { nx:=λ_ H'=>Q .non H',rt:=Q } (P1 N vs) H):FnOk P w K mg base CX0 (k+1) f fd ps sp:=by
 obtain⟨oc,od,kV,doc,pm,an,cdv,ct,osl,rfl,lk,hcd⟩:=F.ex;refine xT lk hcd S len λA outer s H vs Q E hr hsp=>?_
 obtain⟨t,h,q⟩:=hbody cdv A outer s H vs Q E hr hsp;exact⟨t,h.nox,q⟩
def Fun.binds {x qual:Str}{st:LJ}{f:LA}{fd:LI}{ps:List Str}(F:Fun K x qual st f fd)
  (h:∀(kV doc pm:Lz) (an:Option LA) (cdv ct:Lz) (us:List Lz),us.length=ps.length->bindArgs (PySem.W.fnOf x qual (defArgs st) (defBody st) (defScope st) .none kV doc pm an cdv ct) ⟨us,[]⟩=pure (ps.zip us)):cR K fd ps []:=by
 obtain⟨oc,od,kV,doc,pm,an,cdv,ct,osl,rfl,lk,hcd⟩:=F.ex;exact .all<|h kV doc pm an cdv ct
def fun_mk {x qual:Str}{st:LJ}{f:LA}{oc:Lz}{od an:Option LA}{osl:Array (Option Lz)}{kV doc pm cdv ct:Lz}(l:K.lookup f=some ⟨oc,od,.func<|PySem.W.fnOf x qual (defArgs st) (defBody st) (defScope st) .none kV doc pm an cdv ct,osl⟩)
  (c:PySem.W.codeIn K cdv qual=true) (k:PySem.W.keepIn K (.ref f)=true):Fun K x qual st f (PySem.W.fnOf x qual (defArgs st) (defBody st) (defScope st) .none kV doc pm an cdv ct):=⟨⟨oc,od,kV,doc,pm,an,cdv,ct,osl,rfl,l,c⟩,k⟩
end
def R1 {n:Nat}(h:n<=1000):n<LM:=Je h (by decide)
section
variable {X:Cx}
def pv (i:Nat){x:Str}{pos:Pos}(hN:X.N[i]? = some x:=by rfl)(hv:Vis X.env.scope x:=by first | exact Or.inl rfl | exact Or.inr (Or.inl rfl) | exact Or.inr<|Or.inr rfl)(hd:(x == ("__debug__":Str))=false:=by decide)
  (hcd:(x == ("__classdict__":Str))=false:=by decide):PE X (.Name x pos) (W0 i):=Q3 hN hv hd hcd
end
def AJ {A B:Prop}(h:B):if false=true then A else B:=by
 rw[Gr GQ];exact h
def qj {c A B:Prop}[Decidable c](h1:c->A)(h2:¬c->B):if c then A else B:=by
 by_cases h:c
 .rw[Gp h];exact h1 h
 .rw[Gr h];exact h2 h
def d9 (H H':Hp):Prop:=∀b o,H b=some o->H' b=some o
def d9.refl (H:Hp):d9 H H:=λ_ _ h=>h
end L2
set_option maxHeartbeats 4000000
namespace L2
open PySem PySem.Spec PyProof.Rows
section
def v8 (f:Str->LA):List (Str×Me)->List (Str×LA)->List (Str×LA)
 | [],acc=>acc
 | (n,kd)::r,acc=>v8 f r (if (kd == Me.free)=true then(n,f n)::acc else acc)
def y9 {scope:LH}{env:LQ}{f:Str->LA}(h:∀y∈scope.names,y.2 = .free->cellOf env y.1=pure (f y.1)) :
  closureFor scope env=pure (v8 f scope.names []):=by
 have key:∀(l:List (Str×Me)) (acc:List (Str×LA)),(∀y∈l,y.2 = .free->cellOf env y.1=pure (f y.1)) ->
   (forIn l acc (λ(x:Str×Me) (cs:List (Str×LA))=>if (x.2 == Me.free)=true then(do let c <-cellOf env x.1;pure (ForInStep.yield ((x.1,c)::cs))) else pure (ForInStep.yield cs)):Sem (List<|Str×LA))=pure (v8 f l acc):=by
  intro l;induction l with
  | nil=>intro acc _;rfl
  | cons y r ih =>
   intro acc hy;obtain⟨n,kd⟩:=y;rw[JV];by_cases hk:(kd == Me.free)=true
   .have e:kd = .free:=by simpa using hk
    have hc:=hy (n,kd) Gx e;simp only[hk,Ig];dsimp only at hc;rw[hc];show(forIn r ((n,f n)::acc) _:Sem _)=_;rw[ih _ λz hz=>hy z<|Gq _ hz];simp only[v8,hk,Ig]
   .simp only[hk,HP];show(forIn r acc _:Sem _)=_;rw[ih _ λz hz=>hy z<|Gq _ hz];simp only[v8,hk,HP];rfl
 have:=key scope.names [] h;unfold closureFor;show(forIn scope.names [] _ >>= λr=>pure r)=_;rw[show(forIn scope.names ([]:List (Str×LA)) _:Sem _)=_ from this];rfl
theorem C9 {f:Str->LA}:∀(l:List (Str×Me)) (acc:List (Str×LA)) {x:Str} {c:LA},(v8 f l acc).lookup x=some c->((x,Me.free)∈l/\c=f x)\/acc.lookup x=some c
 | [],_,_,_,h=>.inr h
 | (n,kd)::r,acc,x,c,h=>by
  rw[v8]at h;rcases C9 r _ h with ⟨h1,h2⟩ | h1
  .exact .inl ⟨Gq _ h1,h2⟩
  .by_cases hk:(kd == Me.free)=true
   .rw[Gp hk]at h1;have e:kd = .free:=by simpa using hk
    subst e;by_cases hx:x=n
    .subst hx;simp at h1;exact .inl ⟨Gx,h1.symm⟩
    .have hb:(x == n)=false:=JR.2 hx;rw[Hi,hb]at h1;exact .inr h1
   .rw[Gr hk]at h1;exact .inr h1
theorem O1 {f:Str->LA}:∀(l:List (Str×Me)) (acc:List (Str×LA)) {x:Str},((x,Me.free)∈l\/acc.lookup x=some (f x))->(v8 f l acc).lookup x=some (f x)
 | [],_,_,h=>by
  rcases h with h | h
  .exact absurd h (by simp)
  .exact h
 | (n,kd)::r,acc,x,h=>by
  rw[v8];refine O1 r _ ?_;by_cases hk:(kd == Me.free)=true
  .rw[Gp hk];have e:kd = .free:=by simpa using hk
   subst e;by_cases hx:x=n
   .subst hx;exact .inr (by simp)
   .have hb:(x == n)=false:=JR.2 hx;rcases h with h | h
    .rcases GK.1 h with z | z
     .cases z;exact absurd rfl hx
     .exact .inl z
    .exact .inr (by rw[Hi,hb];exact h)
  .rw[Gr hk];rcases h with h | h
   .rcases GK.1 h with z | z
    .cases z;exact absurd rfl hk
    .exact .inl z
   .exact .inr h
def jY {scope:LH}{env:LQ}{x:Str}(h:(relabel scope env).names.lookup x=some .cell\/(relabel scope env).names.lookup x=some .free):(x,Me.free)∈scope.names\/(x,Me.cell)∈scope.names:=by
 have go:∀kd,(relabel scope env).names.lookup x=some kd->kd = .cell\/kd = .free->(x,Me.free)∈scope.names\/(x,Me.cell)∈scope.names:=by
  intro kd h hk;have hm:=Hs h;unfold relabel at hm;obtain⟨⟨n,k0⟩,hy,e⟩:=GW.1 hm;by_cases hc:(k0 == Me.free&&env.scope.kind == .function&&env.kindOf n == some .cell)=true
  .simp only[hc,Ig]at e;cases e;have:k0 = .free:=by
    simp only[IP]at hc;simpa using hc.1.1
   subst this;exact .inl hy
  .simp only[hc,HP]at e;cases e;rcases hk with r | r
   .subst r;exact .inr hy
   .subst r;exact .inl hy
 rcases h with h | h
 .exact go _ h<|.inl rfl
 .exact go _ h<|.inr rfl
def M2 (scope:LH)(cl:List (Str×LA))(n:Nat):List (Str×LA):=cellsFrom (n+1) scope.names cl
theorem G7:∀(names:List (Str×Me)) (n:Nat) (acc:List (Str×LA)),cellsFrom n names acc=cellsFrom n names []++acc
 | [],_,_=>rfl
 | (x,k)::r,n,acc=>by
  unfold cellsFrom;split
  .rw[G7 r (n+1) ((x,n)::acc),G7 r (n+1) [(x,n)],Lk];rfl
  .exact G7 r n acc
theorem Y9:∀(names:List (Str×Me)) (n:Nat) {x:Str} {c:LA},(x,c)∈cellsFrom n names []->(x,Me.cell)∈names
 | [],_,_,_,h=>by cases h
 | (y,k)::r,n,x,c,h=>by
  unfold cellsFrom at h;split at h
  .rename_i hk;rw[G7]at h;rcases GP.1 h with h | h
   .exact Gq _<|Y9 r (n+1) h
   .have hk:k = .cell:=by simpa using hk
    subst hk;cases HQ.1 h;exact Gx
  .exact Gq _<|Y9 r n h
theorem uS {α:Type}:∀{l r:List (Str × α)} {x:Str} {c:α},(l++r).lookup x=some c->l.lookup x=some c\/(l.lookup x=none/\r.lookup x=some c)
 | [],r,x,c,h=>.inr ⟨rfl,h⟩
 | (y,v)::l,r,x,c,h=>by
  rw[Hh,Hi]at h;rw[Hi];cases hb:x == y with
  | true=>rw[hb]at h;exact .inl h
  | false=>rw[hb]at h;exact uS h
theorem iM {α:Type}:∀{l r:List (Str × α)} {x:Str},l.lookup x=none->(l++r).lookup x=r.lookup x
 | [],r,x,h=>rfl
 | (y,v)::l,r,x,h=>by
  rw[Hi]at h;rw[Hh,Hi];cases hb:x == y with
  | true=>rw[hb]at h;cases h
  | false=>rw[hb]at h;exact iM h
theorem iJ {α:Type}:∀{l r:List (Str × α)} {x:Str} {c:α},l.lookup x=some c->(l++r).lookup x=some c
 | [],r,x,c,h=>by cases h
 | (y,v)::l,r,x,c,h=>by
  rw[Hi]at h;rw[Hh,Hi];cases hb:x == y with
  | true=>rw[hb]at h;exact h
  | false=>rw[hb]at h;exact iJ h
def kU {M:Model}{A:LG}{E:Lz->LC->Prop}{s:LC}{scope:LH}{globals:LA}{closure:List (Str×LA)}{qual:Str}{func:Option LA}{code:Lz}{env:LQ}{builtins:LA}{Q:LQ->LC->Prop}
  (hQ:∀h₁:LL,h₁.Ns s.heap.objs.size (λ_=>none)->(∀b o,s.heap.get? b=some o->h₁.get? b=some o)->CellsOk h₁ (s.heap.objs.size+1) (cellsFrom (s.heap.objs.size+1) scope.names []) ->
   Q (newEnv scope s.heap.objs.size globals (cellsFrom (s.heap.objs.size+1) scope.names closure) qual func code (some env) builtins) { s with heap:=h₁ }) :
  LU M A (newFunctionEnv scope globals closure [] qual func code (some env) builtins) Q E s:=by
 simp only[newFunctionEnv,Option.isSome_some,Ig];refine Gh<|wpAny_alloc ?_;refine Gh (wpAny_layCells _ (λname kind cells=>by cases hkc:kind == Me.cell <;> simp[hkc]) _ _ _ _ ?_);have ok:=cellsFrom_ok scope.names (s.heap.push { cls:=.type "dict",data:=.dict #[] }) (s.heap.objs.size+1) [] ⟨λ_ _ hm=>(nomatch hm),List.Pairwise.nil⟩ (by rw[Io];exact Gs _);rw[Io]at ok;rw[show({ s with heap:=s.heap.push { cls:=.type "dict",data:=.dict #[] } }:LC).heap.objs.size=s.heap.objs.size+1 from Io ..];rw[Kj];refine Gh<|Gk<|Gk ?_;exact hQ _ ((LL.Ns.new s.heap<|.type "dict").keeps<|pushCells_keeps _ _) (λb o e=>pushCells_keeps _ _ b o<|Gj _ e) ok
theorem ae {φ:Str×Me->Str×Me}(hφ:∀n k,φ (n,k)=(n,k)\/(k = .free /\ φ (n,k)=(n,.cell))):∀{names:List (Str×Me)} {x:Str},names.lookup x=some .free->(names.map φ).lookup x=some .cell\/(names.map φ).lookup x=some .free
 | [],_,h=>by simp at h
 | (n,k)::r,x,h=>by
  have ih:=@ae φ hφ r x;rw[GH];cases hx:x == n with
  | true =>
   simp only[Hi,hx]at h;cases h;rcases hφ n .free with e | ⟨_,e⟩
   .rw[e,Hi,hx];exact .inr rfl
   .rw[e,Hi,hx];exact .inl rfl
  | false =>
   simp only[Hi,hx]at h;rcases hφ n k with e | ⟨_,e⟩
   .rw[e,Hi,hx];exact ih h
   .rw[e,Hi,hx];exact ih h
def gG {scope:LH}{env:LQ}{x:Str}(h:scope.names.lookup x=some .free):(relabel scope env).names.lookup x=some .cell\/(relabel scope env).names.lookup x=some .free:=by
 unfold relabel;refine ae (λn k=>?_) h;by_cases hc:(k == Me.free&&env.scope.kind == .function&&env.kindOf n == some .cell)=true
 .refine .inr ⟨?_,Gp hc⟩;simp only[IP]at hc;simpa using hc.1.1
 .exact .inl<|Gr hc
def nZ (target iter:LK)(ifs:List LK)(it:Lz)(env:LQ)(act:Sem Fin->Sem Fin)(more:Sem Fin):Sem Fin:=do
 standAt iter.pos
 match <-pyNext it with
 | none=>pure<|.done .next
 | some v =>
  letOwnedTupleGo target it v
  assign target env v
  let mut ok:=true
  for c in ifs do
   if ok then ok <-isTrue c env (eval c env)
  if ok then act more else more
def iY (elt:LK)(acc:Lz)(env:LQ):Sem Unit:=do let _ <-call (.builtin "list.append") [acc,<-eval elt env]
section
variable {prog:LD}{w:LF}{A:LG}{R:Result->LC->Prop}{s:LC}
def BP {elt:LK}{gens:List Comprehension}{scope:LH}{pos:Pos}{d:Nat}{it acc:Lz}{env:LQ}{target iter:LK}{ifs:List LK}{act:Sem Fin->Sem Fin}(I:Nat->LC->Prop)
  (ht:compTurn (.ListComp elt gens scope pos) d it acc env=nZ target iter ifs it env act (again<|.compLoop (.ListComp elt gens scope pos) d it acc env))
  (turn:∀n s,I n s->LU (model prog w) A (pyNext it) (λr s₁=>match r with
   | none=>R (.ok .next) s₁
   | some v=>LU (model prog w) A (letOwnedTupleGo target it v) (λ_ s₀=>LU (model prog w) A (assign target env v) (λ_ s₂ =>
     LU (model prog w) A (forIn ifs true λc r=>if r=true then do let ok <-isTrue c env (eval c env);pure (ForInStep.yield ok) else pure (ForInStep.yield r)) (λok s₃ =>
      if ok=true then ∀(k:Sem Fin) (Q:Fin->LC->Prop) (E:Lz->LC->Prop),(∀s₅,(∃m,m<n/\I m s₅)->LU (model prog w) A k Q E s₅)->LU (model prog w) A (act k) Q E s₃
      else ∃m,m<n/\I m s₃) (λ_ _=>False) s₂) (λ_ _=>False) s₀) (λ_ _=>False) s₁) (λ_ _=>False) s)
  (n:Nat) (h:I n s):codeAny (model prog w) A (.compLoop (.ListComp elt gens scope pos) d it acc env) R s:=by
 refine codeAny_loop rfl I (λn s hI=>?_) n h;show LU _ A ((compTurn (.ListComp elt gens scope pos) d it acc env).onRaise (λx=>do noteFrame x env;theTreesLotGoes x)) _ _ s;refine wpAny_noted ?_;rw[ht];unfold nZ;refine Gh (IM<|Gh<|Hg (turn n s hI) (λr s₁ h₁=>?_) λ_ _ h'=>h'.elim);cases r with
 | none=>exact Gk h₁
 | some v =>
  refine Gh (Hg h₁ (λ_ s₀ h₀=>?_) λ_ _ h'=>h'.elim);refine Gh (Hg h₀ (λ_ s₂ h₂=>Gh<|Hg h₂ (λok s₃ h₃=>?_) λ_ _ h'=>h'.elim) λ_ _ h'=>h'.elim);cases ok with
  | false=>exact Gk ⟨rfl,h₃⟩
  | true=>exact h₃ _ _ _ λs₅ h₅=>Gk ⟨rfl,h₅⟩
end
def Z9 (k:Nat)(cap:List Nat)(σ:St):St:=List.replicate k none++cap.map λj=>(σ[j]?).join
structure Caps (ON:List Str) (osc:LH) (N:List Str) (k:Nat) (cap:List Nat) (scope:LH):Prop where
 kind:scope.kind = .function:=by rfl
 cell:∀y∈scope.names,y.2 = .cell->scope.names.lookup y.1=some .cell:=by decide +kernel
 loc:∀y∈scope.names,y.2 = .local->scope.names.lookup y.1=some .local:=by decide +kernel
 free:∀y∈scope.names,y.2 = .free->osc.names.lookup y.1=some .cell\/osc.names.lookup y.1=some .free:=by decide +kernel
 len:N.length=k+cap.length:=by rfl
 capx:(cap.map λj=>ON[j]?)=(N.drop k).map some:=by rfl
 capf:∀x∈N.drop k,scope.names.lookup x=some .free:=by decide +kernel
def cxC (X:Cx)(N:List Str)(scope:LH)(cl:List (Str×LA))(C:LA)(ex:List LA)(pins:List (LA×LO))(s₀:LC)(H₀:Hp):Cx where
 prog:=X.prog
 w:=X.w
 K:=X.K
 mg:=X.mg
 base:=X.base
 A:=X.A
 N:=N
 s₀:=s₀
 H₀:=H₀
 env:=compEnvC scope cl C X.env
 outer:=X.stack
 stack:=X.stack
 ex:=ex
 fn:=λx=>match scope.names.lookup x with
  | some .cell=>true
  | _=>false
 calm:=X.calm
 pn:=X.pn++pins
 xe:=λ_ _=>False
def PTs (X:Cx)(ifs:List LK)(t:TT):Prop :=
 ∀(pins:List (LA×LO)) (s:LC) (σ:St) (H:Hp) (Q:Bool->Hp->Prop),Inv X pins σ H s->t σ H Q ->
  LU (model X.prog X.w) X.A (forIn ifs true λc r=>if r=true then do let ok <-isTrue c X.env (eval c X.env);pure (ForInStep.yield ok) else pure (ForInStep.yield r)) (TP X pins σ Q) X.xe s
def wm:TT:=λ_ H Q=>Q true H
def nQ {X:Cx}:PTs X [] wm:=λ_ _ _ H _ I h=>wpAny_tests_nil ⟨H,I,h⟩
def wZ {X:Cx}{c:LK}{t:TT}(h:PT X c t):PTs X [c] t:=λpins s σ H Q I q=>wpAny_tests_one<|h pins s σ H Q I q
def tLC (wi:TI)(k:Nat)(cap:List Nat)(g:TG)(tt:TT)(te:TE):TE:=λσ H Q=>wi σ H λJ H1=>∀D,H1 D=none ->
 ∃W:Nat->Nat->St->List V->Hp->Prop,(∃m,W 0 m (Z9 k cap σ) []<|upd H1 D<|.lst [])/\∀i m σ' acc H',W i m σ' acc H' ->
  (J.stop i H'/\Q (.ref D) H') \/
  (J.go i H'/\∀x H2,J.yld i H' x H2->g x σ' H2 λσ2 H3=>tt σ2 H3 λok H4=>if ok=true then te σ2 H4 λy H5=>H5 D=some (.lst acc)/\acc.length<LM/\∃m',m'<m/\W (i+1) m' σ2 (acc++[y]) (upd H5 D<|.lst<|acc++[y])
   else H4 D=some (.lst acc)/\∃m',m'<m/\W (i+1) m' σ2 acc H4)
abbrev TM:=St->Hp->(St->Hp->Prop)->Prop
def PM (Y:Cx)(act:Sem Fin->Sem Fin)(t:TM):Prop:=∀(pins:List (LA×LO)) (s:LC) (σ:St) (H:Hp) (Q:St->Hp->Prop),Inv Y pins σ H s->t σ H Q ->
 ∀(k:Sem Fin) (R:Fin->LC->Prop) (E:Lz->LC->Prop),(∀s' σ' H',Inv Y pins σ' H' s'->Q σ' H'->LU (model Y.prog Y.w) Y.A k R E s')->LU (model Y.prog Y.w) Y.A (act k) R E s
def dw {X:Cx}{elt tg iter:LK}{ifs:List LK}{rest:List Comprehension}{scope osc:LH}{pos:Pos}{N:List Str}{k:Nat}{cap:List Nat}{g:TG}{tt:TT}{cl:List (Str×LA)}{act:LQ->Sem Fin->Sem Fin}
  {pins:List (LA×LO)} {σ:St} {H3:Hp} {s3:LC} {D it:LA} {fp:List LA} {tn:Nat->LL->Prop} {J:It} {Qs:Hp->Prop} {W:Nat->Nat->St->Hp->Prop} {m0:Nat} {P:LA->Result->LC->Prop}
  (hturn:∀env,compTurn (.ListComp elt (⟨tg,iter,ifs,0⟩::rest) scope pos) 0 (.ref it) (.ref D) env=nZ tg iter ifs (.ref it) env (act env) (again<|.compLoop (.ListComp elt (⟨tg,iter,ifs,0⟩::rest) scope pos) 0 (.ref it) (.ref D) env))
  (hc:X.calm=true) (hosc:X.env.scope=osc) (hcap:Caps X.N osc N k cap scope)
  (hcl:∀{x:Str} {c:LA},cl.lookup x=some c->X.env.cells.lookup x=some c) (hhas:∀x,(x,Me.free)∈scope.names->∃c,cl.lookup x=some c)
  (hg:∀cl C ex pins s H,PG (cxC X N scope cl C ex pins s H) tg g)
  (ht:∀cl C ex pins s H,PTs (cxC X N scope cl C ex pins s H) ifs tt)
  (I3:Inv X pins σ H3 s3) (T:Turn X.prog X.w X.K tg J fp it tn) (st:tn 0 s3.heap) (f3:∀b∈fp,aC X pins H3 b) (w0:W 0 m0 (Z9 k cap σ) H3)
  (hend:∀s6 σ5 H5,Inv (cxC X N scope (M2 scope cl s3.heap.objs.size) s3.heap.objs.size fp pins s3 H3) [] σ5 H5 s6->Inv X pins σ H5 s6->Qs H5->P s3.heap.objs.size (.ok .next) s6)
  (turn:∀i m σ' H',W i m σ' H'->(J.stop i H'/\Qs H') \/
   (J.go i H'/\∃C:Bool->St->Hp->Prop,(∀x H2,J.yld i H' x H2->g x σ' H2 λσ2 H3=>tt σ2 H3 λok H4=>C ok σ2 H4)/\(∀σ2 H4,C false σ2 H4->∃m',m'<m/\W (i+1) m' σ2 H4) /\
    ∀(pins':List (LA×LO)) (s:LC) (σ2:St) (H4:Hp),Inv (cxC X N scope (M2 scope cl s3.heap.objs.size) s3.heap.objs.size fp pins s3 H3) pins' σ2 H4 s->C true σ2 H4->∀(k:Sem Fin) (R:Fin->LC->Prop) (E:Lz->LC->Prop),
     (∀s' σ3 H5,Inv (cxC X N scope (M2 scope cl s3.heap.objs.size) s3.heap.objs.size fp pins s3 H3) pins' σ3 H5 s'->(∃m',m'<m/\W (i+1) m' σ3 H5)->LU (model X.prog X.w) X.A k R E s')->LU (model X.prog X.w) X.A (act (compEnvC scope (M2 scope cl s3.heap.objs.size) s3.heap.objs.size X.env) k) R E s)) :
  LU (model X.prog X.w) X.A (newFunctionEnv scope X.env.globals cl [] X.env.qual none .none<|some X.env) (λcenv s₄ =>
   codeAny (model X.prog X.w) X.A (.compStart (.ListComp elt (⟨tg,iter,ifs,0⟩::rest) scope pos) 0 (.ref it) (.ref D) { cenv with scope:=relabel scope X.env }) (P cenv.locals) s₄) X.xe s3:=by
 refine kU λh₁ hns₁ old okc=>?_
 have ownS:∀{x:Str} {c:LA},(M2 scope cl s3.heap.objs.size).lookup x=some c->((cellsFrom (s3.heap.objs.size+1) scope.names []).lookup x=some c/\scope.names.lookup x=some .cell/\h₁.IsCell c none/\s3.heap.objs.size<c)\/cl.lookup x=some c:=λ{x c} e=>by
  unfold M2 at e;rw[G7]at e;rcases uS e with z | z
  .have hm:=Hs z;obtain⟨a1,a2⟩:=okc.empty x c hm;exact .inl ⟨z,hcap.cell _ (Y9 _ _ hm) rfl,a1,a2⟩
  .exact .inr z.2
 have clt:∀{x:Str} {c:LA},cl.lookup x=some c->c<s3.heap.objs.size:=λ{x c} e=>by
  obtain⟨v,z⟩:=I3.cell x c<|hcl e;exact z.lt
 have ownF:∀{x:Str},scope.names.lookup x=some .free->(M2 scope cl s3.heap.objs.size).lookup x=cl.lookup x:=λ{x} e=>by
  unfold M2;rw[G7];refine iM ?_;cases q:(cellsFrom (s3.heap.objs.size+1) scope.names []).lookup x with
  | none=>rfl
  | some c =>
   have z:=hcap.cell _ (Y9 _ _<|Hs q) rfl;rw[e]at z;cases z
 have ownI:∀x y c,(M2 scope cl s3.heap.objs.size).lookup x=some c->(M2 scope cl s3.heap.objs.size).lookup y=some c->x=y:=λx y c h1 h2=>by
  rcases ownS h1 with ⟨a1,_,_,a4⟩ | a <;> rcases ownS h2 with ⟨b1,_,_,b4⟩ | b
  .exact name_of_addr okc.apart (Hs a1)<|Hs b1
  .exact absurd (clt b)<|Lm.2<|Ii a4
  .exact absurd (clt a)<|Lm.2<|Ii b4
  .exact I3.ok.inj x y c (hcl a)<|hcl b
 have ownH:∀x,((relabel scope X.env).names.lookup x=some .cell\/(relabel scope X.env).names.lookup x=some .free)->∃c,(M2 scope cl s3.heap.objs.size).lookup x=some c:=λx hx=>by
  unfold M2;rw[G7];cases q:(cellsFrom (s3.heap.objs.size+1) scope.names []).lookup x with
  | some c=>exact⟨c,iJ q⟩
  | none =>
   rcases jY hx with z | z
   .obtain⟨c,e⟩:=hhas x z;exact⟨c,(iM q).trans e⟩
   .have y:=Jy scope.names (s3.heap.objs.size+1) []<|.inl<|hcap.cell _ z rfl;rw[q]at y;cases y
 have ownA:∀x c,(cxC X N scope (M2 scope cl s3.heap.objs.size) s3.heap.objs.size fp pins s3 H3).fn x=true->(M2 scope cl s3.heap.objs.size).lookup x=some c->s3.heap.objs.size<=c:=λx c h e=>by
  rcases ownS e with ⟨_,_,_,a4⟩ | a
  .exact Ii a4
  .have hx:scope.names.lookup x=some .cell:=by
    have h:(match scope.names.lookup x with | some .cell=>true | _=>false)=true:=h;split at h
    .assumption
    .cases h
   have y:=Jy scope.names (s3.heap.objs.size+1) []<|.inl hx;obtain⟨c',hc'⟩:=Jo.1 y;have e2:(M2 scope cl s3.heap.objs.size).lookup x=some c':=by unfold M2;rw[G7];exact iJ hc'
   rw[e]at e2;cases e2;exact Ii (okc.empty x c<|Hs hc').2
 have neC:∀b∈fp,b≠s3.heap.objs.size:=λb hb=>by
  obtain⟨o,e,_⟩:=T.obj _ _ st b hb;exact GR<|Gv e
 have cne:∀b∈fp,∀{x:Str} {c:LA},(M2 scope cl s3.heap.objs.size).lookup x=some c->c≠b:=λb hb {x c} e=>by
  rcases ownS e with ⟨_,_,_,a4⟩ | a
  .obtain⟨o,e,_⟩:=T.obj _ _ st b hb;exact Ie<|GR<|Lp (Gv e) a4
  .exact(f3 b hb).2.2.2.2.1 x c<|hcl a
 have freeC:∀{x:Str} {c:LA},(M2 scope cl s3.heap.objs.size).lookup x=some c->H3 c=none:=λ{x c} e=>by
  rcases ownS e with ⟨_,_,_,a4⟩ | a
  .exact I3.hok.fresh<|Ii a4
  .exact I3.freeC x c<|hcl a
 have nofs:∀{b:LA},b≠X.env.locals->b ∉ X.fs->b ∉ frs X.stack:=λ{b} h1 h2 z=>(GK.1<|I3.stkSub b z).elim h1 h2
 have IY:Inv (cxC X N scope (M2 scope cl s3.heap.objs.size) s3.heap.objs.size fp pins s3 H3) [] (Z9 k cap σ) H3 { s3 with heap:=h₁ }:=by
  refine⟨⟨I3.ok.mod,hcap.kind,I3.ok.glob,I3.ok.blt,Gs _,ownI,ownH,ownA,I3.ok.hd,I3.ok.frames,.inl rfl,
   λb hb=>⟨neC b hb,λx c e=>cne b hb e⟩,I3.bs,He I3.ok.bsz I3.sz,λb o e hb=>?_,λb hb=>nofs (f3 b hb).2.1 (f3 b hb).2.2.1,I3.stack,I3.stkFree⟩,
   rfl,I3.bare,Un.kept old,⟨_,hns₁,λi x v e1 e2 e3=>?_⟩,λx c e=>?_,I3.hok.fresh<|Gs _,λx c e=>freeC e,λp hp=>?_,I3.hok.kept old,?_⟩
  .rcases(f3 b hb).2.2.2.1 with z | z
   .exact I3.ok.noex b o e z
   .exact absurd (GT (Gv e)<|He I3.ok.bsz z)<|Im _
  .by_cases hi:i<k
   .unfold Z9 at e2;rw[ID (by simpa using hi),HW,Gp hi]at e2;cases e2
   .obtain⟨d,rfl⟩:∃d,i=k+d:=⟨i-k,by omega⟩;unfold Z9 at e2;rw[HV (by simp),IG,Nat.add_sub_cancel_left,GC]at e2;obtain⟨j,hj,hv⟩:=Hd.1 e2;have hσ:σ[j]? = some (some v):=by
     cases q:σ[j]? with
     | none=>rw[q]at hv;cases hv
     | some o=>rw[q]at hv;exact HJ some hv
    have e1':(N.drop k)[d]? = some x:=by rw[List.getElem?_drop];exact e1
    have hx:X.N[j]? = some x:=by
     have z:=HJ (λl=>l[d]?) hcap.capx;simp only[GC,hj,e1',KJ]at z;exact Gy z
    have hfr:=hcap.capf x<|HF e1';have hfm:=Hs hfr;have hok:=hcap.free _ hfm rfl;rw[<-hosc]at hok;obtain⟨m,hn,hl⟩:=I3.loc;obtain⟨u,r,l⟩:=hl j x v hx hσ<|.inr hok;refine⟨u,r,?_⟩;rcases l with ⟨hk,_⟩ | ⟨hk,c,hc1,hc2⟩
    .have hk:X.env.scope.names.lookup x=some .local:=hk;rcases hok with z | z <;> (rw[hk]at z;cases z)
    .obtain⟨c',hc'⟩:=hhas x hfm;have:c'=c:=Gy<|(hcl hc').symm.trans hc1;subst this;exact .inr ⟨gG hfr,c',(ownF hfr).trans hc',hc2.keeps old⟩
  .rcases ownS e with ⟨_,_,a3,_⟩ | a
   .exact⟨_,a3⟩
   .obtain⟨v,z⟩:=I3.cell x c<|hcl a;exact⟨v,z.keeps old⟩
  .have hp:p∈(X.pn++pins)++[]:=hp;rw[HE]at hp;obtain⟨a1,a2,a3,a4,a5⟩:=I3.pin p hp;exact⟨old _ _ a1,a2,GR<|Gv a1,nofs a3 a4,a5⟩
  .show(Z9 k cap σ).length=N.length;unfold Z9;rw[Hm,IG,Gi,hcap.len]
 have stat:∀{H':Hp},(∀b∈fp,H' b=none)->∀b∈fp,aC (cxC X N scope (M2 scope cl s3.heap.objs.size) s3.heap.objs.size fp pins s3 H3) [] H' b:=λ{H'} hn b hb=>by
  obtain⟨a0,a1,a2,a3,a4,a5⟩:=f3 b hb;refine⟨hn b hb,neC b hb,nofs a1 a2,.inl hb,λx c e=>cne b hb e,λp hp=>a5 p ?_⟩;have hp:p∈(X.pn++pins)++[]:=hp;rwa [HE]at hp
 have loop:codeAny (model X.prog X.w) X.A (.compLoop (.ListComp elt (⟨tg,iter,ifs,0⟩::rest) scope pos) 0 (.ref it) (.ref D)<|compEnvC scope (M2 scope cl s3.heap.objs.size) s3.heap.objs.size X.env)
   (P s3.heap.objs.size) { s3 with heap:=h₁ }:=by
  refine BP (λn s'=>∃i σ' H',Inv (cxC X N scope (M2 scope cl s3.heap.objs.size) s3.heap.objs.size fp pins s3 H3) [] σ' H' s'/\tn i s'.heap/\(∀b∈fp,H' b=none)/\W i n σ' H') (hturn _) ?_ m0
   ⟨0,_,H3,IY,T.keep _ _ _ st λb _ o e=>old b o e,λb hb=>(f3 b hb).1,w0⟩
  rintro n s5 ⟨i,σ5,H5,I5,st5,fr5,w5⟩;rcases turn i n σ5 H5 w5 with ⟨stop,q⟩ | ⟨go,C,step,hno,hyes⟩
  .refine thn (T.done (cxC X N scope (M2 scope cl s3.heap.objs.size) s3.heap.objs.size fp pins s3 H3) rfl rfl rfl hc i [] s5 σ5 H5 _ I5 (stat fr5) st5 stop) λr s6 ⟨hr,I6⟩=>?_
   subst hr;have I7:Inv X pins σ H5 s6:=I3.call' I6.os I6.base I6.hok I6.bare λb hb=>by
    obtain⟨a0,a1,a2,a3,a4,a5⟩:=f3 b hb;exact⟨a3,a1,a4,a5⟩
   exact hend s6 σ5 H5 I6 I7 q
  .refine thn (T.item (cxC X N scope (M2 scope cl s3.heap.objs.size) s3.heap.objs.size fp pins s3 H3) rfl rfl rfl hc i [] s5 σ5 H5 _ I5 (stat fr5) st5 go) λr s6 ⟨u,hr,h6⟩=>?_
   subst hr;refine thn h6 λ_ s7 ⟨x,H7,I7,r7,y7,st7,fr7⟩=>?_
   have I7':=I7.pinned (stat fr7)<|T.obj _ _ st7;have keepI:∀{s':LC} {σ':St} {H':Hp},Inv (cxC X N scope (M2 scope cl s3.heap.objs.size) s3.heap.objs.size fp pins s3 H3) ([]++bT fp s7.heap) σ' H' s'->tn (i+1) s'.heap/\∀b∈fp,H' b=none:=λ{s' σ' H'} I'=>by
    refine⟨T.keep _ _ _ st7 λb hb o e=>(I'.pin (b,o)<|GG _<|GG _<|L7 hb e).1,λb hb=>?_⟩;obtain⟨o,e,d⟩:=T.obj _ _ st7 b hb;exact(I'.pin (b,o)<|GG _<|GG _<|L7 hb e).2.1
   refine thn (hg _ _ _ _ _ _ _ s7 σ5 H7 x u _ I7' r7<|step x H7 y7) λ_ s8 ⟨σ8,H8,I8,q8⟩=>?_
   refine thn (ht _ _ _ _ _ _ _ s8 σ8 H8 _ I8 q8) λok s9 ⟨H9,I9,q9⟩=>?_
   cases ok with
   | false =>
    obtain⟨m',hm,w9⟩:=hno _ _ q9;obtain⟨k1,k2⟩:=keepI I9;exact⟨m',hm,i+1,σ8,H9,I9.unpinned,k1,k2,w9⟩
   | true =>
    intro kk R E hk;refine hyes _ s9 σ8 H9 I9 q9 kk R E λs10 σ10 H10 I10 ⟨m',hm,w10⟩=>hk s10 ?_
    obtain⟨k1,k2⟩:=keepI I10;exact⟨m',hm,i+1,σ10,H10,I10.unpinned,k1,k2,w10⟩
 exact codeAny_compStart_list loop (T.self X.A 0 _ _ _ (T.keep _ _ _ st λb _ o e=>old b o e) loop)
def qo {X:Cx}{elt tg iter:LK}{ifs:List LK}{scope osc:LH}{pos:Pos}{N:List Str}{k:Nat}{cap:List Nat}{g:TG}{tt:TT}{te:TE}{cl:List (Str×LA)}
  {pins:List (LA×LO)} {σ:St} {H3:Hp} {s3:LC} {D it:LA} {fp:List LA} {tn:Nat->LL->Prop} {J:It} {Q:VK} {W:Nat->Nat->St->List V->Hp->Prop} {m0:Nat}
  (hc:X.calm=true) (hosc:X.env.scope=osc) (hcap:Caps X.N osc N k cap scope)
  (hcl:∀{x:Str} {c:LA},cl.lookup x=some c->X.env.cells.lookup x=some c) (hhas:∀x,(x,Me.free)∈scope.names->∃c,cl.lookup x=some c)
  (hg:∀cl C ex pins s H,PG (cxC X N scope cl C ex pins s H) tg g)
  (ht:∀cl C ex pins s H,PTs (cxC X N scope cl C ex pins s H) ifs tt)
  (he:∀cl C ex pins s H,PE (cxC X N scope cl C ex pins s H) elt te)
  (I3:Inv X pins σ H3 s3) (hD:H3 D=some (.lst [])) (T:Turn X.prog X.w X.K tg J fp it tn) (st:tn 0 s3.heap) (f3:∀b∈fp,aC X pins H3 b) (w0:W 0 m0 (Z9 k cap σ) [] H3)
  (turn:∀i m σ' acc H',W i m σ' acc H'->(J.stop i H'/\Q (.ref D) H') \/
   (J.go i H'/\∀x H2,J.yld i H' x H2->g x σ' H2 λσ2 H3=>tt σ2 H3 λok H4=>if ok=true then te σ2 H4 λy H5=>H5 D=some (.lst acc)/\acc.length<LM/\∃m',m'<m/\W (i+1) m' σ2 (acc++[y]) (upd H5 D<|.lst<|acc++[y])
    else H4 D=some (.lst acc)/\∃m',m'<m/\W (i+1) m' σ2 acc H4)) :
  LU (model X.prog X.w) X.A (newFunctionEnv scope X.env.globals cl [] X.env.qual none .none<|some X.env) (λcenv s₄ =>
   codeAny (model X.prog X.w) X.A (.compStart (.ListComp elt [⟨tg,iter,ifs,0⟩] scope pos) 0 (.ref it) (.ref D) { cenv with scope:=relabel scope X.env }) (compPost (model X.prog X.w) X.A X.xe none (EP X pins σ Q) (.ref D) cenv.locals) s₄) X.xe s3:=by
 refine dw (act:=λenv k=>do iY elt (.ref D) env;k) (P:=λC=>compPost (model X.prog X.w) X.A X.xe none (EP X pins σ Q) (.ref D) C) (Qs:=Q<|.ref D) (W:=λi m σ' H'=>∃acc,H' D=some (.lst acc)/\W i m σ' acc H') (λenv=>by rfl) hc hosc hcap hcl hhas hg ht I3 T st f3 ⟨[],hD,w0⟩ (λs6 σ5 H5 I6 I7 q=>?_) λi m σ' H' ⟨acc,hD',w⟩=>?_
 .obtain⟨m,hn,_⟩:=id I6.loc;refine⟨m,hn,λh' hsb=>?_⟩;obtain⟨g0,g1,g2,g3,g4,g5⟩:=I3.fpOk (H':=H5) (b:=s3.heap.objs.size) (Gs _) I6.free;exact⟨.ref D,H5,I7.turned (t':=s6.toks) (λb o hb e=>(hsb.2 b hb).trans e) g0 g1 g3 g4 g5,rfl,q⟩
 .rcases turn i m σ' acc H' w with h | ⟨go,step⟩
  .exact .inl h
  .refine .inr ⟨go,_,step,λσ2 H4 h=>?_,λpins' s σ2 H4 I h k R E hk=>?_⟩
   .obtain⟨hD9,m',hm,w9⟩:=(show H4 D=some (.lst acc)/\∃m',m'<m/\W (i+1) m' σ2 acc H4 from h);exact⟨m',hm,acc,hD9,w9⟩
   .refine Gh (Gh<|Hg (he _ _ _ _ _ _ _ s σ2 H4 _ I h) (λyv s10 ⟨y,H10,I10,r10,hD10,hz,m',hm,w10⟩=>?_) λ_ _ h'=>h'.elim);refine Gh (Hg (R7 (X:=cxC X N scope (M2 scope cl s3.heap.objs.size) s3.heap.objs.size fp pins s3 H3) _ s10 σ2 H10 (.ref D) [y] (.ref D) [yv] (λ_ H'=>H'=upd H10 D (.lst<|acc++[y])) I10 rfl (.cons r10 .nil) ⟨D,acc,y,rfl,rfl,hD10,hz,rfl⟩)
     (λ_ s11 ⟨_,H11,I11,_,e11⟩=>Gk ?_) λ_ _ h'=>h'.elim)
    subst e11;exact hk s11 σ2 _ I11 ⟨m',hm,_,f8,w10⟩
def xR {X:Cx}{elt tg iter:LK}{ifs:List LK}{scope osc:LH}{pos:Pos}{N:List Str}{k:Nat}{cap:List Nat}{wi:TI}{g:TG}{tt:TT}{te:TE}
  (hc:X.calm=true) (hosc:X.env.scope=osc) (hcap:Caps X.N osc N k cap scope) (hi:PI X tg iter wi)
  (hg:∀cl C ex pins s H,PG (cxC X N scope cl C ex pins s H) tg g)
  (ht:∀cl C ex pins s H,PTs (cxC X N scope cl C ex pins s H) ifs tt)
  (he:∀cl C ex pins s H,PE (cxC X N scope cl C ex pins s H) elt te)
  (hs:∀x,Ma iter X.env x=pure x:=by intro _;rfl) :
  PE X (.ListComp elt [⟨tg,iter,ifs,0⟩] scope pos) (tLC wi k cap g tt te):=by
 intro pins s σ H Q I h;have hcell:∀y∈scope.names,y.2 = .free->∃c,X.env.cells.lookup y.1=some c:=λy hy hk=>I.ok.has y.1 (by
  show X.env.scope.names.lookup y.1=_\/X.env.scope.names.lookup y.1=_;rw[hosc];exact hcap.free y hy hk)
 let f:Str->LA:=λx=>(X.env.cells.lookup x).getD 0
 have hf:∀y∈scope.names,y.2 = .free->X.env.cells.lookup y.1=some (f y.1):=λy hy hk=>by
  obtain⟨c,e⟩:=hcell y hy hk;show _=some ((X.env.cells.lookup y.1).getD 0);rw[e];rfl
 have hclos:closureFor scope X.env=pure (v8 f scope.names []):=y9 λy hy hk=>by
  unfold cellOf;rw[hf y hy hk]
 have hcl:∀{x:Str} {c:LA},(v8 f scope.names []).lookup x=some c->X.env.cells.lookup x=some c:=λ{x c} e=>by
  rcases C9 _ _ e with ⟨h1,h2⟩ | h1
  .rw[h2];exact hf (x,.free) h1 rfl
  .simp at h1
 have hhas:∀x,(x,Me.free)∈scope.names->∃c,(v8 f scope.names []).lookup x=some c:=λx hx=>⟨_,O1 _ _<|.inl hx⟩
 generalize v8 f scope.names []=cl at hclos hcl hhas;rw[eval_ListComp];refine Jp (use:=none) (cl:=cl) rfl hs hclos hcap.kind hcap.loc ?_;refine thn (hi pins s σ H _ I h) λv s1 h1=>thn h1 λitv s2 h2=>?_
 obtain⟨it,fp,tn,J,H2,e,I2,T,st2,f2,q2⟩:=h2;subst e;obtain⟨W,⟨m0,w0⟩,turn⟩:=q2 s2.heap.objs.size<|I2.hok.fresh<|Gs _;refine Hr ?_;have I3:Inv X pins σ (upd H2 s2.heap.objs.size<|.lst []) { s2 with heap:=s2.heap.push { cls:=.type "list",data:=.seq ([]:List Lz).toArray } }:=I2.lnew (ys:=[]) (its:=[]) (t':=s2.toks) .nil<|HA _;have lt2:∀b∈fp,b≠s2.heap.objs.size:=λb hb=>by
  obtain⟨o,e,_⟩:=T.obj _ _ st2 b hb;exact GR<|Gv e
 exact qo hc hosc hcap hcl hhas hg ht he I3 f8 T (T.keep _ _ (s2.heap.push { cls:=.type "list",data:=.seq ([]:List Lz).toArray }) st2 λb _ o e=>Gj _ e) (λb hb=>⟨by rw[d7<|lt2 b hb];exact(f2 b hb).1,(f2 b hb).2⟩) w0 turn
end
section
mutual
def b7 (K:Fg)(H:Hp):Ac->V->Prop
 | .none,v=>v = .non
 | .bool b,v=>v = .bl b
 | .int i,v=>v = .int i
 | .str x,v=>v = .str x
 | .tuple ds,v=>∃a xs,v = .ref a/\SqT K H a xs/\a8 K H ds xs
 | .list ds,v=>∃a xs,v = .ref a/\H a=some (.lst xs)/\a8 K H ds xs
 | .dict _,_=>False
def a8 (K:Fg)(H:Hp):List Ac->List V->Prop
 | [],xs=>xs=[]
 | d::ds,xs=>∃x r,xs=x::r/\b7 K H d x/\a8 K H ds r
end
section
variable {X:Cx}{pins:List (LA×LO)}{σ:St}{H:Hp}{s:LC}
mutual
theorem K1 (I:Inv X pins σ H s):∀(d:Ac) (v:V) (u:Lz),b7 X.K H d v->m7 v u->∃as,Reads s.heap u d as
 | .none,v,u,h,r=>by
  simp only[b7]at h;subst h;cases(show u=Lz.none from r);exact⟨_,.none⟩
 | .bool b,v,u,h,r=>by
  simp only[b7]at h;subst h;cases(show u=Lz.bool b from r);exact⟨_,.bool b⟩
 | .int i,v,u,h,r=>by
  simp only[b7]at h;subst h;obtain⟨t,rfl⟩:=(show ∃t,u=Lz.int i t from r);exact⟨_,.int i t⟩
 | .str x,v,u,h,r=>by
  simp only[b7]at h;subst h;obtain⟨t,rfl⟩:=(show ∃t,u=Lz.str x t from r);exact⟨_,.str x t⟩
 | .tuple ds,v,u,h,r=>by
  simp only[b7]at h;obtain⟨a,xs,rfl,hq,hd⟩:=h;cases(show u=Lz.ref a from r);obtain⟨its,rv,ht,_⟩:=I.tuple hq;obtain⟨o,h1,h2,n,h3⟩:=ht;obtain⟨as,ra⟩:=X4 I ds xs its hd rv;exact⟨_,.tuple h1 h2 h3 ra⟩
 | .list ds,v,u,h,r=>by
  simp only[b7]at h;obtain⟨a,xs,rfl,hq,hd⟩:=h;cases(show u=Lz.ref a from r);obtain⟨its,rv,ht,_⟩:=I.list<|SqL.of hq;obtain⟨o,h1,h2,n,h3⟩:=ht.isList;obtain⟨as,ra⟩:=X4 I ds xs its hd rv;exact⟨_,.list h1 h2 h3 ra⟩
 | .dict kvs,v,u,h,r=>by
  simp only[b7]at h
theorem X4 (I:Inv X pins σ H s):∀(ds:List Ac) (xs:List V) (us:List Lz),a8 X.K H ds xs->j6 xs us->∃as,ReadsAll s.heap us ds as
 | [],xs,us,h,r=>by
  simp only[a8]at h;subst h;cases r;exact⟨_,.nil⟩
 | d::ds,xs,us,h,r=>by
  simp only[a8]at h;obtain⟨x,rr,rfl,h1,h2⟩:=h;cases r with
  | cons r1 r2 =>
   obtain⟨as,ra⟩:=K1 I d x _ h1 r1;obtain⟨bs,rb⟩:=X4 I ds rr _ h2 r2;exact⟨_,.cons ra rb⟩
end
end
structure Shw (d:Ac) (dp n:Nat):Prop where
 sh:d.showable=true
 nd:d.hasDict=false
 de:d.depth<=dp
 ln:d.shown.length<=n
def Shw.int {i:Int}{k:Nat}(h:i.natAbs<2 ^ k)(hk:0<k)(hk2:k<=1900):Shw (.int i) 0 (k+20):=by
 have hlog:i.natAbs.log2<1920:=by
  by_cases h0:i.natAbs=0
  .rw[h0];decide
  .have:=(Nat.log2_lt h0).2 h;omega
 refine⟨by simp only[Ac.showable,hlog,Jn],by simp only[Ac.hasDict],by simp only[Ac.depth];omega,?_⟩;have hl2:i.natAbs.log2<k:=by
  by_cases h0:i.natAbs=0
  .rw[h0];exact hk
  .exact(Nat.log2_lt h0).2 h
 have e:=int_text_length_le hk hl2;simp only[Ac.shown];rw[PySem.ofString_length];omega
end
end L2
namespace HT
open PySem PyProof.Rows
section
variable {prog:LD}{w:LF}{A:LG}{E:Lz->LC->Prop}{s:LC}
def getItem_tuple_whole {t sl:LA}{items:Array Lz}{vl vu:Lz}{lo hi:Option Int}{Q:Lz->LC->Prop}(ht:IsTup s.heap t items)(hs:s.heap.IsSliceOf sl vl vu .none)(pl:IsPart vl lo)(pu:IsPart vu hi)
  (h0:sIx items.size 0 lo=0) (h1:sIx items.size items.size hi=items.size) (h:Q (.ref t) s):LU (model prog w) A (getItem (.ref t)<|.ref sl) Q E s:=by
 obtain⟨os,hos,hcs,hds⟩:=id hs;have hTs:s.TypeIs (.ref sl) "slice":=⟨os,hos,hcs⟩;unfold getItem;try with_reducible refine HB ?_
 first | refine Gh (Gk ?_) | skip
 refine Gh (wpAny_sequenceKey ht.typeIs (by decide) ?_);refine Gh (HX (name:=Str.ofString "__getitem__") ht.typeIs Hu
  (HK Hu ht.typeIs entry_tuple_getitem ?_<|args_tuple_getitem _ _))
 show LU _ _ (Builtin.Tuple.tupleItemsOf (.ref t) >>= _) _ _ s;refine Gh<|tupleItemsOf_ ht ?_;refine Gh<|JG hTs ?_;rw[Gp<|by decide];refine Gh<|R3 hs pl pu ?_;have hyes:(((sIx items.size 0 lo:Nat):Int) == 0&&(1:Int) == 1&&(sIx items.size items.size hi-sIx items.size 0 lo) == items.size)=true:=by
  rw[h0,h1];simp
 show LU _ _ (if (((sIx items.size 0 lo:Nat):Int) == 0&&(1:Int) == 1&&(sIx items.size items.size hi-sIx items.size 0 lo) == items.size)=true then _ else _) _ _ s;rw[Gp hyes];unfold Builtin.Tuple.tupleIsExact;refine Gh ?_;refine Gh<|JG ht.typeIs<|Gk ?_;rw[Gp<|by decide];exact Gh<|Iw<|Gk ⟨_,rfl,Gk h⟩
def lj (n:Nat):Builtin.Slice.sliceAdjust none none (-1) (n:Int)=((n:Int)-1,-1):=by
 unfold Builtin.Slice.sliceAdjust;simp
def kK (n:Nat):Builtin.Slice.slicePlaces ((n:Int)-1) (-1) (-1)=n:=by
 unfold Builtin.Slice.slicePlaces;rw[Gr<|by decide];split
 .rw[show(-(-1):Int)=1 by decide,Int.ediv_one];omega
 .omega
def bD {sl:LA}{vst:Lz}{n:Nat}{Q:Int×Int×Nat->LC->Prop}(hs:s.heap.IsSliceOf sl .none .none vst)(pst:IsPart vst (some (-1)))
  (h:Q ((n:Int)-1,-1,n) s):LU (model prog w) A (Builtin.Slice.sliceApplied (.ref sl)<|pure (n:Int)) Q E s:=by
 obtain⟨os,hos,hcs,hds⟩:=id hs;unfold Builtin.Slice.sliceApplied Builtin.Slice.sliceFields;refine Gh<|Gh<|Hy hos hds (x:=.none) rfl<|Gh<|Hy hos hds (x:=.none) rfl<|Gh<|Hy hos hds (x:=vst) rfl<|Gk ?_;refine Gh<|az pst ?_;show LU _ _ (if ((-1:Int) == 0)=true then _ else _) _ _ s;rw[Gr<|by decide];refine Gh<|slicePart_none<|Gh<|slicePart_none<|Gh<|Gk ?_;show LU _ _ (match Builtin.Slice.sliceAdjust none none (-1) (n:Int) with | (lo,hi)=>pure (lo,(-1:Int),Builtin.Slice.slicePlaces lo hi (-1))) _ _ s;rw[lj n];show LU _ _ (pure ((n:Int)-1,(-1:Int),Builtin.Slice.slicePlaces ((n:Int)-1) (-1) (-1))) _ _ s;rw[kK];exact Gk h
theorem S5 {α β:Type}{f g:α->Option β}:∀{l:List α},(∀x∈l,f x=g x)->l.filterMap f=l.filterMap g
 | [],_=>rfl
 | x::r,h=>by
  rw[Jt,Jt,h x Gx,S5 λy hy=>h y<|Gq _ hy]
def su (xs:Array Lz):((List.range xs.size).filterMap λ(m:Nat)=>xs[(((xs.size:Int)-1)+(m:Int)*(-1)).toNat]?).toArray=xs.toList.reverse.toArray:=by
 congr 1;have e:((List.range xs.size).filterMap λ(m:Nat)=>xs[(((xs.size:Int)-1)+(m:Int)*(-1)).toNat]?)=(List.range xs.size).filterMap λm=>xs.toList.reverse[m]?:=by
  refine S5 λm hm=>?_
  have hm:=GJ.1 hm;rw[List.getElem?_reverse<|by simpa using hm];have:(((xs.size:Int)-1)+(m:Int)*(-1)).toNat=xs.toList.length-1-m:=by
   rw[IA];omega
  rw[this];simp
 rw[e];have:=PySem.W.krv_all xs.toList.reverse.toArray;simpa using this
def getItem_tuple_rev {t sl:LA}{items:Array Lz}{vst:Lz}{Q:Lz->LC->Prop}(ht:IsTup s.heap t items)(hs:s.heap.IsSliceOf sl .none .none vst)(pst:IsPart vst (some (-1)))
  (h:Q (.ref s.heap.objs.size) { s with heap:=s.heap.push { cls:=.type "tuple",data:=.seq items.toList.reverse.toArray } })
  (hsz:items.size<=LM):LU (model prog w) A (getItem (.ref t)<|.ref sl) Q E s:=by
 have htake:sizeOk (.seq items.toList.reverse.toArray):=by
  show items.toList.reverse.toArray.size<=LM;rw[Gw,KR,IA];exact hsz
 obtain⟨os,hos,hcs,hds⟩:=id hs;have hTs:s.TypeIs (.ref sl) "slice":=⟨os,hos,hcs⟩;unfold getItem;try with_reducible refine HB ?_
 first | refine Gh (Gk ?_) | skip
 refine Gh (wpAny_sequenceKey ht.typeIs (by decide) ?_);refine Gh (HX (name:=Str.ofString "__getitem__") ht.typeIs Hu
  (HK Hu ht.typeIs entry_tuple_getitem ?_<|args_tuple_getitem _ _))
 show LU _ _ (Builtin.Tuple.tupleItemsOf (.ref t) >>= _) _ _ s;refine Gh<|tupleItemsOf_ ht ?_;refine Gh<|JG hTs ?_;rw[Gp<|by decide];refine Gh<|bD hs pst ?_;have hno:¬(((items.size:Int)-1 == 0&&(-1:Int) == 1&&items.size == items.size)=true):=by simp
 show LU _ _ (if ((items.size:Int)-1 == 0&&(-1:Int) == 1&&items.size == items.size)=true then _ else _) _ _ s;rw[Gr hno,su];first
  | exact Gh (m:=Builtin.Tuple.tupleExact _)<|Hr (Gk ⟨_,rfl,Gk h⟩) htake
  | exact Gh (m:=Builtin.Tuple.tupleExact _)<|Hr (Gh<|Gk<|Gk ⟨_,rfl,Gk h⟩) htake
  | exact Gh<|Gh (m:=Builtin.Tuple.tupleExact _)<|Hr (Gk<|Gk ⟨_,rfl,Gk h⟩) htake
  | exact Gh<|Gh (m:=Builtin.Tuple.tupleExact _)<|Hr (Gk ⟨_,rfl,Gk h⟩) htake
end
end HT
namespace L2
open PySem PySem.Spec PyProof.Rows
section
section
variable {X:Cx}
def ye (K:Fg):V->Option Int->Option Int->Hp->VK->Prop:=λx lo hi H Q=>∃a xs,x = .ref a/\SqT K H a xs/\((bC xs lo hi=xs/\HT.sIx xs.length 0 lo=0/\HT.sIx xs.length xs.length hi=xs.length->Q (.ref a) H) /\
 (¬(HT.sIx xs.length 0 lo=0/\HT.sIx xs.length xs.length hi=xs.length)->∀p,H p=none->Q (.ref p) (upd H p<|.tup<|bC xs lo hi)))
def vC:SlR X (ye X.K):=by
 intro pins s σ H x v vl vu lo hi sl Q I rx hs pl pu h;obtain⟨a,xs,rfl,hx,hw,hn⟩:=h;by_cases hc:HT.sIx xs.length 0 lo=0/\HT.sIx xs.length xs.length hi=xs.length
 .cases rx;obtain⟨its,r,ht,hz⟩:=I.tuple hx;have hlen:its.toArray.size=xs.length:=by rw[Gw];exact r.length.symm
  have hq:=hw ⟨by unfold bC;rw[hc.1,hc.2];simp,hc.1,hc.2⟩;exact⟨"tuple",_,Hu.lookup,ht.typeIs,HT.getItem_tuple_whole ht hs pl pu (by rw[hlen];exact hc.1) (by rw[hlen];exact hc.2) ⟨.ref a,H,I,rfl,hq⟩⟩
 .exact yC pins s σ H (.ref a) v vl vu lo hi sl Q I rx hs pl pu ⟨a,xs,rfl,hx,hc,hn hc⟩
def uL (hc:X.calm=true):E7 X (.builtin "sum") (λxs H Q=>∃(a:LA) (ns:List Int),xs=[.ref a]/\SqL X.K H a (ns.map V.int)/\Q (.int ns.sum) H):=by
 intro pins s σ H xs us Q I r h;obtain⟨a,ns,rfl,hq,q⟩:=h;obtain⟨u,rfl,ru⟩:=Y6 r;cases ru;obtain⟨its,rv,p,hz⟩:=I.list hq;have hi:=U9 rv;obtain⟨zs,hzs⟩:=hi.allInts.items;have hl:s.heap.IsList a (intItems zs):=hzs▸p.isList;refine sum_intListG (I.ok.hd hc) hl λh' tk t' hk=>⟨.int ns.sum,H,I.kept hk,⟨t',?_⟩,q⟩
 have hn:=hi.numsOf;have e:numsOf (intItems zs).toList=ns:=by rw[<-hzs];exact hn
 rw[nums_intItems]at e;rw[preSum_eq,HD (by simp),e]
def zT (K:Fg):R2:=λx y H Q=>∃a b xs,x = .ref a/\y = .ref b/\SqL K H a xs/\SqL K H b []/\Q (.bl (!xs.isEmpty)) H
def tL (hu:X.A.units<Mc):OpR X (compareOp .NotEq) (zT X.K):=by
 intro pins s σ H x y v u Q I rx ry h;obtain⟨a,b,xs,rfl,rfl,ha,hb,q⟩:=h;cases rx;cases ry;obtain⟨its,rv,p,hz⟩:=I.list ha;obtain⟨its2,rv2,p2,hz2⟩:=I.list hb;cases rv2;cases rv with
 | nil=>exact(SeqAt.RcNeAt.lists (e:=λ_=>true) p.isList p2.isList rfl hu λj h1 _=>absurd h1<|by simp) _ _ _ _ ⟨.bl false,H,I,rfl,q⟩
 | cons r1 r2=>exact(SeqAt.RcNeAt.lists_lengths p.isList p2.isList (by simp) hu) _ _ _ _ ⟨.bl true,H,I,rfl,q⟩
def yi (i j k:Nat)(ta:TA):TS:=λD σ H=>ta σ H λvs H1=>∃u v w,vs=[u,v,w]/\D.nx (((σ.set i<|some u).set j<|some v).set k<|some w) H1
def vA {i j k:Nat}{x y z:Str}{a b c:LK}{ta:TA}{px py pz pt pos:Pos}{kt k2 pt2}(hc:X.calm=true)(hN:X.N.Nodup)(hi:X.N[i]? = some x)(hj:X.N[j]? = some y)(hk:X.N[k]? = some z)(hij:i≠j)(hik:i≠k)(hjk:j≠k)
  (hx:X.env.scope.names.lookup x=some .local) (hy:X.env.scope.names.lookup y=some .local) (hz:X.env.scope.names.lookup z=some .local) (ha:PA X [a,b,c] ta)
  (hw:swappedStores [.Tuple [.Name x px,.Name y py,.Name z pz] kt pt] (.Tuple [a,b,c] k2 pt2) X.env=pure (some [x,y,z]))
  (hs:swapsWithSole [.Tuple [.Name x px,.Name y py,.Name z pz] kt pt] (.Tuple [a,b,c] k2 pt2) pos.line X.env=pure false:=by rfl) :
  PS X (.Assign [.Tuple [.Name x px,.Name y py,.Name z pz] kt pt] (.Tuple [a,b,c] k2 pt2) pos) (yi i j k ta):=by
 intro pins s σ H D I h;rw[exec_Assign_arm];refine Gh<|IM ?_;rw[hs];refine Gh<|Gk ?_;rw[Gr<|by decide];refine Gh (Tuple_<|thn (ha _ pins s σ H _ I h) λus s1 ⟨vs,H1,I1,r1,q1⟩=>?_);obtain⟨v,w,t,e1,q1⟩:=q1;subst e1;obtain⟨u1,u2,u3,rfl,rv,rw',rt⟩:∃u1 u2 u3,us=[u1,u2,u3]/\m7 v u1/\m7 w u2/\m7 t u3:=by
  cases r1 with
  | cons p q =>
   cases q with
   | cons p' q' =>
    cases q' with
    | cons p'' q'' =>
     cases q'';exact⟨_,_,_,rfl,p,p',p''⟩
 refine Hr ?_ (by show 3<=LM;decide);have I2:Inv X pins σ H1 { s1 with heap:=s1.heap.push { cls:=.type "tuple",data:=.seq [u1,u2,u3].toArray } }:=I1.kept (t':=s1.toks) λb o e=>Gj _ e
 rw[hw];refine Gh<|Gk ?_;show LU (model X.prog X.w) X.A (do rule "assign.swapped-stores";let items <-unpackItems (.ref s1.heap.objs.size) 3 none;assignInOrder [λv=>bindName X.env z v,λv=>bindName X.env y v,λv=>bindName X.env x v] items.reverse;pure Flow.next) _ _ _;refine Gh (Iw<|Gh<|unpackItems_tuple (items:=#[u1,u2,u3]) (I.ok.hd hc) (JZ s1.heap _) λh' hx'=>?_);have I3:=I2.kept (h':=h') (t':=s1.toks) λb o e=>hx' b o (GR<|Gv e) e
 show LU _ _ (assignInOrder [λv=>bindName X.env z v,λv=>bindName X.env y v,λv=>bindName X.env x v] [u3,u2,u1] >>= λ_=>pure Flow.next) _ _ _;refine Gh (Jd<|Ki<|D8 I3 hN hk (.inl hz) rt (λs2 I4=>?_)<|.inr hz);refine Jd (Ki<|D8 I4 hN hj (.inl hy) rw' (λs3 I5=>?_)<|.inr hy);refine Jd (Ki<|D8 I5 hN hi (.inl hx) rv (λs4 I6=>assignInOrder_nil<|Gk ?_)<|.inr hx);rw[Lf _ _<|Ie hjk,Lf _ _<|Ie hik,Lf _ _<|Ie hij]at I6;exact⟨_,H1,I6,q1⟩
end
end
section
def l4 (P:LD)(w:LF)(K:Fg)(mg:Str->Option Lz)(base:LL)(x:Str)(k:Nat)(ps:List Str)(sp:Sp):Prop :=
 ∃f fd,FnOk P w K mg base CX0 k f fd ps sp/\mg x=some (.ref f)/\PySem.W.keepIn K (.ref f)=true/\cR K fd ps []
def fY {X:Cx}{x:Str}{k:Nat}{ps:List Str}{sp:Sp}{p pos:Pos}{e:LK}{es:List LK}{t:TA}(C:l4 X.prog X.w X.K X.mg X.base x k ps sp)(hr:Room k X.A)(hg:Gl X x)(ha:PA X (e::es) t)
  (hdb:(x == ("__debug__":Str))=false:=by decide) (he:LN (e::es) X.env=(false,eval e X.env)::LN es X.env:=by rfl) (hpl:(LR pos<|LN es X.env).any (·.1)=false:=by rfl) :
  PE X (.Call (.Name x p) (e::es) [] pos) (gk sp [] E0 t):=by
 obtain⟨f,fd,G,m,kp,b⟩:=C;exact wJ G hr hg m kp b .nil AS ha hdb he hpl
def KpE (D:LA->Prop)(H H':Hp):Prop:=∀b o,H b=some o->¬D b->H' b=some o
def SqT.kp {K:Fg}{H H':Hp}{a:LA}{xs:List V}{D:LA->Prop}(h:SqT K H a xs)(k:KpE D H H')(hD:∀b,D b->∃kvs,H b=some (.dK kvs)):SqT K H' a xs:=by
 rcases h with (h | ⟨o,h⟩) | h
 .refine .inl (.inl<|k _ _ h λz=>?_);obtain⟨kvs,e⟩:=hD _ z;rw[h]at e;cases e
 .refine .inl (.inr ⟨o,k _ _ h λz=>?_⟩);obtain⟨kvs,e⟩:=hD _ z;rw[h]at e;cases e
 .exact .inr h
section
variable {K:Fg}{H H':Hp}{D:LA->Prop}
mutual
theorem b7.kp (k:KpE D H H')(hD:∀b,D b->∃kvs,H b=some (.dK kvs)):∀(d:Ac) (v:V),b7 K H d v->b7 K H' d v
 | .none,v,h=>by simpa only[b7] using h
 | .bool b,v,h=>by simpa only[b7] using h
 | .int i,v,h=>by simpa only[b7] using h
 | .str x,v,h=>by simpa only[b7] using h
 | .tuple ds,v,h=>by
  simp only[b7]at h ⊢;obtain⟨a,xs,e,hq,hd⟩:=h;exact⟨a,xs,e,hq.kp k hD,a8.kp k hD ds xs hd⟩
 | .list ds,v,h=>by
  simp only[b7]at h ⊢;obtain⟨a,xs,e,hq,hd⟩:=h;refine⟨a,xs,e,k _ _ hq λz=>?_,a8.kp k hD ds xs hd⟩;obtain⟨kvs,e⟩:=hD _ z;rw[hq]at e;cases e
 | .dict kvs,v,h=>by simp only[b7]at h
theorem a8.kp (k:KpE D H H')(hD:∀b,D b->∃kvs,H b=some (.dK kvs)):∀(ds:List Ac) (xs:List V),a8 K H ds xs->a8 K H' ds xs
 | [],xs,h=>by simpa only[a8] using h
 | d::ds,xs,h=>by
  simp only[a8]at h ⊢;obtain⟨x,r,e,h1,h2⟩:=h;exact⟨x,r,e,b7.kp k hD d x h1,a8.kp k hD ds r h2⟩
end
end
def d9.kpE {H H':Hp}(s:d9 H H'):KpE (λ_=>False) H H':=λb o h _=>s b o h
def b7.same {K:Fg}{H H':Hp}{d:Ac}{v:V}(h:b7 K H d v)(s:d9 H H'):b7 K H' d v:=b7.kp s.kpE (λ_ z=>z.elim) d v h
def a8.same {K:Fg}{H H':Hp}{ds:List Ac}{xs:List V}(h:a8 K H ds xs)(s:d9 H H'):a8 K H' ds xs:=a8.kp s.kpE (λ_ z=>z.elim) ds xs h
def SqT.same {K:Fg}{H H':Hp}{a:LA}{xs:List V}(h:SqT K H a xs)(s:d9 H H'):SqT K H' a xs:=h.kp s.kpE (λ_ z=>z.elim)
def d9.upd {H:Hp}{p:LA}{o:HO}(hp:H p=none):d9 H (upd H p o):=λb u e=>by rw[d7<|f9 e hp];exact e
section
variable {K:Fg}{H:Hp}
theorem a8.length:∀{ds:List Ac} {xs:List V},a8 K H ds xs->xs.length=ds.length
 | [],xs,h=>by simp only[a8]at h;subst h;rfl
 | d::ds,xs,h=>by
  simp only[a8]at h;obtain⟨x,r,rfl,h1,h2⟩:=h;rw[GM,GM,h2.length]
theorem a8.get:∀{ds:List Ac} {xs:List V} {i:Nat} {x:V},a8 K H ds xs->xs[i]? = some x->∃d,ds[i]? = some d/\b7 K H d x
 | [],xs,i,x,h,e=>by simp only[a8]at h;subst h;simp at e
 | d::ds,xs,i,x,h,e=>by
  simp only[a8]at h;obtain⟨y,r,rfl,h1,h2⟩:=h;cases i with
  | zero=>simp at e;subst e;exact⟨d,rfl,h1⟩
  | succ i=>simpa using h2.get (i:=i) (by simpa using e)
theorem a8.snoc:∀{ds:List Ac} {xs:List V} {d:Ac} {x:V},a8 K H ds xs->b7 K H d x->a8 K H (ds++[d]) (xs++[x])
 | [],xs,d,x,h,h'=>by simp only[a8]at h;subst h;simp only[Ho,a8];exact⟨x,[],rfl,h',rfl⟩
 | e::ds,xs,d,x,h,h'=>by
  simp only[a8]at h;obtain⟨y,r,rfl,h1,h2⟩:=h;simp only[Hh,a8];exact⟨y,r++[x],rfl,h1,h2.snoc h'⟩
theorem a8.append {ds':List Ac}{xs':List V}(h':a8 K H ds' xs'):∀{ds:List Ac} {xs:List V},a8 K H ds xs->a8 K H (ds++ds') (xs++xs')
 | [],xs,h=>by simp only[a8]at h;subst h;simpa using h'
 | e::ds,xs,h=>by
  simp only[a8]at h;obtain⟨y,r,rfl,h1,h2⟩:=h;simp only[Hh,a8];exact⟨y,r++xs',rfl,h1,a8.append h' h2⟩
theorem a8.reverse:∀{ds:List Ac} {xs:List V},a8 K H ds xs->a8 K H ds.reverse xs.reverse
 | [],xs,h=>by simp only[a8]at h;subst h;simp[a8]
 | d::ds,xs,h=>by
  simp only[a8]at h;obtain⟨y,r,rfl,h1,h2⟩:=h;rw[Kq,Kq];exact(a8.reverse h2).snoc h1
theorem a8.take:∀{ds:List Ac} {xs:List V} (n:Nat),a8 K H ds xs->a8 K H (ds.take n) (xs.take n)
 | [],xs,n,h=>by simp only[a8]at h;subst h;simp[a8]
 | d::ds,xs,0,h=>by simp[a8]
 | d::ds,xs,n+1,h=>by
  simp only[a8]at h;obtain⟨y,r,rfl,h1,h2⟩:=h;simp only[List.take_succ_cons,a8];exact⟨y,r.take n,rfl,h1,a8.take n h2⟩
def b7.tup {ds:List Ac}{xs:List V}{a:LA}(h:H a=some (.tup xs))(h2:a8 K H ds xs):b7 K H (.tuple ds) (.ref a):=by
 simp only[b7];exact⟨a,xs,rfl,SqT.of h,h2⟩
def b7.lst {ds:List Ac}{xs:List V}{a:LA}(h:H a=some (.lst xs))(h2:a8 K H ds xs):b7 K H (.list ds) (.ref a):=by
 simp only[b7];exact⟨a,xs,rfl,h,h2⟩
def a8.nil:a8 K H [] []:=by simp only[a8]
def a8.cons {d:Ac}{x:V}{ds:List Ac}{xs:List V}(h:b7 K H d x)(h2:a8 K H ds xs):a8 K H (d::ds) (x::xs):=by
 simp only[a8];exact⟨x,xs,rfl,h,h2⟩
def b7.int {i:Int}:b7 K H (.int i) (.int i):=by simp only[b7]
def b7.bl {b:Bool}:b7 K H (.bool b) (.bl b):=by simp only[b7]
def b7.st {x:Str}:b7 K H (.str x) (.str x):=by simp only[b7]
def b7.non:b7 K H .none .non:=by simp only[b7]
def b7.ofTup {ds:List Ac}{v:V}(h:b7 K H (.tuple ds) v):∃a xs,v = .ref a/\SqT K H a xs/\a8 K H ds xs:=by simpa only[b7] using h
end
def sF {J:It}{D:LA}(n:Nat){g:TG}{tt:TT}{te:TE}{Q:Hp->Prop}{σ0:St}{H0:Hp}(Pv:Nat->St->List V->Hp->Prop)(h0:Pv 0 σ0 [] H0)
  (hgo:∀i σ acc H,i<n->Pv i σ acc H->J.go i H) (hstop:∀σ acc H,Pv n σ acc H->J.stop n H)
  (hs:∀i σ acc H,i<n->Pv i σ acc H->∀x H2,J.yld i H x H2->∀R:St->List V->Hp->Prop,(∀σ acc H,Pv (i+1) σ acc H->R σ acc H) ->
   g x σ H2 λσ2 H3=>tt σ2 H3 λok H4=>if ok=true then te σ2 H4 λy H5=>H5 D=some (.lst acc)/\acc.length<LM/\R σ2 (acc++[y]) (upd H5 D<|.lst<|acc++[y]) else H4 D=some (.lst acc)/\R σ2 acc H4)
  (hd:∀σ acc H,Pv n σ acc H->Q H) :
  ∃W:Nat->Nat->St->List V->Hp->Prop,(∃m,W 0 m σ0 [] H0)/\∀i m σ' acc H',W i m σ' acc H' ->
  (J.stop i H'/\Q H') \/
  (J.go i H'/\∀x H2,J.yld i H' x H2->g x σ' H2 λσ2 H3=>tt σ2 H3 λok H4=>if ok=true then te σ2 H4 λy H5=>H5 D=some (.lst acc)/\acc.length<LM/\∃m',m'<m/\W (i+1) m' σ2 (acc++[y]) (upd H5 D<|.lst<|acc++[y])
   else H4 D=some (.lst acc)/\∃m',m'<m/\W (i+1) m' σ2 acc H4):=by
 refine⟨λi m σ acc H=>m=n-i/\i<=n/\Pv i σ acc H,⟨n,by simp,HA _,h0⟩,?_⟩;rintro i m σ acc H ⟨rfl,hi,p⟩;by_cases hlt:i<n
 .exact .inr ⟨hgo i σ acc H hlt p,λx H2 y=>hs i σ acc H hlt p x H2 y (λσ acc H=>∃m',m'<n-i/\m'=n-(i+1)/\i+1<=n/\Pv (i+1) σ acc H) λσ acc H q=>⟨n-(i+1),by omega,rfl,hlt,q⟩⟩
 .have e:i=n:=by omega
  subst e;exact .inl ⟨hstop σ acc H p,hd σ acc H p⟩
end
section
section
variable {X:Cx}{K:Fg}
def mU {es:List LK}{k:Nat}{t:TGs}{n:Nat}{pos:Pos}(hK:X.K=K)(hc:X.calm=true)(h:PGs X es t)
  (hn:(Mb es X.env).length=n:=by rfl) (hst:(Mb es X.env).findIdx? (·.1)=none:=by rfl):PG X (.Tuple es k pos) (vV K n t):=by
 subst hK;exact zB hc h hn hst
def wB (hK:X.K=K):IxR X (Bw K):=by subst hK;exact yx
def rf (hK:X.K=K):IxR X (wR K):=by subst hK;exact K3
def ah (hK:X.K=K):E7 X (.builtin "len") (λxs H Q=>∃p ys,xs=[.ref p]/\(SqL K H p ys\/SqT K H p ys)/\Q (.int ys.length) H):=by subst hK;exact U7
def W6 (hK:X.K=K):E7 X (.type "tuple") (λxs H Q=>∃p ys,xs=[.ref p]/\((SqL K H p ys/\∀l,H l=none->Q (.ref l) (upd H l<|.tup ys))\/(SqT K H p ys/\Q (.ref p) H))):=by subst hK;exact fz
def rF (hK:X.K=K):SlR X (ye K):=by subst hK;exact vC
def oN {a:LK}{ta:TE}(hK:X.K=K)(ha:PE X a ta)(he:∀whole,isTrue a X.env whole=(do let v <-whole;standAt a.pos;holding [v] (truthy v))) :
  PT X a (λσ H Q=>ta σ H λx H'=>∃k,sX K x H' k/\Q k H'):=by subst hK;exact uI ha he
end
end
section
section
variable {X:Cx}{K:Fg}
def BQ (K:Fg):R2:=λx y H Q=>∃a b xs ys,x = .ref a/\y = .ref b/\SqT K H a xs/\SqT K H b ys/\xs.length+ys.length<=LM /\
 (xs=[]->Q (.ref b) H)/\(ys=[]->Q (.ref a) H)/\∀p,H p=none->Q (.ref p) (upd H p<|.tup<|xs++ys)
def vy (hK:X.K=K):OpR X (binaryOp .Add) (BQ K):=by
 subst hK;intro pins s σ H x y v u Q I rx ry h;obtain⟨a,b,xs,ys,rfl,rfl,ha,hb,hz,q0,q1,q2⟩:=h;by_cases hx:xs=[]
 .cases rx;cases ry;obtain⟨its,r1,p1,_⟩:=I.tuple ha;obtain⟨its2,r2,p2,_⟩:=I.tuple hb;subst hx;cases r1;obtain⟨⟨cls,dd,data,sl⟩,ho,hc,n,hd⟩:=id p1;obtain⟨⟨cls2,dd2,data2,sl2⟩,ho2,hc2,n2,hd2⟩:=id p2;simp only at hc hd hc2 hd2;subst hc hd hc2 hd2;exact concat_meets ⟨_,ho,rfl⟩ ⟨_,ho2,rfl⟩ noFill_tuple_add seq_tuple_add Kt Kk (Kc _ _)
   (tuple_addW0 a b #[] its2.toArray n n2 dd dd2 sl sl2 rfl) ⟨ho,ho2,⟨.ref b,H,I,rfl,q0 rfl⟩⟩
 .exact vK pins s σ H (.ref a) (.ref b) v u Q I rx ry ⟨a,b,xs,ys,rfl,rfl,ha,hb,hx,hz,q1,λ_=>q2⟩
end
end
section
def pA {X:Cx}{y:Str}{py:Pos}{ix:Nat}{elt tg iter:LK}{ifs:List LK}{scope osc:LH}{pos:Pos}{N:List Str}{k:Nat}{cap:List Nat}{g:TG}{tt:TT}{te:TE}{cl:List (Str×LA)}
  {pins:List (LA×LO)} {σ:St} {H3:Hp} {s3:LC} {D it:LA} {fp:List LA} {tn:Nat->LL->Prop} {J:It} {Q:St->Hp->Prop} {W:Nat->Nat->St->List V->Hp->Prop} {m0:Nat}
  (hNd:X.N.Nodup) (hix:X.N[ix]? = some y) (hLy:Loc X.env.scope y) (hfy:X.fn y=true\/X.env.scope.names.lookup y=some .local)
  (hc:X.calm=true) (hosc:X.env.scope=osc) (hcap:Caps X.N osc N k cap scope)
  (hcl:∀{x:Str} {c:LA},cl.lookup x=some c->X.env.cells.lookup x=some c) (hhas:∀x,(x,Me.free)∈scope.names->∃c,cl.lookup x=some c)
  (hg:∀cl C ex pins s H,PG (cxC X N scope cl C ex pins s H) tg g)
  (ht:∀cl C ex pins s H,PTs (cxC X N scope cl C ex pins s H) ifs tt)
  (he:∀cl C ex pins s H,PE (cxC X N scope cl C ex pins s H) elt te)
  (I3:Inv X pins σ H3 s3) (hD:H3 D=some (.lst [])) (T:Turn X.prog X.w X.K tg J fp it tn) (st:tn 0 s3.heap) (f3:∀b∈fp,aC X pins H3 b) (w0:W 0 m0 (Z9 k cap σ) [] H3)
  (turn:∀i m σ' acc H',W i m σ' acc H'->(J.stop i H'/\Q (σ.set ix<|some<|.ref D) H') \/
   (J.go i H'/\∀x H2,J.yld i H' x H2->g x σ' H2 λσ2 H3=>tt σ2 H3 λok H4=>if ok=true then te σ2 H4 λy H5=>H5 D=some (.lst acc)/\acc.length<LM/\∃m',m'<m/\W (i+1) m' σ2 (acc++[y]) (upd H5 D<|.lst<|acc++[y])
    else H4 D=some (.lst acc)/\∃m',m'<m/\W (i+1) m' σ2 acc H4)) :
  LU (model X.prog X.w) X.A (newFunctionEnv scope X.env.globals cl [] X.env.qual none .none<|some X.env) (λcenv s₄ =>
   codeAny (model X.prog X.w) X.A (.compStart (.ListComp elt [⟨tg,iter,ifs,0⟩] scope pos) 0 (.ref it) (.ref D) { cenv with scope:=relabel scope X.env }) (compPost (model X.prog X.w) X.A X.xe (some<|assign (.Name y py) X.env) (λ_ s'=>∃σ' H',Inv X pins σ' H' s'/\Q σ' H') (.ref D) cenv.locals) s₄) X.xe s3:=by
 refine dw (act:=λenv k=>do iY elt (.ref D) env;k) (P:=λC=>compPost (model X.prog X.w) X.A X.xe (some<|assign (.Name y py) X.env) (λ_ s'=>∃σ' H',Inv X pins σ' H' s'/\Q σ' H') (.ref D) C) (Qs:=λH'=>Q (σ.set ix<|some<|.ref D) H') (W:=λi m σ' H'=>∃acc,H' D=some (.lst acc)/\W i m σ' acc H') (λenv=>by rfl) hc hosc hcap hcl hhas hg ht I3 T st f3 ⟨[],hD,w0⟩ (λs6 σ5 H5 I6 I7 q=>?_) λi m σ' H' ⟨acc,hD',w⟩=>?_
 .obtain⟨m,hn,_⟩:=id I6.loc;obtain⟨g0,g1,g2,g3,g4,g5⟩:=I3.fpOk (H':=H5) (b:=s3.heap.objs.size) (Gs _) I6.free;obtain⟨o,es,ep,ho,hdat,rest⟩:=id hn;have I7p:Inv X (pins++[(s3.heap.objs.size,o)]) σ H5 s6:=I7.pins_of λp hp=>by
   rcases GP.1 hp with z | z
   .exact I7.pin p<|GG _ z
   .rw[HQ.1 z];exact⟨ho,g0,g1,g2,λv z=>by have z':o.data = .cell v:=z;rw[hdat]at z';cases z'⟩
  show LU (model X.prog X.w) X.A (assign (.Name y py) X.env<|.ref D) _ _ s6;refine wpAny_assign_Name (D8 I7p hNd hix hLy (v:=.ref D) rfl (λs7 I8=>?_) hfy);have hC7:=(I8.pin (s3.heap.objs.size,o)<|GG _<|GG _<|HQ.2 rfl).1;refine⟨m,⟨o,es,ep,hC7,hdat,rest⟩,λh' hsb=>?_⟩;exact⟨_,H5,I8.unpinned.turned (t':=s7.toks) (λb o hb e=>(hsb.2 b hb).trans e) g0 g1 g3 g4 g5,q⟩
 .rcases turn i m σ' acc H' w with h | ⟨go,step⟩
  .exact .inl h
  .refine .inr ⟨go,_,step,λσ2 H4 h=>?_,λpins' s σ2 H4 I h k R E hk=>?_⟩
   .obtain⟨hD9,m',hm,w9⟩:=(show H4 D=some (.lst acc)/\∃m',m'<m/\W (i+1) m' σ2 acc H4 from h);exact⟨m',hm,acc,hD9,w9⟩
   .refine Gh (Gh<|Hg (he _ _ _ _ _ _ _ s σ2 H4 _ I h) (λyv s10 ⟨y,H10,I10,r10,hD10,hz,m',hm,w10⟩=>?_) λ_ _ h'=>h'.elim);refine Gh (Hg (R7 (X:=cxC X N scope (M2 scope cl s3.heap.objs.size) s3.heap.objs.size fp pins s3 H3) _ s10 σ2 H10 (.ref D) [y] (.ref D) [yv] (λ_ H'=>H'=upd H10 D (.lst<|acc++[y])) I10 rfl (.cons r10 .nil) ⟨D,acc,y,rfl,rfl,hD10,hz,rfl⟩)
     (λ_ s11 ⟨_,H11,I11,_,e11⟩=>Gk ?_) λ_ _ h'=>h'.elim)
    subst e11;exact hk s11 σ2 _ I11 ⟨m',hm,_,f8,w10⟩
def jL {X:Cx}{y:Str}{py spos:Pos}{ix:Nat}{elt tg iter:LK}{ifs:List LK}{scope osc:LH}{pos:Pos}{N:List Str}{k:Nat}{cap:List Nat}{wi:TI}{g:TG}{tt:TT}{te:TE}
  (hNd:X.N.Nodup) (hix:X.N[ix]? = some y) (hLy:Loc X.env.scope y)
  (hc:X.calm=true) (hosc:X.env.scope=osc) (hcap:Caps X.N osc N k cap scope) (hi:PI X tg iter wi)
  (hg:∀cl C ex pins s H,PG (cxC X N scope cl C ex pins s H) tg g)
  (ht:∀cl C ex pins s H,PTs (cxC X N scope cl C ex pins s H) ifs tt)
  (he:∀cl C ex pins s H,PE (cxC X N scope cl C ex pins s H) elt te)
  (hs:∀x,Ma iter X.env x=pure x:=by intro _;rfl) (hfy:X.fn y=true\/X.env.scope.names.lookup y=some .local:=by first | exact .inl rfl | exact .inr rfl | assumption)
  (hsw:LX (.ListComp elt [⟨tg,iter,ifs,0⟩] scope pos) (some<|.Name y py) spos.line X.env=pure true:=by rfl) :
  PS X (.Assign [.Name y py] (.ListComp elt [⟨tg,iter,ifs,0⟩] scope pos) spos) (X3 (tLC wi k cap g tt te)<|E9 ix):=by
 intro pins s σ H D0 I h;have hcell:∀y∈scope.names,y.2 = .free->∃c,X.env.cells.lookup y.1=some c:=λy hy hk=>I.ok.has y.1 (by
  show X.env.scope.names.lookup y.1=_\/X.env.scope.names.lookup y.1=_;rw[hosc];exact hcap.free y hy hk)
 let f:Str->LA:=λx=>(X.env.cells.lookup x).getD 0
 have hf:∀y∈scope.names,y.2 = .free->X.env.cells.lookup y.1=some (f y.1):=λy hy hk=>by
  obtain⟨c,e⟩:=hcell y hy hk;show _=some ((X.env.cells.lookup y.1).getD 0);rw[e];rfl
 have hclos:closureFor scope X.env=pure (v8 f scope.names []):=y9 λy hy hk=>by
  unfold cellOf;rw[hf y hy hk]
 have hcl:∀{x:Str} {c:LA},(v8 f scope.names []).lookup x=some c->X.env.cells.lookup x=some c:=λ{x c} e=>by
  rcases C9 _ _ e with ⟨h1,h2⟩ | h1
  .rw[h2];exact hf (x,.free) h1 rfl
  .simp at h1
 have hhas:∀x,(x,Me.free)∈scope.names->∃c,(v8 f scope.names []).lookup x=some c:=λx hx=>⟨_,O1 _ _<|.inl hx⟩
 generalize v8 f scope.names []=cl at hclos hcl hhas;rw[exec_Assign_Name_used _ _ _ _ hsw];refine Gh<|IM<|Gh ?_;show LU _ X.A (do let _ <-comprehension (.ListComp elt [⟨tg,iter,ifs,0⟩] scope pos) scope X.env _ (newList []) false (eval iter X.env) (some<|assign (.Name y py) X.env)) _ _ s;refine Gh (Hg (Jp (use:=some<|assign (.Name y py) X.env) (cl:=cl) (Q:=λ_ s'=>∃σ' H',Inv X pins σ' H' s'/\D0.nx σ' H') rfl hs hclos hcap.kind hcap.loc ?_) (λ_ s' hq=>Gk<|Gk hq) λ_ _ e=>e);refine thn (hi pins s σ H _ I h) λv s1 h1=>thn h1 λitv s2 h2=>?_
 obtain⟨it,fp,tn,J,H2,e,I2,T,st2,f2,q2⟩:=h2;subst e;obtain⟨W,⟨m0,w0⟩,turn⟩:=q2 s2.heap.objs.size<|I2.hok.fresh<|Gs _;refine Hr ?_;have I3:Inv X pins σ (upd H2 s2.heap.objs.size<|.lst []) { s2 with heap:=s2.heap.push { cls:=.type "list",data:=.seq ([]:List Lz).toArray } }:=I2.lnew (ys:=[]) (its:=[]) (t':=s2.toks) .nil<|HA _;have lt2:∀b∈fp,b≠s2.heap.objs.size:=λb hb=>by
  obtain⟨o,e,_⟩:=T.obj _ _ st2 b hb;exact GR<|Gv e
 exact pA hNd hix hLy hfy hc hosc hcap hcl hhas hg ht he I3 f8 T (T.keep _ _ (s2.heap.push { cls:=.type "list",data:=.seq ([]:List Lz).toArray }) st2 λb _ o e=>Gj _ e) (λb hb=>⟨by rw[d7<|lt2 b hb];exact(f2 b hb).1,(f2 b hb).2⟩) w0 turn
end
section
section
variable {X:Cx}{K:Fg}
def wI (K:Fg):List V->Hp->VK->Prop:=λxs H Q=>∃(a:LA) (ns:List Int),xs=[.ref a]/\SqL K H a (ns.map V.int)/\ns.length<64 /\
 ∀(p:LA) (ns':List Int),H p=none->ns'.Perm ns->ns'.Pairwise (· <= ·)->Q (.ref p) (upd H p<|.lst<|ns'.map V.int)
def jd (hK:X.K=K):E7 X (.builtin "sorted") (wI K):=by
 subst hK;intro pins s σ H xs us Q I r h;obtain⟨a,ns,rfl,hq,h64,q⟩:=h;obtain⟨u,rfl,ru⟩:=Y6 r;cases ru;obtain⟨its,rv,p,hz⟩:=I.list hq;have hi:=U9 rv;have hlen:its.length=ns.length:=by rw[<-rv.length,Gi]
 refine PyProof.Rows.sorted_ints p.isList hi (by omega) λout ns' a1 a2 a3=>?_
 obtain⟨e,he⟩:=sortedAll_at s.heap its out;have I1:Inv X pins σ (upd H (s.heap.objs.size+1)<|.lst<|ns'.map V.int) { s with heap:=sortedAll s.heap its out,toks:=s.toks } :=
  I.laid (a:=s.heap.objs.size+1) (λb o ho=>sortedAll_old ho) (Jz _) ⟨by rw[Gi,a2.length_eq,<-Gi (f:=V.int)];exact hz,out.toList,e,bP a1,by rw[he]⟩
 exact⟨.ref<|s.heap.objs.size+1,_,I1,rfl,q _ ns' (I.hok.fresh<|Jz _) a2 a3⟩
def Cd (ta:TA):TE:=λσ H Q=>ta σ H λvs H1=>∃j:Int,vs=[.int j]/\∀p,H1 p=none->Q (.ref p) (upd H1 p<|.rng 0 j)
def sA {a:LK}{ta:TA}{p pos:Pos}(hg:Gl X "range")(hm:X.mg "range" = none)(ha:PA X [a] ta)(hs:LN [a] X.env=[(false,eval a X.env)]:=by rfl):PE X (.Call (.Name "range" p) [a] [] pos) (Cd ta):=by
 intro pins s σ H Q I h;refine Call_ (Q5 I hg hm boot_range<|Ik (thn (ha pos pins s σ H _ I h) λus s1 ⟨vs,H1,I1,r1,q1⟩=>?_) hs rfl);obtain⟨j,e,q⟩:=q1;subst e;cases r1 with
 | cons r rr =>
  cases rr;obtain⟨t,rfl⟩:=r;refine call_range_1 ?_;exact⟨.ref s1.heap.objs.size,_,I1.laid (a:=s1.heap.objs.size) (o:=.rng 0 j) (λb o e=>Gj _ e) (Gs _) ⟨_,_,_,GN _ rfl⟩,rfl,q _<|I1.hok.fresh<|Gs _⟩
theorem P7:∀{xs:List V} {us:List Lz},xs.length=us.length->(∀(i:Nat) x u,xs[i]? = some x->us[i]? = some u->m7 x u)->j6 xs us
 | [],[],_,_=>.nil
 | [],_::_,e,_=>by simp at e
 | _::_,[],e,_=>by simp at e
 | x::xs,u::us,e,h=>.cons (h 0 x u rfl rfl) (P7 (by simpa using e) λi y v h1 h2=>h (i+1) y v (by simpa using h1)<|by simpa using h2)
end
end
section
def isT (a T:String):Bool:=a == T||(a == "bool" && T == "int")
end
end L2
namespace L2
open PySem PyProof.Rows
def gQ {prog:LD}{w:LF}{A:LG}{E:Lz->LC->Prop}{s:LC}{a b:Bool}{Q:Lz->LC->Prop}(h:Q (.bool<|decide ((if a then(1:Int) else 0)<if b then 1 else 0)) s) :
  LU (model prog w) A (call (.builtin "int.__lt__") [.bool a,.bool b]) Q E s:=by
 refine HK PySem.F.slot_bool_lt (T:="bool") rfl entry_int_lt ?_<|args_int_lt _ _;show LU _ _ (ret<|.bool<|decide ((if a then(1:Int) else 0)<if b then 1 else 0)) _ _ s;exact Gk ⟨_,rfl,h⟩
def lW {prog:LD}{w:LF}{A:LG}{E:Lz->LC->Prop}{s:LC}{a b:Bool}{Q:Bool->LC->Prop}(h:Q (decide ((if a then(1:Int) else 0)<if b then 1 else 0)) s):LU (model prog w) A (oneLt' true (.bool a)<|.bool b) Q E s:=by
 rw[oneLt'_eq];simp only[Ig];refine Gh<|wpAny_cRoomFor_byValue rfl ?_;refine Gh<|wpAny_callSpecialIfBound?_slot (T:="bool") rfl PySem.F.slot_bool_lt<|gQ ?_;exact IV h
def Lx (κ:Nat->Int)(i j:Nat):Prop:=κ i < κ j\/(κ i = κ j/\i<j)
structure SB (kd:SortKind) (a0:Array Md) (st:SortSt):Prop where
 size:(arrOf st).size=a0.size
 kind:kindOf st=kd
 failed:failedOf st=none
 pend:pendingOf st = #[]
def SB.setArr {kd:SortKind}{a0:Array Md}{st:SortSt}(h:SB kd a0 st){xs:Array Md}(hp:xs.size=(arrOf st).size):SB kd a0 (PyProof.Rows.setArr st xs):=⟨hp.trans h.size,h.kind,h.failed,h.pend⟩
structure SG (kd:SortKind) (a0:Array Md) (st:SortSt) (p:Nat->Nat):Prop where
 base:SB kd a0 st
 inj:∀i j,i<a0.size->j<a0.size->p i=p j->i=j
 at_:∀i,i<a0.size->(arrOf st)[i]? = a0[p i]?
 lt:∀i,i<a0.size->p i<a0.size
def fm (prog:LD)(w:LF)(A:LG)(s:LC)(kd:SortKind)(a0:Array Md)(κ:Nat->Int):Prop :=
 ∀(i j:Nat) (x y:Md),i≠j->a0[i]? = some x->a0[j]? = some y->∀(E:Lz->LC->Prop) (Q:Bool->LC->Prop),Q (decide (κ i < κ j)) s->LU (model prog w) A (keyLt' kd x.1 y.1) Q E s
def SoK (κ:Nat->Int)(p:Nat->Nat)(n:Nat):Prop:=∀i j,i<=j->j<n->κ (p i) <= κ (p j)
def SoS (κ:Nat->Int)(p:Nat->Nat)(n:Nat):Prop:=(∀i j,i<j->j<n->Lx κ (p i) (p j))/\(∀i,n<=i->p i=i)/\∀i,i<n->p i<n
def SoS.sorted {κ:Nat->Int}{p:Nat->Nat}{n:Nat}(h:SoS κ p n):SoK κ p n:=by
 intro i j hij hj;by_cases e:i=j
 .subst e;exact Ja _
 .rcases h.1 i j (by omega) hj with q | q
  .exact Int.le_of_lt q
  .exact Int.le_of_eq q.1
def SoS.more {κ:Nat->Int}{p:Nat->Nat}{n m:Nat}(h:SoS κ p n)(hnm:n<=m)(hs:SoK κ p m):SoS κ p m:=by
 refine⟨λi j hij hj=>?_,λi hi=>h.2.1 i (by omega),λi hi=>?_⟩
 .by_cases hjn:j<n
  .exact h.1 i j hij hjn
  .have q:=hs i j (by omega) hj;have ej:=h.2.1 j (by omega);rcases Kd q with q | q
   .exact .inl q
   .refine .inr ⟨q,?_⟩;rw[ej];by_cases hin:i<n
    .have:=h.2.2 i hin;omega
    .rw[h.2.1 i<|by omega];exact hij
 .by_cases hin:i<n
  .have:=h.2.2 i hin;omega
  .rw[h.2.1 i<|by omega];exact hi
section
variable {prog:LD}{w:LF}{A:LG}{E:Lz->LC->Prop}{s:LC}{a0:Array Md}{κ:Nat->Int}{kd:SortKind}
def jG {st:SortSt}{p:Nat->Nat}{i j:Nat}{Q:Option Bool->SortSt->Prop}(g:SG kd a0 st p)(hL:fm prog w A s kd a0 κ)(hi:i<a0.size)(hj:j<a0.size)(hij:i≠j)
  (h:Q (some<|decide (κ (p i) < κ (p j))) st):wpS (model prog w) A E s (ltAt' i j) Q st:=by
 have e1:=g.at_ i hi;have e2:=g.at_ j hj;have l1:=g.lt i hi;have l2:=g.lt j hj;have f1:a0[p i]? = some a0[p i]:=getElem?_pos a0 (p i) l1;have f2:a0[p j]? = some a0[p j]:=getElem?_pos a0 (p j) l2;rw[ltAt'_eq];refine HC<|wpS_get ?_;show wpS _ _ _ _ (do let x <-elem' (arrOf st) i;let y <-elem' (arrOf st) j;lt' x y) Q st;rw[elem'_eq,elem'_eq,e1,e2,f1,f2];refine HC<|Iq<|HC<|Iq ?_;rw[lt'_eq];refine HC<|wpS_get ?_;rw[g.base.kind];refine HC (wpS_lift<|JP<|hL _ _ _ _ (λz=>hij<|g.inj i j hi hj z) f1 f2 _ _ ?_);exact⟨rfl,Iq h⟩
def SG.bub {st:SortSt}{p:Nat->Nat}(g:SG kd a0 st p){k l:Nat}(hk:k<a0.size)(hl:l<=k) :
  SG kd a0 (setArr st<|bubble (arrOf st) k<|k-l) (λi=>if i=l then p k else if l<i/\i<=k then p (i-1) else p i):=by
 refine⟨g.base.setArr<|bubble_size _ _ _,λi j hi hj e=>?_,λi hi=>?_,λi hi=>?_⟩
 .have q:=g.inj;try dsimp only at e
  repeat' split at e
  all_goals first
   | omega
   | (have:=q _ _ (by omega) (by omega) e;omega)
 .have e:=getElem?_bubble (xs:=arrOf st) (src:=k) (by rw[g.base.size];exact hk) (k-l) (by omega) i;rw[show k-(k-l)=l by omega]at e;show(bubble (arrOf st) k<|k-l)[i]? = _;rw[e];repeat' split
  .exact g.at_ _ hk
  .exact g.at_ _ (by omega)
  .exact g.at_ _ hi
 .try dsimp only
  repeat' split
  .exact g.lt _ hk
  .exact g.lt _ (by omega)
  .exact g.lt _ hi
def SG.mir {st:SortSt}{p:Nat->Nat}(g:SG kd a0 st p){u v:Nat}(hv:v<=a0.size) :
  SG kd a0 (setArr st<|mirror (arrOf st) u v<|(v-u) / 2) (λi=>if u<=i/\i<v then p (u+v-1-i) else p i):=by
 refine⟨g.base.setArr<|mirror_size _ _ _ _,λi j hi hj e=>?_,λi hi=>?_,λi hi=>?_⟩
 .have q:=g.inj;try dsimp only at e
  repeat' split at e
  all_goals first
   | omega
   | (have:=q _ _ (by omega) (by omega) e;omega)
 .have e:=getElem?_mirror_all (xs:=arrOf st) (i:=u) (j:=v) (by rw[g.base.size];exact hv) i;show(mirror (arrOf st) u v<|(v-u) / 2)[i]? = _;rw[e];repeat' split
  .exact g.at_ _ (by omega)
  .exact g.at_ _ hi
 .try dsimp only
  split
  .exact g.lt _ (by omega)
  .exact g.lt _ hi
def pL {st:SortSt}{p:Nat->Nat}{n ok:Nat}{Q:Bool->SortSt->Prop}(hL:fm prog w A s kd a0 κ)(hn:n<=a0.size)(hok:ok<=n)(hB:SG kd a0 st p)(hs:SoS κ p ok)
  (h:∀st' p',SG kd a0 st' p'->SoS κ p' n->Q true st'):wpS (model prog w) A E s (binarySort' 0 n ok) Q st:=by
 rw[binarySort'_eq];simp only[Hq];refine HC (wpS_mono (Ke (I:=λk c st'=>c=(none,())/\∃p',SG kd a0 st' p'/\SoS κ p' (min k n))
  (Q:=λc st'=>c=(none,())/\∃p',SG kd a0 st' p'/\SoS κ p' n) ?step ?fin ?init) ?post)
 case post =>
  rintro c st' ⟨rfl,p',hB',hs'⟩
  exact Iq<|h st' p' hB' hs'
 case init =>
  refine⟨rfl,p,hB,?_⟩
  by_cases h1:ok=0
  .subst h1
   refine hs.more (by omega) λi j hij hj=>?_
   have:i=j:=by omega
   subst this;exact Ja _
  .rw[show min (max ok 1) n=ok by omega];exact hs
 case fin =>
  rintro c st' ⟨hc,p',hB',hs'⟩
  refine⟨hc,p',hB',?_⟩
  rwa [show min (max (max ok 1) n) n=n by omega]at hs'
 case step =>
  rintro k c st' hak hkn ⟨rfl,p',hG',hS'⟩
  rw[show min k n=k by omega]at hS'
  have hk:k<a0.size:=by omega
  have hs':=hS'.sorted
  have hB':=hG'.base
  refine HC (wpS_mono (Ke (I:=λx c st''=>st''=st'/\∃l r,c=(none,l,r)/\l<=r/\r<=k/\r-l<=k-x /\
    (∀i,i<l->κ (p' i) <= κ (p' k))/\(∀i,r<=i->i<k->κ (p' k) < κ (p' i)))
   (Q:=λc st''=>st''=st'/\∃l r,c=(none,l,r)/\l<=k /\
    (∀i,i<l->κ (p' i) <= κ (p' k))/\(∀i,l<=i->i<k->κ (p' k) < κ (p' i))) ?istep ?ifin ?iinit) ?ipost)
  case iinit=>exact⟨rfl,0,k,rfl,by omega,by omega,by omega,λi hi=>by omega,λi h1 h2=>by omega⟩
  case ifin =>
   rintro c st'' ⟨rfl,l,r,rfl,hlr,hrk,hm,hlo,hhi⟩
   have:l=r:=by omega
   subst this
   exact⟨rfl,l,l,rfl,hrk,hlo,hhi⟩
  case istep =>
   rintro x c st'' _ hxk ⟨rfl,l,r,rfl,hlr,hrk,hm,hlo,hhi⟩
   dsimp only
   by_cases hge:l >= r
   .rw[Gp hge]
    have:l=r:=by omega
    subst this
    exact Iq ⟨rfl,l,l,rfl,hrk,hlo,hhi⟩
   .rw[Gr hge]
    refine HC (jG hG' hL hk (by omega) (by omega) ?_)
    by_cases hless:κ (p' k) < κ (p'<|(l+r) / 2)
    .simp only[hless,Jn,Ig]
     refine Iq ⟨rfl,l,(l+r) / 2,rfl,by omega,by omega,by omega,hlo,λi h1 h2=>?_⟩
     exact Int.lt_of_lt_of_le hless<|hs' _ _ h1 h2
    .simp only[hless,Kf,GY,HP]
     refine Iq ⟨rfl,(l+r) / 2+1,r,rfl,by omega,by omega,by omega,λi h1=>?_,hhi⟩
     exact Int.le_trans (hs' i ((l+r) / 2) (by omega)<|by omega)<|Int.not_lt.1 hless
  case ipost =>
   rintro c st'' ⟨rfl,l,r,rfl,hlk,hlo,hhi⟩
   show wpS _ _ _ _ (do moveDown' k l;pure (ForInStep.yield (none,()))) _ _
   rw[moveDown'_eq]
   refine HC<|wpS_modify<|Iq ⟨rfl,_,hG'.bub hk hlk,?_⟩
   rw[show min (k+1) n=k+1 by omega]
   have ek:=hS'.2.1 k<|Gs _
   have lo':∀i,i<l->Lx κ (p' i) (p' k):=λi hi=>by
    have q:=hlo i hi;rcases Kd q with q | q
    .exact .inl q
    .refine .inr ⟨q,?_⟩;rw[ek];exact hS'.2.2 i (by omega)
   have hi':∀i,l<=i->i<k->Lx κ (p' k) (p' i):=λi h1 h2=>by
    have q:=hhi i h1 h2;exact .inl q
   refine⟨λi j hij hj=>?_,λi hi=>?_,λi hi=>?_⟩
   .dsimp only
    repeat' split
    all_goals first
     | (exfalso;omega)
     | exact lo' _ (by omega)
     | exact hi' _ (by omega) (by omega)
     | exact hS'.1 _ _ (by omega) (by omega)
   .dsimp only
    rw[Gr (by omega),Gr<|by omega]
    exact hS'.2.1 i (by omega)
   .dsimp only
    repeat' split
    .rw[ek];omega
    .have:=hS'.2.2 (i-1) (by omega);omega
    .have:=hS'.2.2 i (by omega);omega
def uR {st:SortSt}{p:Nat->Nat}{a nrem:Nat}{Q:AscSt->SortSt->Prop}(hL:fm prog w A s kd a0 κ)(hn:nrem<=a0.size)(ha:1<=a)(han:a<=nrem)(hG:SG kd a0 st p)
  (hs:SoK κ p a)
  (h:∀n,a<=n->n<=nrem->SoK κ p n->(n=nrem \/ κ (p n) < κ (p<|n-1))->Q (none,n) st) :
  wpS (model prog w) A E s (ascLoop a nrem) Q st:=by
 unfold ascLoop;refine Ke (I:=λx c st'=>st'=st/\c=(none,x)/\SoK κ p x) ?step ?fin ⟨rfl,rfl,hs⟩;case fin =>
  rintro c st' ⟨rfl,rfl,hs'⟩
  rw[show max a nrem=nrem by omega]at hs' ⊢
  exact h nrem han (Gs _) hs'<|.inl rfl
 case step =>
  rintro x c st' hax hxn ⟨rfl,rfl,hs'⟩
  dsimp only
  refine HC (jG hG hL (by omega) (by omega) (by omega) ?_)
  by_cases hless:κ (p x) < κ (p<|x-1)
  .simp only[hless,Jn,Ig]
   exact Iq (h x hax (by omega) hs'<|.inr hless)
  .simp only[hless,Kf,GY,HP]
   refine Iq ⟨rfl,rfl,λi j hij hj=>?_⟩
   by_cases hjx:j<x
   .exact hs' i j hij hjx
   .have hj':j=x:=by omega
    subst hj'
    by_cases hi':i=j
    .subst hi';exact Ja _
    .exact Int.le_trans (hs' i (j-1) (by omega)<|by omega)<|Int.not_lt.1 hless
def DoS (κ:Nat->Int)(p:Nat->Nat)(n:Nat):Prop:=(∀i j,i<j->j<n->Lx κ (p j) (p i))/\(∀i,n<=i->p i=i)/\∀i,i<n->p i<n
def jo {st:SortSt}{p:Nat->Nat}{n nrem:Nat}{Q:Option Nat->SortSt->Prop}(hL:fm prog w A s kd a0 κ)(hn:nrem<=a0.size)(h1:1<=n)(hnn:n<=nrem)(hB:SG kd a0 st p)
  (hs:DoS κ p n) (h:∀m st' p',SG kd a0 st' p'->1<=m->m<=nrem->SoS κ p' m->Q (some m) st') :
  wpS (model prog w) A E s (tail3 n nrem) Q st:=by
 unfold tail3;refine HC<|wpS_reverse ?_;have hG:=hB.mir (u:=0) (v:=n) (by omega);have hS:SoS κ (λi=>if 0<=i/\i<n then p (0+n-1-i) else p i) n:=by
  refine⟨λi j hij hj=>?_,λi hi=>?_,λi hi=>?_⟩
  .dsimp only;rw[Gp (by omega),Gp<|by omega];exact hs.1 _ _ (by omega) (by omega)
  .dsimp only;rw[Gr<|by omega];exact hs.2.1 i hi
  .dsimp only;rw[Gp<|by omega];exact hs.2.2 _ (by omega)
 exact HC (uR hL hn h1 hnn hG hS.sorted λm hm1 hm2 hsm _=>Iq<|h m _ _ hG (by omega) hm2<|hS.more hm1 hsm)
def GoS (κ:Nat->Int)(p:Nat->Nat)(g n:Nat):Prop :=
 DoS κ p g/\g<n/\(∀i,g<=i->i<n->κ i = κ (n-1))/\∀i,i<g->κ (n-1) < κ (p i)
def GoS.close {st:SortSt}{p:Nat->Nat}{g n:Nat}(hG:SG kd a0 st p)(h:GoS κ p g n)(hn:n<=a0.size):DoS κ (λi=>if g<=i/\i<n then p (g+n-1-i) else p i) n:=by
 obtain⟨hd,hg,he,hl⟩:=h;refine⟨λi j hij hj=>?_,λi hi=>?_,λi hi=>?_⟩
 .dsimp only;by_cases h1:g<=i
  .rw[Gp (by omega),Gp (by omega),hd.2.1 _ (by omega),hd.2.1 _<|by omega];refine .inr ⟨?_,by omega⟩;rw[he _ (by omega) (by omega),he (g+n-1-i) (by omega)<|by omega]
  .by_cases h2:g<=j
   .rw[Gp (by omega),Gr (by omega),hd.2.1 _<|by omega];refine .inl ?_;rw[he _ (by omega)<|by omega];exact hl i (by omega)
   .rw[Gr (by omega),Gr<|by omega];exact hd.1 i j hij (by omega)
 .dsimp only;rw[Gr<|by omega];exact hd.2.1 i (by omega)
 .dsimp only;split
  .rw[hd.2.1 _<|by omega];omega
  .have:=hd.2.2 i (by omega);omega
def GoS.close1 {p:Nat->Nat}{g n:Nat}(h:GoS κ p g n)(e:n=g+1):DoS κ p n:=by
 obtain⟨hd,hg,he,hl⟩:=h;subst e;refine⟨λi j hij hj=>?_,λi hi=>hd.2.1 i (by omega),λi hi=>?_⟩
 .by_cases h2:j<g
  .exact hd.1 i j hij h2
  .have:j=g:=by omega
   subst this;rw[hd.2.1 j<|Gs _];exact .inl<|hl i hij
 .by_cases h2:i<g
  .have:=hd.2.2 i h2;omega
  .rw[hd.2.1 i<|by omega];exact hi
def wF {st:SortSt}{p:Nat->Nat}{n nrem:Nat}{Q:DescSt->SortSt->Prop}(hL:fm prog w A s kd a0 κ)(hn:nrem<=a0.size)(h1:1<=n)(hnn:n<=nrem)(hB:SG kd a0 st p)
  (hs:GoS κ p (n-1) n)
  (h:∀m neq st' p',SG kd a0 st' p'->n<=m->m<=nrem->neq+1<=m->GoS κ p' (m-(neq+1)) m->Q (none,m,neq) st') :
  wpS (model prog w) A E s (descLoop n nrem) Q st:=by
 unfold descLoop;refine Ke (I:=λx c st'=>∃neq p',c=(none,x,neq)/\SG kd a0 st' p'/\neq+1<=x/\GoS κ p' (x-(neq+1)) x) ?step ?fin ⟨0,p,rfl,hB,by omega,hs⟩;case fin =>
  rintro c st' ⟨neq,p',rfl,hG',hq,hS'⟩
  rw[show max n nrem=nrem by omega]at hq hS' ⊢
  exact h nrem neq st' p' hG' hnn (Gs _) hq hS'
 case step =>
  rintro x c st' hax hxn ⟨neq,p',rfl,hG',hq,hS'⟩
  dsimp only
  refine HC (jG hG' hL (by omega) (by omega) (by omega) ?_)
  have k1:p' x=x:=hS'.1.2.1 x (by omega)
  have k2:p' (x-1)=x-1:=hS'.1.2.1 (x-1) (by omega)
  rw[k1,k2]
  have put:∀{p2:Nat->Nat},κ x < κ (x-1)->DoS κ p2 x->(∀i,i<x->κ (x-1) <= κ (p2 i))->GoS κ p2 (x+1-(0+1)) (x+1):=by
   intro p2 hless d ge;rw[show x+1-(0+1)=x by omega];refine⟨d,by omega,λi h1 h2=>?_,λi hi=>?_⟩
   .rw[show i=x by omega];rfl
   .exact Int.lt_of_lt_of_le hless<|ge i hi
  have ge0:∀i,i<x->κ (x-1) <= κ (p' i):=λi hi=>by
   by_cases hg:i<x-(neq+1)
   .exact Int.le_of_lt<|hS'.2.2.2 i hg
   .rw[hS'.1.2.1 i<|by omega];exact Int.le_of_eq (hS'.2.2.1 i (by omega) hi).symm
  by_cases hless:κ x < κ (x-1)
  .simp only[hless,Jn,Ig]
   by_cases hneq:neq > 0
   .rw[Gp hneq]
    have hG2:=hG'.mir (u:=x-(neq+1)) (v:=x) (by omega)
    refine HC (wpS_reverse<|Iq ⟨0,_,rfl,hG2,by omega,put hless (hS'.close hG'<|by omega) λi hi=>?_⟩)
    try dsimp only
    split
    .exact ge0 _ (by omega)
    .exact ge0 _ hi
   .rw[Gr hneq]
    exact Iq ⟨0,p',rfl,hG',by omega,put hless (hS'.close1<|by omega) ge0⟩
  .simp only[hless,Kf,GY,HP]
   refine HC (jG hG' hL (by omega) (by omega) (by omega) ?_)
   rw[k1,k2]
   by_cases hlarger:κ (x-1) < κ x
   .simp only[hlarger,Jn,Ig]
    exact Iq (h x neq st' p' hG' hax (by omega) hq hS')
   .simp only[hlarger,Kf,GY,HP]
    have heqx:κ x = κ (x-1):=by omega
    refine Iq ⟨neq+1,p',rfl,hG',by omega,?_⟩
    rw[show x+1-(neq+1+1)=x-(neq+1) by omega]
    refine⟨hS'.1,by omega,λi h1 h2=>?_,λi hi=>?_⟩
    .rw[show x+1-1=x by omega]
     by_cases hix:i=x
     .subst hix;rfl
     .rw[heqx];exact hS'.2.2.1 i h1 (by omega)
    .rw[show x+1-1=x by omega,heqx];exact hS'.2.2.2 i hi
def cz {st:SortSt}{p:Nat->Nat}{n nrem:Nat}{Q:Option Nat->SortSt->Prop}(hL:fm prog w A s kd a0 κ)(hn:nrem<=a0.size)(hnn:n+1<=nrem)(hB:SG kd a0 st p)
  (hs:GoS κ p n (n+1)) (h:∀m st' p',SG kd a0 st' p'->1<=m->m<=nrem->SoS κ p' m->Q (some m) st') :
  wpS (model prog w) A E s (descPart n nrem) Q st:=by
 unfold descPart;refine HC<|wpS_lift<|Iw ⟨rfl,?_⟩;refine HC (wF hL hn (by omega) hnn hB hs λm neq st' p' hG' hm1 hm2 hq hS'=>?_);dsimp only;by_cases hneq:neq > 0
 .rw[Gp hneq];exact HC (wpS_reverse<|jo hL hn (by omega) hm2 (hG'.mir<|by omega) (hS'.close hG'<|by omega) h)
 .rw[Gr hneq];exact jo hL hn (by omega) hm2 hG' (hS'.close1<|by omega) h
def sZ {st:SortSt}{nrem:Nat}{Q:Option Nat->SortSt->Prop}(hL:fm prog w A s kd a0 κ)(hn:nrem<=a0.size)(h1:1<=nrem)(hB:SG kd a0 st id)
  (h:∀m st' p',SG kd a0 st' p'->1<=m->m<=nrem->SoS κ p' m->Q (some m) st') :
  wpS (model prog w) A E s (countRun' 0 nrem) Q st:=by
 rw[countRun0_eq];have S0:SoS κ id 0:=⟨λi j _ hj=>by omega,λi _=>rfl,λi hi=>by omega⟩;have one:SoK κ id 1:=λi j hij hj=>by
  have:i=j:=by omega
  subst this;exact Ja _
 refine HC (uR hL hn (Gs 1) h1 hB one λn hn1 hn2 hsn hor=>?_);dsimp only;by_cases hnn:n=nrem
 .rw[Gp<|by simpa using hnn];exact Iq (h n st id hB hn1 hn2<|S0.more (by omega) hsn)
 .rw[Gr<|by simpa using hnn];have hlt:κ n < κ (n-1):=hor.resolve_left hnn;by_cases hgt:n > 1
  .rw[Gp hgt];refine HC (jG hB hL (by omega) (by omega) (by omega) ?_);simp only[id];by_cases hrose:κ 0 < κ (n-1)
   .simp only[hrose,Jn,Ig];exact Iq (h n st id hB hn1 hn2<|S0.more (by omega) hsn)
   .simp only[hrose,Kf,GY,HP];have hall:∀j,j<n->κ j = κ (n-1):=by
     intro j hk;have a1:κ 0 <= κ j:=hsn 0 j (by omega) hk;have a2:κ j <= κ (n-1):=hsn j (n-1) (by omega) (by omega);omega
    refine HC (wpS_reverse<|cz hL hn (by omega) (hB.mir<|by omega) ?_ h);refine⟨⟨λi j hij hj=>?_,λi hi=>?_,λi hi=>?_⟩,by omega,λi h1 h2=>?_,λi hi=>?_⟩
    .dsimp only;rw[Gp (by omega),Gp<|by omega];refine .inr ⟨?_,by simp only[id];omega⟩;simp only[id];rw[hall _ (by omega),hall (0+n-1-i)<|by omega]
    .dsimp only;rw[Gr<|by omega];rfl
    .dsimp only;rw[Gp<|by omega];simp only[id];omega
    .rw[show i=n by omega];rfl
    .dsimp only;rw[Gp<|by omega];simp only[id]at hlt ⊢;rw[hall (0+n-1-i) (by omega),show n+1-1=n by omega];exact hlt
  .rw[Gr hgt];have hn1':n=1:=by omega
   subst hn1';refine cz hL hn (by omega) hB ⟨⟨λi j hij hj=>by omega,λi hi=>rfl,λi hi=>hi⟩,by omega,λi h1 h2=>?_,λi hi=>?_⟩ h
   .rw[show i=1 by omega]
   .rw[show i=0 by omega];exact hlt
def lJ (κ:Nat->Int)(a0:Array Md)(st:SortSt):Prop :=
 failedOf st=none/\pendingOf st = #[(0,a0.size,0)]/\(arrOf st).size=a0.size/\∃p,(∀i,i<a0.size->(arrOf st)[i]? = a0[p i]?)/\SoS κ p a0.size
def SG.done {st:SortSt}{p:Nat->Nat}(g:SG kd a0 st p)(h:SoS κ p a0.size):lJ κ a0 (setPending st<|(pendingOf st).push (0,a0.size,0)) :=
 ⟨g.base.failed,by show(pendingOf st).push _=_;rw[g.base.pend];rfl,g.base.size,p,g.at_,h⟩
def nD {st:SortSt}{Q:Unit->SortSt->Prop}(hL:fm prog w A s kd a0 κ)(hB:SG kd a0 st id)(h2:2<=a0.size)(h64:a0.size<64)
  (h:∀st',failedOf st'=none->(arrOf st').size=a0.size->(∃p,(∀i,i<a0.size->(arrOf st')[i]? = a0[p i]?)/\SoS κ p a0.size)->Q () st'):wpS (model prog w) A E s sortRuns' Q st:=by
 rw[sortRuns'_eq];refine HC<|wpS_get ?_;dsimp only;have hmr:minRun' a0.size a0.size 0=a0.size:=by
  obtain⟨f,hf⟩:∃f,a0.size=f+1:=⟨a0.size-1,by omega⟩;have:minRun' (f+1) a0.size 0=a0.size:=by rw[minRun'_succ,Gp h64];rfl
  rwa [<-hf]at this
 simp only[hB.base.size,hmr];refine HC (wpS_mono (Ke
  (I:=λx c st'=>(x=0/\c=(none,0)/\SG kd a0 st' id)\/(1<=x/\c=(none,a0.size)/\lJ κ a0 st'))
  (Q:=λc st'=>c=(none,a0.size)/\lJ κ a0 st') ?step ?fin (.inl ⟨rfl,rfl,hB⟩)) ?post)
 case fin =>
  rintro c st' (⟨hx,_,_⟩ | ⟨_,hc,hD⟩)
  .omega
  .exact⟨hc,hD⟩
 case step =>
  rintro x c st' _ hx (⟨rfl,rfl,hB'⟩ | ⟨hx1,rfl,hD⟩)
  .dsimp only
   rw[Gr<|by omega]
   simp only[Nat.sub_zero,Nat.min_self,Hq]
   refine HC (sZ hL (Gs _) (by omega) hB' λm st2 p2 hB2 hm1 hm2 hs2=>?_)
   dsimp only
   by_cases hlt:m<a0.size
   .rw[Gp hlt]
    refine HC<|wpS_lift<|Iw ⟨rfl,?_⟩
    refine HC (pL hL (Gs _) hm2 hB2 hs2 λst3 p3 hB3 hs3=>?_)
    simp only[Jv,GY,HP]
    refine HC<|wpS_get ?_
    have hb:(pendingOf st3).back? = none:=by rw[hB3.base.pend];rfl
    rw[hb]
    dsimp only
    exact HC (wpS_modify<|Iq<|.inr ⟨by omega,rfl,hB3.done hs3⟩)
   .rw[Gr hlt]
    have hm:m=a0.size:=by omega
    subst hm
    refine HC<|wpS_get ?_
    have hb:(pendingOf st2).back? = none:=by rw[hB2.base.pend];rfl
    rw[hb]
    dsimp only
    exact HC (wpS_modify<|Iq<|.inr ⟨by omega,rfl,hB2.done hs2⟩)
  .dsimp only
   rw[Gp<|Gs _]
   exact Iq ⟨rfl,hD⟩
 case post =>
  rintro c st' ⟨rfl,hD⟩
  dsimp only
  refine HC (wpS_mono (Ke (I:=λ_ c st''=>st''=st'/\c=(none,())) (Q:=λc st''=>st''=st'/\c=(none,())) ?_ (λ_ _ hh=>hh) ⟨rfl,rfl⟩) ?_)
  .rintro x c st'' _ _ ⟨rfl,rfl⟩
   refine HC<|wpS_get ?_
   rw[Gp (by rw[hD.2.1];exact Gs 1)]
   exact Iq ⟨rfl,rfl⟩
  .rintro c st'' ⟨rfl,rfl⟩
   exact Iq<|h _ hD.1 hD.2.2.1 hD.2.2.2
end
end L2
namespace L2
open PySem PySem.Spec PyProof.Rows PySem.W
section
def cdO (c:LA)(q:Str):HO:=.ext λh=>h.CodeRec (.ref c) q
def fH (H:Hp)(P:LA)(q:Str):Prop:=∃ps,H P=some (.tbl ps)/\TriplesOk ps.toList/\∀pos cv,codeAmong pos ps.toList=some cv->∃c,cv = .ref c/\H c=some (cdO c q)
def kH {q p:Pos}{c cv:Lz}:∀(l:List Lz),TriplesOk l->codeAmong q (l++[rawInt p.line,rawInt p.col,c])=some cv->codeAmong q l=some cv\/cv=c:=by
 intro l h e;fun_induction TriplesOk l with
 | case1 =>
  simp only[Ho,codeAmong,rawInt]at e
  split at e
  .exact .inr (Gy e).symm
  .cases e
 | case2 a b c' d e' rest ih =>
  simp only[Hh,codeAmong]at e ⊢
  split
  .rename_i h1
   rw[Gp h1]at e
   exact .inl e
  .rename_i h1
   rw[Gr h1]at e
   exact ih h e
 | case3=>exact h.elim
def BMd (base:LL)(mg:Str->Option Lz):Prop:=∃bm ob,mg "__builtins__" = some (.ref bm)/\bm≠builtinsNs/\base.get? bm=some ob/\ob.cls = .type "module" /\ ob.dict=some builtinsNs/\ob.data = .plain
def Ax (P:LA)(q:Str)(H H':Hp):Prop:=H'=H\/∃ps more c,H P=some (.tbl ps)/\H c=none/\c≠P/\H'=upd (upd H P<|.tbl<|ps++more) c (cdO c q)
def tZ {c:LA}{q:Str}:∀h1 h2:LL,h1.CodeRec (.ref c) q->(∀o,h1.get? c=some o->h2.get? c=some o)->h2.CodeRec (.ref c) q:=λh1 h2 ⟨c',o,vs,t,e,g,r⟩ k=>by
 cases e;exact⟨c,o,vs,t,rfl,k o g,r⟩
section
variable {X:Cx}{pins:List (LA×LO)}{σ:St}{H:Hp}{s:LC}
def Inv.pin1 {a:LA}{o:LO}(I:Inv X pins σ H s)(ho:s.heap.get? a=some o)(hH:H a=none)(hL:a≠X.env.locals)(hf:a ∉ X.fs)(hd:∀v,o.data ≠ .cell v):Inv X ((a,o)::pins) σ H s :=
 I.pins_of λp hp=>by
  rcases GK.1 hp with rfl | hp
  .exact⟨ho,hH,hL,hf,hd⟩
  .exact I.pin p<|GG _ hp
def Inv.pinFresh {a:LA}{o:LO}{s0:LC}{pins0:List (LA×LO)}{σ0:St}{H0:Hp}(I:Inv X pins σ H s)(I0:Inv X pins0 σ0 H0 s0)(ho:s.heap.get? a=some o)(h:s0.heap.objs.size<=a)(hH:H a=none)(hd:∀v,o.data ≠ .cell v):Inv X ((a,o)::pins) σ H s :=
 I.pin1 ho hH (λe=>absurd (GT I0.lt h) (by rw[e];exact Im _)) (I0.nofs h) hd
def rH {params:Arguments}{body:LK}{scope:LH}{lpos:Pos}{c P:LA}{q:Str}{cl:List (Str×LA)}{Q:Lz->LC->Prop}(I:Inv X pins σ H s)(hdef:defaultsOf params X.env=([],[]))(hcl:closureFor scope X.env=pure cl)
  (hcode:X.env.code = .ref c) (C:CodeHd X.base c P) (BM:BMd X.base X.mg) (T:fH H P q) (hq:X.env.qual ++ "<lambda>" = q)
  (h:∀f c' ctv H' s',Ax P q H H'->fH H' P q->H' c'=some (cdO c' q)->Inv X ((f,kla_obj "<lambda>" q params body scope cl ((X.mg "__name__").getD .none) c' ctv)::pins) σ H' s'->Q (.ref f) s') :
  LU (model X.prog X.w) X.A (eval (.Lambda params body scope lpos) X.env) Q X.xe s:=by
 subst hq;obtain⟨ps,hP,ht,hall⟩:=T;have hP':s.heap.get? P=some (tabObj ps):=I.hok P _ hP;have hg:s.heap.Ns LV X.mg:=I.mod.glob.keeps I.bk;obtain⟨bm,ob,b1,b2,b3,b4,b5,b6⟩:=BM;have hgP:LV≠P:=λq=>by
  obtain⟨o,es,ep,e,hd,_⟩:=hg;rw[q,hP']at e;cases e;cases hd
 have hbP:bm≠P:=λq=>by
  have e:=I.bk _ _ b3;rw[q,hP']at e;cases e;cases b4
 have hbG:bm≠LV:=λq=>by
  obtain⟨o,es,ep,e,hd,_⟩:=I.mod.glob;rw[q,e]at b3;cases b3;rw[hd]at b6;cases b6
 have hB:s.heap.BuiltinsAt X.mg P:=⟨bm,ob,b1,b2,hbG,hbP,I.bk _ _ b3,b4,b5,b6⟩;refine kla_eval hdef ?_;cases hf:codeAmong lpos ps.toList with
 | some cv =>
  obtain⟨c',rfl,hc'⟩:=hall _ _ hf;refine kla_makeFunctionHit hcl I.ok.glob hg hcode (C.keeps I.bk) hP' ht hf hB λctv h' tk hk hsz=>?_
  have I1:Inv X pins σ H { s with heap:=h'.push<|kla_obj "<lambda>" (X.env.qual ++ "<lambda>") params body scope cl ((X.mg "__name__").getD .none) c' ctv,toks:=tk }:=I.kept λb o e=>Gj _<|hk b o e
  exact h _ c' ctv H _ (.inl rfl) ⟨ps,hP,ht,hall⟩ hc' (I1.pinFresh I (GN _ rfl) hsz (I.hok.fresh hsz)<|λv e=>nomatch e)
 | none =>
  refine kla_makeFunction hcl I.ok.glob hg hcode (C.keeps I.bk) hP' ht hf hgP hB λc' ctv h' tk hx hge hlt hrec htb=>?_
  have hcP:c'≠P:=λe=>absurd (GT (Gv hP') hge) (by rw[e];exact Im _)
  have hcn:H c'=none:=I.hok.fresh hge;have hk:∀b o,b≠P->s.heap.get? b=some o->(h'.push<|kla_obj "<lambda>" (X.env.qual ++ "<lambda>") params body scope cl ((X.mg "__name__").getD .none) c' ctv).get? b=some o:=λb o hb e=>Gj _<|hx b o hb e
  have hrec':=hrec.push<|kla_obj "<lambda>" (X.env.qual ++ "<lambda>") params body scope cl ((X.mg "__name__").getD .none) c' ctv;have htb':=Gj (kla_obj "<lambda>" (X.env.qual ++ "<lambda>") params body scope cl ((X.mg "__name__").getD .none) c' ctv) htb;have hsz:s.heap.objs.size<=h'.objs.size:=He hge<|Ii hlt;generalize hH':upd (upd H P<|.tbl<|ps ++ #[rawInt lpos.line,rawInt lpos.col,.ref c']) c' (cdO c'<|X.env.qual ++ "<lambda>")=H';have a1:H' c'=some (cdO c'<|X.env.qual ++ "<lambda>"):=by rw[<-hH'];exact f8
  have a2:H' P=some (.tbl<|ps ++ #[rawInt lpos.line,rawInt lpos.col,.ref c']):=by rw[<-hH',d7 hcP.symm];exact f8
  have a3:∀b,b≠c'->b≠P->H' b=H b:=λb h1 h2=>by rw[<-hH',d7 h1,d7 h2]
  have ne:∀b o,H b=some o->b≠c':=λb o e z=>by rw[z,hcn]at e;cases e
  generalize hh2:h'.push (kla_obj "<lambda>" (X.env.qual ++ "<lambda>") params body scope cl ((X.mg "__name__").getD .none) c' ctv)=h2 at hk hrec' htb';have un:Un X.fs [] H H' s.heap h2:=by
   refine⟨λb o e n _ _=>hk b o (λz=>by rw[z,hP]at n;cases n) e,λb o e n _ _=>⟨o.slots,hk b o (λz=>by rw[z,hP]at n;cases n) e⟩,λb o e n _=>?_,λb o e _=>?_,λb xs e=>?_,λb o u e=>?_,λb qs e=>?_⟩
   .rw[a3 b (λz=>absurd (GT (Gv e) hge) (by rw[z];exact Im _)) λz=>by rw[z,hP]at n;cases n];exact n
   .by_cases hb:b=P
    .exact⟨_,by rw[hb];exact htb'⟩
    .exact⟨o,hk b o hb e⟩
   .rw[a3 b (ne b _ e) λz=>by rw[z,hP]at e;cases e];exact e
   .rw[a3 b (ne b _ e) λz=>by rw[z,hP]at e;cases e];exact e
   .by_cases hb:b=P
    .subst hb;rw[hP]at e;cases e;exact⟨_,a2⟩
    .exact⟨#[],by rw[a3 b (ne b _ e) hb,e];simp⟩
  have ok:HOk X.prog X.w H' h2:=by
   intro b u e;by_cases hb:b=c'
   .subst hb;rw[a1]at e;cases e;obtain⟨c2,o,vs,t,e2,g,r⟩:=id hrec';cases e2;exact⟨hrec',⟨o,g⟩,tZ⟩
   .by_cases hbP':b=P
    .subst hbP';rw[a2]at e;cases e;exact htb'
    .rw[a3 b hb hbP']at e;refine(I.hok b u e).stay (λb2 u2 hc q=>hk b2 u2 ?_ q) (λb2 q=>?_) λb2 xs q=>?_
     .rcases hc with z | z
      .rw[z];exact hbP'
      .intro z2;rw[z2,hP]at z;cases z
     .rw[a3 b2 (ne b2 _ q) λz=>by rw[z,hP]at q;cases q];exact q
     .rw[a3 b2 (ne b2 _ q) λz=>by rw[z,hP]at q;cases q];exact q
  have I1:Inv X pins σ H' { s with heap:=h2,toks:=tk }:=I.un un ok;have hfn:H' h'.objs.size=none:=by
   rw[a3 _ (IL hlt) λz=>absurd (GT (Gv hP') hsz) (by rw[z];exact Im _)];exact I.hok.fresh hsz
  refine h _ c' ctv H' _ (.inr ⟨ps,_,c',hP,hcn,hcP,hH'.symm⟩) ⟨_,a2,?_,λpos cv e=>?_⟩ a1 (I1.pinFresh I (by rw[<-hh2];exact GN _ rfl) hsz hfn<|λv e=>nomatch e)
  .rw[Array.toList_append];exact TriplesOk_snoc _ _ _ _ ht
  .rw[Array.toList_append]at e;rcases kH _ ht e with e | e
   .obtain⟨c2,r1,r2⟩:=hall _ _ e;refine⟨c2,r1,?_⟩;by_cases hb:c2=c'
    .subst hb;exact a1
    .rw[a3 c2 hb λz=>by rw[z,hP]at r2;cases r2];exact r2
   .exact⟨c',e,a1⟩
end
end
section
def cxL (X:Cx)(N:List Str)(q:Str)(scope:LH)(cl:List (Str×LA))(f c:LA)(Y:LG)(s₀:LC)(H₀:Hp):Cx where
 prog:=X.prog
 w:=X.w
 K:=X.K
 mg:=X.mg
 base:=X.base
 A:=Y.deeper<|envX q scope s₀.heap.objs.size f (.ref c) cl
 N:=N
 s₀:=s₀
 H₀:=H₀
 env:=envX q scope s₀.heap.objs.size f (.ref c) cl
 outer:=X.stack
 stack:=envX q scope s₀.heap.objs.size f (.ref c) cl::X.stack
 ex:=[]
 fn:=λ_=>false
 calm:=true
 pn:=[]
 xe:=λ_ _=>False
structure LamOk (ON:List Str) (osc:LH) (x:Str) (N:List Str) (cap:List Nat) (scope:LH):Prop where
 kind:scope.kind = .function
 co:scope.isCoroutine=false
 gen:scope.isGenerator=false
 nocell:∀y∈scope.names,y.2 ≠ .cell
 par:scope.names.lookup x=some .local
 first:N.head? = some x
 free:∀y∈scope.names,y.2 = .free->osc.names.lookup y.1=some .cell\/osc.names.lookup y.1=some .free
 len:N.length=1+cap.length
 capx:(cap.map λj=>ON[j]?)=(N.drop 1).map some
 capf:∀y∈N.drop 1,scope.names.lookup y=some .free
def aD (v:V)(cap:List Nat)(σ:St):St:=some v::cap.map λj=>(σ[j]?).join
section
variable {X:Cx}{pins:List (LA×LO)}{σ:St}{H:Hp}{s:LC}
def uZ {Y:LG}{E:Lz->LC->Prop}{params:Arguments}{body:LK}{scope osc:LH}{f c:LA}{q x:Str}{cl:List (Str×LA)}{pm ctv:Lz}{N:List Str}{cap:List Nat}{te:TE}{v:V}{u:Lz}{R:VK}
  (I:Inv X pins σ H s) (hY:Y.frames=some X.stack) (hd:Y.handled=none) (hdp:Y.depth<recursionLimit)
  (hf:(f,kla_obj "<lambda>" q params body scope cl pm c ctv)∈X.pn++pins) (hc:H c=some (cdO c q)) (hosc:X.env.scope=osc) (L:LamOk X.N osc x N cap scope)
  (hcl:∀{x:Str} {c:LA},cl.lookup x=some c->X.env.cells.lookup x=some c) (hhas:∀x,(x,Me.free)∈scope.names->∃c,cl.lookup x=some c)
  (hbind:bindArgs (kla_fn "<lambda>" q params body scope cl pm (.ref c) ctv) ⟨[u],[]⟩=pure [(x,u)])
  (he:∀s H,PE (cxL X N q scope cl f c Y s H) body te) (ru:m7 v u) (h:te (aD v cap σ) H R) :
  LU (model X.prog X.w) Y (call (.ref f) [u]) (EP X pins σ R) E s:=by
 obtain⟨p1,p2,p3,p4,p5⟩:=I.pin _ hf;obtain⟨hrec,_,_⟩:=I.hok c _ hc;refine wpAny_call<|kla_callFunE hdp p1 rfl L.co L.gen rfl hrec ?_;rw[hbind];refine Gk (wpAny_newFunctionEnv L.nocell (λy hy=>?_) (λh₁ hns hsb=>⟨I.nolimit.fresh _ hsb,?_⟩) L.kind)
 .have e:y=(x,u):=by simpa using hy
  rw[e];exact L.par
 show codeAny _ _ (.expr body<|envX q scope s.heap.objs.size f (.ref c) cl) _ _;have old:∀b o,s.heap.get? b=some o->h₁.get? b=some o:=λb o e=>hsb.extBut b o (GR<|Gv e)<|Gj _ e
 have noA:∀b:LA,b ∉ (cxL X N q scope cl f c Y s H).ex:=λb z=>absurd (show b∈([]:List LA) from z) (by simp)
 have IY:Inv (cxL X N q scope cl f c Y s H) [] (aD v cap σ) H { s with heap:=h₁,toks:=s.toks+[(x,u)].length }:=by
  refine⟨⟨I.ok.mod,L.kind,rfl,rfl,Gs _,λx y c h1 h2=>I.ok.inj x y c (hcl h1)<|hcl h2,λy hy=>?_,λx c h=>absurd (show false=true from h) GQ,λ_=>hd,LG.frames_deeper hY,.inr ⟨rfl,rfl⟩,
   λb z=>absurd z<|noA b,I.bs,He I.ok.bsz I.sz,λb _ _=>noA b,λb z=>absurd z<|noA b,I.stack,I.stkFree⟩,
   rfl,I.bare,Un.kept old,⟨_,hns,λi y w e1 e2 e3=>?_⟩,λy c' e=>?_,I.hok.fresh<|Gs _,λy c' e=>I.freeC y c'<|hcl e,λp hp=>absurd (show p∈([]:List (LA×LO)) from hp) (by simp),I.hok.kept old,?_⟩
  .have hy:scope.names.lookup y=some .cell\/scope.names.lookup y=some .free:=hy;rcases hy with hy | hy
   .exact absurd rfl<|L.nocell _<|Hs hy
   .exact hhas y<|Hs hy
  .cases i with
   | zero =>
    have e2':some (some v)=some (some w):=e2
    cases e2'
    have ex:y=x:=by
     have z:=L.first;have e1':N[0]? = some y:=e1;rw[List.head?_eq_getElem?,e1']at z;exact Gy z
    subst ex
    exact⟨u,ru,.inl ⟨L.par,by simp⟩⟩
   | succ d =>
    have e2':(cap.map λj=>(σ[j]?).join)[d]? = some (some w):=e2
    rw[GC]at e2'
    obtain⟨j,hj,hv⟩:=Hd.1 e2'
    have hσ:σ[j]? = some (some w):=by
     cases r:σ[j]? with
     | none=>rw[r]at hv;cases hv
     | some o=>rw[r]at hv;exact HJ some hv
    have e1':(N.drop 1)[d]? = some y:=by rw[List.getElem?_drop,Lo];exact e1
    have hx:X.N[j]? = some y:=by
     have z:=HJ (λl=>l[d]?) L.capx;simp only[GC,hj,e1',KJ]at z;exact Gy z
    have hfr:=L.capf y<|HF e1'
    have hfm:=Hs hfr
    have hok:=L.free _ hfm rfl
    rw[<-hosc]at hok
    obtain⟨m,hn,hl⟩:=I.loc
    obtain⟨u',r,l⟩:=hl j y w hx hσ<|.inr hok
    refine⟨u',r,?_⟩
    rcases l with ⟨hk,_⟩ | ⟨hk,c1,hc1,hc2⟩
    .have hk:X.env.scope.names.lookup y=some .local:=hk
     rcases hok with z | z <;> (rw[hk]at z;cases z)
    .obtain⟨c',hc'⟩:=hhas y hfm
     have:c'=c1:=Gy<|(hcl hc').symm.trans hc1
     subst this
     exact .inr ⟨.inr hfr,c',hc',hc2.keeps old⟩
  .obtain⟨w,z⟩:=I.cell y c'<|hcl e;exact⟨w,z.keeps old⟩
  .show(aD v cap σ).length=N.length;unfold aD;rw[GM,Gi,L.len,Lo]
 refine kla_codeExpr (Hg (he s H [] _ _ _ _ IY h) (λuv s' hs=>?_) λe s' hs=>hs.elim);obtain⟨w,H',J,rw',qw⟩:=hs;exact⟨w,H',I.call' (ch:=[]) J.os J.base J.hok J.bare (λb hb=>nomatch hb),rw',qw⟩
end
end
section
def fG:V->Int
 | .int i=>i
 | .bl b=>if b then 1 else 0
 | _=>0
def cN (ks:List V):Prop:=(∀k∈ks,∃i,k=V.int i)\/∀k∈ks,∃b,k=V.bl b
def Q6 (ks:List V)(i:Nat):Int:=fG<|ks.getD i .non
def cQ (ks xs ys:List V):Prop:=ys.length=xs.length/\∃p,SoS (Q6 ks) p xs.length/\∀i,i<xs.length->ys[i]? = xs[p i]?
theorem R4:∀{vs:List Lz},(∀v∈vs,∃b,v = .bool b)->vs.mapM firstOfTuple'=pure (vs.map λ_=>none)
 | [],_=>by simp
 | v::vs,h=>by
  obtain⟨b,rfl⟩:=h v Gx;rw[IS,show firstOfTuple' (.bool b)=pure none from rfl,R4 λw hw=>h w<|Gq _ hw];simp
theorem P6:∀{vs:List Lz},(∀v∈vs,∃b,v = .bool b)->vs.mapM typeOf=pure (vs.map λ_=>Lz.type "bool")
 | [],_=>by simp
 | v::vs,h=>by
  obtain⟨b,rfl⟩:=h v Gx;rw[IS,P6 λw hw=>h w<|Gq _ hw];show(pure (Lz.type "bool") >>= λb=>pure _ >>= λbs=>pure (b::bs))=_;simp
def fE {v₁ v₂:Lz}{vs:List Lz}(hI:∀v∈(v₁::v₂::vs),∃b,v = .bool b):keyKind' (v₁::v₂::vs).toArray=pure oneType':=by
 rw[keyKind'_eq,List.mapM_toArray,R4 hI];simp only[map_pure,pure_bind];rw[Gr (by simp),Gr<|by simp];rw[oneTypeOnly'_eq,List.mapM_toArray,P6 hI];simp only[map_pure,pure_bind];have hall:((List.map (λ_=>Lz.type "bool") (v₁::v₂::vs)).toArray.all λx=>x == Lz.type "bool")=true:=by
  simp only[List.all_toArray,List.all_map,Lq];intro _ _;rfl
 have h0:(List.map (λ_=>Lz.type "bool") (v₁::v₂::vs)).toArray[0]? = some (Lz.type "bool"):=by simp
 rw[h0];simp only[hall,Ig,pure_bind,Option.isSome_some]
theorem bc:∀{ks:List V} {us:List Lz},j6 ks us->(∀k∈ks,∃i,k=V.int i)->IntsAre us (ks.map fG)
 | _,_,.nil,_=>.nil
 | k::ks,u::us,.cons r t,h=>by
  obtain⟨i,rfl⟩:=h k Gx;obtain⟨t',rfl⟩:=r;exact .cons i t' (bc t λk hk=>h k<|Gq _ hk)
theorem ff:∀{ks:List V} {us:List Lz},j6 ks us->(∀k∈ks,∃b,k=V.bl b)->∀u∈us,∃b,u = .bool b
 | _,_,.nil,_,u,hu=>by simp at hu
 | k::ks,u::us,.cons r t,h,w,hw=>by
  rcases GK.1 hw with rfl | hw
  .obtain⟨b,rfl⟩:=h k Gx;exact⟨b,r⟩
  .exact ff t (λk hk=>h k<|Gq _ hk) w hw
def vZ {ks:List V}{keys:Array Lz}(r:j6 ks keys.toList)(h:cN ks)(h2:2<=keys.size):keyKind' keys=pure oneType':=by
 obtain⟨v₁,v₂,rest,e⟩:∃v₁ v₂ rest,keys.toList=v₁::v₂::rest:=by
  have hl:2<=keys.toList.length:=by rw[IA];exact h2
  cases q:keys.toList with
  | nil=>rw[q]at hl;simp at hl
  | cons v₁ r =>
   cases r with
   | nil=>rw[q]at hl;simp at hl
   | cons v₂ rest=>exact⟨v₁,v₂,rest,rfl⟩
 have ek:keys=(v₁::v₂::rest).toArray:=by rw[<-e,Array.toArray_toList]
 rw[e]at r;rw[ek];rcases h with h | h
 .exact keyKind_ints<|bc r h
 .exact fE<|ff r h
def Bd {prog:LD}{w:LF}{A:LG}{s:LC}{ks:List V}{keys:Array Lz}{its:List Lz}(r:j6 ks keys.toList)(h:cN ks):fm prog w A s oneType' (keys.zip its.toArray) (Q6 ks):=by
 have one:∀(i:Nat) (x:Md),(keys.zip its.toArray)[i]? = some x->∃k,ks[i]? = some k/\m7 k x.1:=λi x e=>by
  rw[<-HH,ksk_zip,IE]at e;cases q:ks[i]? with
  | none =>
   rw[r.none_of q]at e;exact absurd e.1 (by simp)
  | some k =>
   obtain⟨u,h1,h2⟩:=r.get q;rw[h1]at e;exact⟨k,rfl,by rw[<-Gy e.1];exact h2⟩
 intro i j x y _ ex ey E Q hq;rw[keyLt'_oneType];obtain⟨k1,a1,r1⟩:=one i x ex;obtain⟨k2,a2,r2⟩:=one j y ey;have n1:Q6 ks i=fG k1:=by unfold Q6;rw[Gz,a1];rfl
 have n2:Q6 ks j=fG k2:=by unfold Q6;rw[Gz,a2];rfl
 rw[n1,n2]at hq;obtain⟨x1,x2⟩:=x;obtain⟨y1,y2⟩:=y;rcases h with h | h
 .obtain⟨m,rfl⟩:=h k1<|HF a1;obtain⟨n,rfl⟩:=h k2<|HF a2;obtain⟨t,e⟩:=r1;obtain⟨t',e'⟩:=r2;dsimp only at e e';subst e;subst e';exact oneLt_int hq
 .obtain⟨m,rfl⟩:=h k1<|HF a1;obtain⟨n,rfl⟩:=h k2<|HF a2;have e:x1 = .bool m:=r1;have e':y1 = .bool n:=r2;subst e;subst e';exact lW hq
section
variable {X:Cx}{pins:List (LA×LO)}{σ:St}{H:Hp}{s:LC}
def New (X:Cx)(pins:List (LA×LO))(b:LA):Prop:=X.s₀.heap.objs.size<=b/\b≠X.env.locals/\(∀x c,X.env.cells.lookup x=some c->c≠b)/\(∀p∈X.pn++pins,p.1≠b)/\b ∉ X.fs
def Inv.new {b:LA}(I:Inv X pins σ H s)(h:s.heap.objs.size<=b):New X pins b:=by
 have ne:∀{c:LA} {o:LO},s.heap.get? c=some o->c≠b:=λe z=>absurd (GT (Gv e) h) (by rw[z];exact Im _)
 refine⟨He I.sz h,λz=>absurd (GT I.lt h) (by rw[z];exact Im _),λx c e=>?_,λp hp=>ne (I.pin p hp).1,I.nofs h⟩;obtain⟨v,o,ho,_⟩:=I.cell x c e;exact ne ho
def Inv.turn1 {b:LA}{h':LL}{t':Nat}(I:Inv X pins σ H s)(hb:New X pins b)(hn:H b=none)(k:∀c o,c≠b->s.heap.get? c=some o->h'.get? c=some o):Inv X pins σ H { s with heap:=h',toks:=t' } :=
 I.turned k hn hb.2.1 (.inr hb.1) hb.2.2.1 hb.2.2.2.1
def Inv.relay {a k:LA}{ys:List V}{us:List Lz}{n:Nat}{h':LL}{t':Nat}(I:Inv X pins σ H s)(ha:New X pins a)(hk:New X pins k)(Ha:H a=none)(Hk:H k=none)
  (hs:∀c o,c≠a->c≠k->s.heap.get? c=some o->h'.get? c=some o) (hth:∃o,h'.get? k=some o) (hz:ys.length<=LM) (r:j6 ys us) (ho:h'.get? a=some { cls:=.type "list",data:=.seq us.toArray n }) :
  Inv X pins σ (upd H a<|.lst ys) { s with heap:=h',toks:=t' }:=by
 have nin:∀{b:LA},b ∉ [a,k]->b≠a/\b≠k:=λhb=>⟨λz=>hb (by simp[z]),λz=>hb<|by simp[z]⟩
 have nu:∀{b:LA} {u:HO},H b=some u->b≠a/\b≠k:=λe=>⟨λz=>(by rw[z,Ha]at e;cases e),λz=>(by rw[z,Hk]at e;cases e)⟩
 refine I.step (g':=s.gens) (d':=s.drawn) (ch:=[a,k]) (λb hb=>?_) (λb o _ _ hc e _=>hs b o (nin hc).1 (nin hc).2 e) (λb o _ _ hc e _=>⟨o.slots,hs b o (nin hc).1 (nin hc).2 e⟩) (λb o hc _ n=>by rw[d7 (nin hc).1];exact n)
  (λb o hc e=>⟨o,hs b o (nin hc).1 (nin hc).2 e⟩) (λb xs e=>by rw[d7 (nu e).1];exact e) (λb o u e=>by rw[d7 (nu e).1];exact e) (λb ps e=>⟨#[],by rw[d7 (nu e).1,e];simp⟩) (λm hm=>?_) (λb u e=>?_) I.bare
 .have hb':b=a\/b=k:=by simpa using hb
  rcases hb' with rfl | rfl
  .exact⟨.inr ha.1,ha.2.1,ha.2.2.1,ha.2.2.2.1⟩
  .exact⟨.inr hk.1,hk.2.1,hk.2.2.1,hk.2.2.2.1⟩
 .obtain⟨o,es,ep,ho',r'⟩:=hm;exact⟨o,es,ep,hs _ o ha.2.1.symm hk.2.1.symm ho',r'⟩
 .by_cases hb:b=a
  .subst hb;rw[f8]at e;cases e;exact⟨hz,us,n,r,ho⟩
  .rw[d7 hb]at e;refine(I.hok b u e).stay (λc v hc q=>?_) (λc q=>by rw[d7 (nu q).1];exact q) λc xs q=>by rw[d7 (nu q).1];exact q
   rcases hc with rfl | z
   .exact hs c v (nu e).1 (nu e).2 q
   .exact hs c v (nu z).1 (nu z).2 q
end
end
section
def atl {α:Type}(a:Array α):a.toList.length=a.size:=IA
section
variable {X:Cx}{pins:List (LA×LO)}{σ:St}{H:Hp}{s:LC}{Y:LG}{E:Lz->LC->Prop}{P:PySem.Fin->LC->Prop}{a kS:LA}{xs ks:List V}{its:List Lz}{e1:Nat}
def og {keys:Array Lz}{e:Nat}{st:SortSt}{p:Nat->Nat}(I:Inv X ((kS,seqObj "list" keys e)::(a,seqObj "list" #[] e1)::pins) σ H s)(ha:New X pins a)(hk:New X pins kS)(hka:kS≠a)
  (rx:j6 xs its) (hkl:keys.size<=64) (h64:its.length<64) (hfl:failedOf st=none) (hsz:(arrOf st).size=its.length) (hp:∀i,i<its.length->(arrOf st)[i]? = (keys.zip its.toArray)[p i]?) (hS:SoS (Q6 ks) p its.length) (hke:keys.size=its.length)
  (h:∀s' ys,cQ ks xs ys->Inv X pins σ (upd H a<|.lst ys) s'->P (.done<|.ret .none) s') :
  LU (model X.prog X.w) Y (ksk_tail a false e1 (.ref kS) st) P E s:=by
 obtain⟨nk,Hk,_⟩:=I.pin (kS,seqObj "list" keys e)<|GG _<|.head _;obtain⟨na,Ha,_⟩:=I.pin (a,seqObj "list" #[] e1)<|GG _<|.tail _<|.head _;have I0:Inv X pins σ H s:=I.pins_of λp hp=>I.pin p<|GG _<|.tail _<|.tail _ hp
 have s1:=IK s.heap kS (LO.mapSeq λ_=>(#[]:Array Lz));have na1:(s.heap.update kS<|LO.mapSeq λ_=>(#[]:Array Lz)).get? a=some (seqObj "list" #[] e1):=(s1.2 a hka.symm).trans na;have s2:=IK (s.heap.update kS<|LO.mapSeq λ_=>(#[]:Array Lz)) a (LO.mapSeq λ_=>(arrOf st).map (·.2));obtain⟨c2,hc2⟩:∃c2,((s.heap.update kS<|LO.mapSeq λ_=>(#[]:Array Lz)).update a (LO.mapSeq λ_=>(arrOf st).map (·.2))).get? a=some (seqObj "list" ((arrOf st).map (·.2)) c2) :=
  ⟨_,JW na1 λ_=>(arrOf st).map (·.2)⟩
 have hout:((arrOf st).map (·.2)).size=its.length:=by rw[KY];exact hsz
 unfold ksk_tail;try dsimp only
 refine Gh (Jw nk rfl ?_ (by rw[Hl];omega)<|HA _);refine Gh<|JA ?_;refine Gh<|seqEpoch_at na1 rfl ?_;refine Gh (Jw na1 rfl ?_ (HA _) (by rw[Gr GQ,hout,Hl];omega));rw[hfl];simp only[Ll,GY,HP];have xl:xs.length=its.length:=rx.length;have outv:∀i,i<its.length->((arrOf st).map (·.2)).toList[i]? = its[p i]?:=λi hi=>by
  rw[HH,Array.getElem?_map,hp i hi,<-HH,ksk_zip];have hpi:=hS.2.2 i hi;have e1:its[p i]? = some (its[p i]):=Gm hpi;have e2:keys.toList[p i]? = some (keys.toList[p i]'(by rw[atl keys,hke];exact hpi)):=Gm _;rw[show(keys.toList.zip its)[p i]? = some (keys.toList[p i]'(by rw[atl keys,hke];exact hpi),its[p i]) from IE.2 ⟨e2,e1⟩,e1];rfl
 have ysl:((List.range its.length).map λi=>xs.getD (p i) .non).length=its.length:=by rw[Gi,GB]
 have ysg:∀i,i<its.length->((List.range its.length).map λi=>xs.getD (p i) .non)[i]? = xs[p i]?:=λi hi=>by
  rw[GC,Iu hi];have hpi:=hS.2.2 i hi;show some (xs.getD (p i) .non)=_;rw[Gz,Gm<|by omega];rfl
 refine Gk (h _ ((List.range its.length).map λi=>xs.getD (p i) .non) ⟨by rw[ysl,xl],p,by rw[xl];exact hS,λi hi=>ysg i<|by omega⟩ (I0.relay (k:=kS) (n:=c2) ha hk Ha Hk (λc o h1 h2 e=>(s2.2 c h1).trans<|(s1.2 c h2).trans e) ?_ (by rw[ysl,Hl];omega)
  (us:=((arrOf st).map (·.2)).toList) ?_ (by rw[hc2])))
 .obtain⟨c3,hc3⟩:∃c3,(s.heap.update kS<|LO.mapSeq λ_=>(#[]:Array Lz)).get? kS=some (seqObj "list" #[] c3):=⟨_,JW nk λ_=>(#[]:Array Lz)⟩;exact⟨_,(s2.2 kS hka).trans hc3⟩
 .refine P7 (by rw[ysl,atl ((arrOf st).map (·.2)),hout]) λi x u hx hu=>?_
  have hi:i<its.length:=by
   have:=(GE.1 hx).1;rwa [ysl]at this
  rw[ysg i hi]at hx;rw[outv i hi]at hu;obtain⟨u',h1,h2⟩:=rx.get hx;rw[h1]at hu;rw[<-Gy hu];exact h2
def Az {keys:Array Lz}{e:Nat}(I:Inv X ((kS,seqObj "list" keys e)::(a,seqObj "list" #[] e1)::pins) σ H s)(ha:New X pins a)(hk:New X pins kS)(hka:kS≠a)
  (rx:j6 xs its) (rk:j6 ks keys.toList) (hl:ks.length=xs.length) (hko:cN ks) (h64:its.length<64)
  (h:∀s' ys,cQ ks xs ys->Inv X pins σ (upd H a<|.lst ys) s'->P (.done<|.ret .none) s') :
  LU (model X.prog X.w) Y (ksk_end a false its.toArray e1 (.ref kS) keys) P E s:=by
 have xl:xs.length=its.length:=rx.length;have hke:keys.size=its.length:=by
  have:=rk.length;rw[atl keys]at this;omega
 have hzs:(keys.zip its.toArray).size=its.length:=by rw[Array.size_zip,hke,Gw,Nat.min_self]
 unfold ksk_end;simp only[GY,HP];by_cases h2:its.toArray.size<2
 .rw[Gp h2,Gp h2];refine Gh<|Gk ?_;rw[StateT.run_pure];refine Gh<|Gk ?_;try dsimp only
  rw[Gw]at h2;refine og (st:=SortSt.mk' general' (keys.zip its.toArray) #[] 7 none) (p:=id) I ha hk hka rx (by omega) h64 rfl hzs (λi _=>rfl) ⟨λi j h1 h3=>by omega,λi _=>rfl,λi hi=>hi⟩ hke h
 .rw[Gr h2,Gr h2];rw[Gw]at h2;rw[vZ rk hko<|by omega];refine Gh<|Gk ?_;refine Gh (Hg (nD (a0:=keys.zip its.toArray) (κ:=Q6 ks) (st:=SortSt.mk' oneType' (keys.zip its.toArray) #[] 7 none)
   (Q:=λ_ st'=>failedOf st'=none/\(arrOf st').size=(keys.zip its.toArray).size/\∃p,(∀i,i<(keys.zip its.toArray).size->(arrOf st')[i]? = (keys.zip its.toArray)[p i]?)/\SoS (Q6 ks) p (keys.zip its.toArray).size)
   (Bd rk hko) ⟨⟨rfl,rfl,rfl,rfl⟩,λi j _ _ e=>e,λi _=>rfl,λi hi=>hi⟩ (by rw[hzs];omega) (by rw[hzs];exact h64) λst' a1 a2 a3=>⟨a1,a2,a3⟩) ?_ λ_ _ e=>e)
  rintro ⟨⟨⟩,st'⟩ s' ⟨rfl,hf,hsz,p,hp,hS⟩;try dsimp only
  rw[hzs]at hsz hp hS;exact og I ha hk hka rx (by omega) h64 hf hsz hp hS hke h
def wN {f:LA}{J:Nat->Hp->Prop}(I:Inv X ((kS,seqObj "list" #[] 0)::(a,seqObj "list" #[] e1)::pins) σ H s)(ha:New X pins a)(hk:New X pins kS)(hka:kS≠a)
  (rx:j6 xs its) (hl:ks.length=xs.length) (hko:cN ks) (h64:its.length<64) (j0:J 0 H)
  (turn:∀(i:Nat) (v:V) (u:Lz) (pn:List (LA×LO)) (H':Hp) (s':LC),xs[i]? = some v->m7 v u->J i H'->Inv X (pn++pins) σ H' s' ->
   LU (model X.prog X.w) Y (call (.ref f) [u]) (EP X (pn++pins) σ λk H2=>ks[i]? = some k/\J (i+1) H2) (λ_ _=>False) s')
  (h:∀s' H' ys,J xs.length H'->H' a=none->cQ ks xs ys->Inv X pins σ (upd H' a<|.lst ys) s'->P (.done<|.ret .none) s') :
  LU (model X.prog X.w) Y (ksk_rest a (.ref f) false its.toArray e1<|.ref kS) P E s:=by
 have xl:xs.length=its.length:=rx.length;have hk2:New X ((a,seqObj "list" #[] e1)::pins) kS:=⟨hk.1,hk.2.1,hk.2.2.1,λp hp=>by
  rcases GP.1 hp with z | z
  .exact hk.2.2.2.1 p (KC _ z)
  .rcases GK.1 z with rfl | z
   .exact hka.symm
   .exact hk.2.2.2.1 p<|GG _ z,hk.2.2.2.2⟩
 unfold ksk_rest;refine Gh<|Iw ?_;first
  | rw[List.forIn_toArray]
  | (rw[<-Jf];simp only[List.toList_toArray])
  | rw[<-Jf]
 refine Gh (ksk_fold (λi s'=>∃H' kA e,Inv X ((kS,seqObj "list" kA e)::(a,seqObj "list" #[] e1)::pins) σ H' s'/\J i H'/\j6 (ks.take i) kA.toList) its 0 s ⟨H,#[],0,I,j0,by simpa using Paired.nil⟩ ?step ?done);case step =>
  rintro j x s' hx ⟨H',kA,e,I',hJ,hv⟩
  simp only[Hq]at hJ hv ⊢
  have hj:j<its.length:=(GE.1 hx).1
  obtain⟨v,hxv⟩:∃v,xs[j]? = some v:=⟨_,Gm<|by omega⟩
  obtain⟨u,hu,ru⟩:=rx.get hxv
  rw[hx]at hu
  cases hu
  have hz:kA.size<=its.length:=by
   have h1:=hv.length;rw[atl kA,Ij]at h1;omega
  refine Gh (JP<|Hg (turn j v x [(kS,seqObj "list" kA e),(a,seqObj "list" #[] e1)] H' s' hxv ru hJ I') (λkv s'' he=>?_) λ_ _ hF=>hF.elim)
  obtain⟨kk,H2,I2,rk,hkk,hJ2⟩:=he
  try dsimp only
  obtain⟨nk,Hk,_⟩:=I2.pin (kS,seqObj "list" kA e)<|GG _<|.head _
  have I3:Inv X ((a,seqObj "list" #[] e1)::pins) σ H2 s'':=I2.pins_of λp hp=>I2.pin p<|GG _<|.tail _ hp
  have s1:=IK s''.heap kS (LO.mapSeq (·.push kv))
  obtain⟨c2,hc2⟩:∃c2,(s''.heap.update kS (LO.mapSeq (·.push kv))).get? kS=some (seqObj "list" (kA.push kv) c2):=⟨_,JW nk (·.push kv)⟩
  refine Gh (Jw nk rfl ?_ (by rw[Hl];omega)<|He (Nat.le_of_eq<|Array.size_push ..) (by rw[Hl];omega))
  have I4:=I3.turn1 (h':=s''.heap.update kS (LO.mapSeq (·.push kv))) (t':=s''.toks) hk2 Hk λc o hc e=>(s1.2 c hc).trans e
  have ek:ks.take (j+1)=ks.take j++[kk]:=by rw[JE,hkk];simp
  have ea:(kA.push kv).toList=kA.toList++[kv]:=by simp
  exact Gk ⟨rfl,H2,kA.push kv,c2,I4.pin1 hc2 Hk hk.2.1 hk.2.2.2.2 (λv e=>nomatch e),hJ2,by rw[ea,ek];exact hv.append<|.cons rk .nil⟩
 case done =>
  rintro s' ⟨H',kA,e,I',hJ,hv⟩
  have e3:ks.take (0+its.length)=ks:=HD (by omega)
  rw[e3]at hv
  rw[Hq,<-xl]at hJ
  obtain⟨nk,Hk,_⟩:=I'.pin (kS,seqObj "list" kA e)<|GG _<|.head _
  obtain⟨_,Ha,_⟩:=I'.pin (a,seqObj "list" #[] e1)<|GG _<|.tail _<|.head _
  try dsimp only
  refine Gh<|listItems_at nk rfl ?_
  exact Az I' ha hk hka rx hv hl hko h64 λs2 ys o J2=>h s2 H' ys hJ Ha o J2
end
end
section
section
variable {X:Cx}{pins:List (LA×LO)}{σ:St}{H:Hp}{s:LC}{Y:LG}{E:Lz->LC->Prop}{P:PySem.Fin->LC->Prop}{a:LA}{xs ks:List V}{its:List Lz}
def vY {f:LA}{n:Nat}{J:Nat->Hp->Prop}(I:Inv X pins σ H s)(ho:s.heap.get? a=some (seqObj "list" its.toArray n))(ha:New X pins a)(Ha:H a=none)
  (rx:j6 xs its) (hl:ks.length=xs.length) (hko:cN ks) (h64:its.length<64) (j0:J 0 H)
  (turn:∀(i:Nat) (v:V) (u:Lz) (pn:List (LA×LO)) (H':Hp) (s':LC),xs[i]? = some v->m7 v u->J i H'->Inv X (pn++pins) σ H' s' ->
   LU (model X.prog X.w) Y (call (.ref f) [u]) (EP X (pn++pins) σ λk H2=>ks[i]? = some k/\J (i+1) H2) (λ_ _=>False) s')
  (h:∀s' H' ys,J xs.length H'->H' a=none->cQ ks xs ys->Inv X pins σ (upd H' a<|.lst ys) s'->P (.done<|.ret .none) s') :
  LU (model X.prog X.w) Y (ksk_tree a (.ref f) false) P E s:=by
 have hlt:a<s.heap.objs.size:=Gv ho;have s1:=IK s.heap a (LO.mapSeq λ_=>(#[]:Array Lz));obtain⟨e1,ho1⟩:∃e1,(s.heap.update a<|LO.mapSeq λ_=>(#[]:Array Lz)).get? a=some (seqObj "list" #[] e1):=⟨_,JW ho λ_=>#[]⟩;have hkS:((s.heap.update a<|LO.mapSeq λ_=>(#[]:Array Lz)).push<|seqObj "tuple" its.toArray 0).objs.size=s.heap.objs.size+1:=by rw[size_push',JK]
 have hz:s.heap.objs.size<=((s.heap.update a<|LO.mapSeq λ_=>(#[]:Array Lz)).push<|seqObj "tuple" its.toArray 0).objs.size:=by rw[hkS];exact Jz _
 unfold ksk_tree;refine Gh<|listItems_at ho rfl ?_;refine Gh (Jw ho rfl ?_ (by rw[Gw,Hl];omega)<|HA _);refine Gh<|seqEpoch_at ho1 rfl ?_;refine Gh (KZ ?_ (by show its.length<=_;rw[Hl];omega));refine Gh<|Lh ?_<|HA _;refine HB ?_;have I1:Inv X pins σ H { s with heap:=((s.heap.update a<|LO.mapSeq λ_=>(#[]:Array Lz)).push<|seqObj "tuple" its.toArray 0).push<|seqObj "list" #[] 0,toks:=s.toks } :=
  I.turn1 ha Ha λc o hc e=>Gj _<|Gj _<|(s1.2 c hc).trans e
 have hk:=I.new hz;have Hk:=I.hok.fresh hz;have hka:((s.heap.update a<|LO.mapSeq λ_=>(#[]:Array Lz)).push<|seqObj "tuple" its.toArray 0).objs.size≠a:=by rw[hkS];exact IL<|IW hlt
 have I2:=I1.pin1 (a:=a) (o:=seqObj "list" #[] e1) (Gj _<|Gj _ ho1) Ha ha.2.1 ha.2.2.2.2 (λv e=>nomatch e);have I3:=I2.pin1 (a:=((s.heap.update a<|LO.mapSeq λ_=>(#[]:Array Lz)).push<|seqObj "tuple" its.toArray 0).objs.size) (o:=seqObj "list" #[] 0) (GN _ rfl) Hk hk.2.1 hk.2.2.2.2 (λv e=>nomatch e);exact wN I3 ha hk hka rx hl hko h64 j0 turn h
def ox {l f:LA}{J:Nat->Hp->Prop}{Q:Lz->LC->Prop}(I:Inv X pins σ H s)(hl':s.heap.IsList l its.toArray)
  (rx:j6 xs its) (hl:ks.length=xs.length) (hko:cN ks) (h64:its.length<64) (j0:J 0 H)
  (turn:∀(i:Nat) (v:V) (u:Lz) (pn:List (LA×LO)) (H':Hp) (s':LC),xs[i]? = some v->m7 v u->J i H'->Inv X (pn++pins) σ H' s' ->
   LU (model X.prog X.w) X.A.in1.in1 (call (.ref f) [u]) (EP X (pn++pins) σ λk H2=>ks[i]? = some k/\J (i+1) H2) (λ_ _=>False) s')
  (h:∀a s' H' ys,J xs.length H'->H' a=none->cQ ks xs ys->Inv X pins σ (upd H' a<|.lst ys) s'->Q (.ref a) s') :
  LU (model X.prog X.w) X.A (call (.builtin "sorted") [.ref l] [(Str.ofString "key",.ref f)]) Q E s:=by
 refine call_function_entry_kw kind_sorted plain_sorted entry_sorted (ksk_s1 _ _) ?_;unfold Builtin.«sorted»;refine Gh (m:=checkCount "sorted" 1 1 _)<|Gk ?_;refine Gh (collect_list hl' ?_ (by rw[Hl];omega));refine Gh (Lh ?_ (by rw[Hl];omega));have hsz:((s.heap.push<|seqObj "list" #[] 0).update s.heap.objs.size (LO.mapSeq (· ++ its.toArray))).objs.size=s.heap.objs.size+1:=by
  rw[JK,size_push']
 have hoL:(((s.heap.push<|seqObj "list" #[] 0).update s.heap.objs.size (LO.mapSeq (· ++ its.toArray))).push<|seqObj "list" its.toArray 0).get? (s.heap.objs.size+1)=some (seqObj "list" its.toArray 0):=by
  rw[<-hsz];exact GN _ rfl
 have keep:∀b o,s.heap.get? b=some o->(((s.heap.push<|seqObj "list" #[] 0).update s.heap.objs.size (LO.mapSeq (· ++ its.toArray))).push<|seqObj "list" its.toArray 0).get? b=some o:=λb o q=>by
  have hlt:b<s.heap.objs.size:=Gv q;rw[Jk _ _ _ (by rw[hsz];exact GR<|IW hlt),LL.get?_update_ne _ _ _ _<|GR hlt,Jk _ _ _<|GR hlt];exact q
 show LU _ _ _ _ _ { s with heap:=((s.heap.push<|seqObj "list" #[] 0).update s.heap.objs.size (LO.mapSeq (· ++ its.toArray))).push (seqObj "list" its.toArray 0) };rw[hsz];refine Gh<|HB<|wpAny_call_entry_kw slot_list_sort ⟨_,hoL,rfl⟩ entry_list_sort ?body<|ksk_l1 _ _;case body =>
  have ht':=ksk_t1 f<|s.heap.objs.size+1
  show LU (model X.prog X.w) X.A.in1.in1 (Builtin.«list.sort» ⟨[.ref<|s.heap.objs.size+1],[(Str.ofString "key",.ref f)]⟩) _ _ _
  rw[ht']
  have I1:Inv X pins σ H { s with heap:=((s.heap.push<|seqObj "list" #[] 0).update s.heap.objs.size (LO.mapSeq (· ++ its.toArray))).push<|seqObj "list" its.toArray 0,toks:=s.toks }:=I.kept keep
  refine vY I1 hoL (I.new<|Jz _) (I.hok.fresh<|Jz _) rx hl hko h64 j0 turn λs' H' ys hJ Ha o I'=>⟨_,rfl,?_⟩
  exact Gk ⟨_,rfl,h _ s' H' ys hJ Ha o I'⟩
end
end
section
def tSK (K:Frag)(P:LA)(q:Str)(cap:List Nat)(ta:TA)(te:TE):TE:=λσ H Q=>ta σ H λvs H1=>∃l xs,vs=[.ref l]/\SqL K H1 l xs/\xs.length<64/\fH H1 P q /\
 ∀H2,Ax P q H1 H2->fH H2 P q->∀c,H2 c=some (cdO c q)->∃(J:Nat->Hp->Prop) (ks:List V),ks.length=xs.length/\cN ks/\SqL K H2 l xs/\J 0 H2/\(∀i H',J i H'->H' c=some (cdO c q)) /\
  (∀i v H',xs[i]? = some v->J i H'->te (aD v cap σ) H' λk H3=>ks[i]? = some k/\J (i+1) H3) /\
  ∀a H' ys,J xs.length H'->H' a=none->cQ ks xs ys->Q (.ref a) (upd H' a<|.lst ys)
def xm {M:Model}{A:LG}{E:Lz->LC->Prop}{s:LC}{env:LQ}{x:Str}{p pos:Pos}{args:List LK}{kws:List LS}{Q:Lz->LC->Prop}
  (h:LU M A (eval (.Name x p) env) (λf s₁=>LU M A (callWith pos f [] (LR pos<|LN args env)<|Mf pos<|Mg kws env) Q E s₁) E s):LU M A (eval (.Call (.Name x p) args kws pos) env) Q E s:=by
 rw[show eval (.Call (.Name x p) args kws pos) env=(do callWith pos (<-eval (.Name x p) env) [] (LR pos<|LN args env) (Mf pos<|Mg kws env)) from rfl];exact Gh h
def BO {X:Cx}{e:LK}{params:Arguments}{body:LK}{scope osc:LH}{p pos lpos kp:Pos}{c P:LA}{q x:Str}{N:List Str}{cap:List Nat}{ta:TA}{te:TE}{k:Nat}
  (hg:Gl X "sorted") (hm:X.mg "sorted" = none) (hr:Room k X.A) (hc:X.calm=true) (ha:PA X [e] ta) (hdef:defaultsOf params X.env=([],[])) (hosc:X.env.scope=osc) (L:LamOk X.N osc x N cap scope)
  (hcode:X.env.code = .ref c) (C:CodeHd X.base c P) (BM:BMd X.base X.mg) (hq:X.env.qual ++ "<lambda>" = q)
  (hbind:∀(cl:List (Str×LA)) (pm:Lz) (c':LA) (ctv u:Lz),bindArgs (kla_fn "<lambda>" q params body scope cl pm (.ref c') ctv) ⟨[u],[]⟩=pure [(x,u)])
  (he:∀cl f c' Y s H,PE (cxL X N q scope cl f c' Y s H) body te) (hs:LN [e] X.env=[(false,eval e X.env)]:=by rfl) :
  PE X (.Call (.Name "sorted" p) [e] [⟨some "key",.Lambda params body scope lpos,kp⟩] pos) (tSK X.K P q cap ta te):=by
 intro pins s σ H Q I h;have hcell:∀y∈scope.names,y.2 = .free->∃c,X.env.cells.lookup y.1=some c:=λy hy hk=>I.ok.has y.1 (by
  show X.env.scope.names.lookup y.1=_\/X.env.scope.names.lookup y.1=_;rw[hosc];exact L.free y hy hk)
 let f:Str->LA:=λx=>(X.env.cells.lookup x).getD 0
 have hf:∀y∈scope.names,y.2 = .free->X.env.cells.lookup y.1=some (f y.1):=λy hy hk=>by
  obtain⟨c,e⟩:=hcell y hy hk;show _=some ((X.env.cells.lookup y.1).getD 0);rw[e];rfl
 have hclos:closureFor scope X.env=pure (v8 f scope.names []):=y9 λy hy hk=>by
  unfold cellOf;rw[hf y hy hk]
 have hcl:∀{x:Str} {c:LA},(v8 f scope.names []).lookup x=some c->X.env.cells.lookup x=some c:=λ{x c} e=>by
  rcases C9 _ _ e with ⟨h1,h2⟩ | h1
  .rw[h2];exact hf (x,.free) h1 rfl
  .simp at h1
 have hhas:∀x,(x,Me.free)∈scope.names->∃c,(v8 f scope.names []).lookup x=some c:=λx hx=>⟨_,O1 _ _<|.inl hx⟩
 generalize v8 f scope.names []=cl at hclos hcl hhas;refine xm (Q5 I hg hm (by decide +kernel:LZ "sorted" = some (.builtin "sorted"))<|callWith_kw (kws:=[⟨some "key",.Lambda params body scope lpos,kp⟩]) (thn (ha pos pins s σ H _ I h) λus s1 ⟨vs,H1,I1,r1,q1⟩=>?_) (by rw[hs];rfl) (by rw[hs];rfl));obtain⟨l,xs,e0,hq0,h64,hT,q2⟩:=q1;subst e0;obtain⟨u,rfl,ru⟩:=Y6 r1;cases ru;refine kws_cons (rH I1 hdef hclos hcode C BM hT hq λf c' ctv H2 s2 gr hT2 hc2 I2=>kws_nil ?_);obtain⟨J,ks,hlk,hko,hq2,j0,jc,turn,fin⟩:=q2 H2 gr hT2 c' hc2;obtain⟨its,rv,pl,hz⟩:=I2.list hq2;have xl:xs.length=its.length:=rv.length;show LU (model X.prog X.w) X.A (call (.builtin "sorted") [.ref l] [(Str.ofString "key",.ref f)]) _ X.xe s2;refine ox I2 pl.isList rv hlk hko (by omega) j0 (λi v u pn H' s' hx r hJ I'=>?_) λa s' H' ys hJ Ha o I'=>?_
 .exact uZ I' I.ok.frames (I.ok.hd hc) (by have:=hr.dp;show X.A.depth<_;omega) (GG _<|GG _<|.head _) (jc i H' hJ) hosc L hcl hhas (hbind _ _ _ _ _) (λs H=>he _ _ _ _ s H) r<|turn i v H' hx hJ
 .exact⟨.ref a,_,I'.pins_of<|λp hp=>I'.pin p<|GG _<|.tail _ hp,rfl,fin a H' ys hJ Ha o⟩
end
section
section
variable {prog:LD}{w:LF}{A:LG}{E:Lz->LC->Prop}{s:LC}
def gA {a:LA}{vs:List Lz}{n:Nat}{kd:SortKind}{κ:Nat->Int}{P:PySem.Fin->LC->Prop}(ho:s.heap.get? a=some (seqObj "list" vs.toArray n))(h64:vs.length<64)
  (hkind:2<=vs.length->∀(h':LL) (Q:SortKind->LC->Prop),(∀b o,b≠a->s.heap.get? b=some o->h'.get? b=some o)->Q kd { s with heap:=h' }->LU (model prog w) A (keyKind' vs.toArray) Q E { s with heap:=h' })
  (hlt:∀h':LL,(∀b o,b≠a->s.heap.get? b=some o->h'.get? b=some o)->fm prog w A { s with heap:=h' } kd (pairsOf vs) κ)
  (h:∀(out:Array Lz) (p:Nat->Nat),out.size=vs.length->(∀i,i<vs.length->out.toList[i]? = vs[p i]?)->SoS κ p vs.length->P (.done<|.ret .none) { s with heap:=sortedHeap s.heap a vs out }) :
  LU (model prog w) A (Builtin.«list.sort» ⟨[.ref a],[]⟩) P E s:=by
 rw[list_sort_plain];have ha:a<s.heap.objs.size:=Gv ho;refine Gh<|listItems_at ho rfl ?_;refine Gh (Jw ho rfl ?_ (by rw[Gw,Hl];omega)<|HA _);obtain⟨e1,ho1⟩:∃e1,(s.heap.update a<|LO.mapSeq λ_=>#[]).get? a=some (seqObj "list" #[] e1):=⟨_,JW ho<|λ_=>#[]⟩;refine Gh<|seqEpoch_at ho1 rfl ?_;refine Gh (KZ ?_ (by show vs.length<=_;rw[Hl];omega));refine Gh<|Lh ?_<|HA _;refine HB ?_;have ho6:(((s.heap.update a<|LO.mapSeq λ_=>#[]).push<|seqObj "tuple" vs.toArray 0).push<|seqObj "list" #[] 0).get? a=some (seqObj "list" #[] e1):=by
  rw[Jk _ _ _ (by rw[size_push',JK];exact GR<|IW ha),Jk _ _ _ (by rw[JK];exact GR ha)];exact ho1
 have s1:=IK s.heap a (LO.mapSeq λ_=>(#[]:Array Lz));have kept:∀b o,b≠a->s.heap.get? b=some o->(((s.heap.update a<|LO.mapSeq λ_=>#[]).push<|seqObj "tuple" vs.toArray 0).push<|seqObj "list" #[] 0).get? b=some o:=λb o hb e=>Gj _<|Gj _<|(s1.2 b hb).trans e
 show LU (model prog w) A _ P E { s with heap:=((s.heap.update a<|LO.mapSeq λ_=>#[]).push<|seqObj "tuple" vs.toArray 0).push (seqObj "list" #[] 0) };dsimp only;have hsz:vs.toArray.size=vs.length:=by simp
 have fin:∀(st':SortSt) (p:Nat->Nat),(arrOf st').size=vs.length->(∀i,i<vs.length->(arrOf st')[i]? = (pairsOf vs)[p i]?)->SoS κ p vs.length->P (.done<|.ret .none) { s with heap:=sortedHeap s.heap a vs ((arrOf st').map (·.2)) }:=by
  intro st' p hz hp hS;refine h _ p (by rw[KY];exact hz) (λi hi=>?_) hS;rw[HH,Array.getElem?_map,hp i hi,<-HH,pairsOf_toList];have hpi:=hS.2.2 i hi;have e1:vs[p i]? = some vs[p i]:=Gm hpi;rw[show(vs.zip vs)[p i]? = some (vs[p i],vs[p i]) from IE.2 ⟨e1,e1⟩,e1];rfl
 by_cases h2:vs.toArray.size<2
 .rw[Gp h2,Gp h2];refine Gh<|Gk ?_;rw[StateT.run_pure];refine Gh<|Gk ?_;dsimp only;refine Gh<|seqEpoch_at ho6 rfl ?_;refine Gh (Jw ho6 rfl ?_ (hsz2:=by rw[KY];show(pairsOf vs).size<=_;rw[KL,Hl];omega));simp only[Ll,GY,HP];rw[hsz]at h2;exact Gk (fin (SortSt.mk' general' (vs.toArray.zip vs.toArray) #[] 7 none) id (KL vs) (λi _=>rfl) ⟨λi j h1 h3=>by omega,λi _=>rfl,λi hi=>hi⟩)
 .rw[Gr h2,Gr h2];rw[hsz]at h2;refine Gh (hkind (by omega) _ _ kept ?_);refine Gh (Hg (nD (a0:=pairsOf vs) (κ:=κ) (kd:=kd) (st:=SortSt.mk' kd (vs.toArray.zip vs.toArray) #[] 7 none)
   (Q:=λ_ st'=>failedOf st'=none/\(arrOf st').size=(pairsOf vs).size/\∃p,(∀i,i<(pairsOf vs).size->(arrOf st')[i]? = (pairsOf vs)[p i]?)/\SoS κ p (pairsOf vs).size)
   (hlt _ kept) ⟨⟨rfl,rfl,rfl,rfl⟩,λi j _ _ e=>e,λi _=>rfl,λi hi=>hi⟩ (by rw[KL];omega) (by rw[KL];exact h64) λst' a1 a2 a3=>⟨a1,a2,a3⟩) ?_ λ_ _ e=>e)
  rintro ⟨⟨⟩,st'⟩ s' ⟨rfl,hf,hz,p,hp,hS⟩;rw[KL]at hz hp hS;dsimp only;refine Gh<|seqEpoch_at ho6 rfl ?_;refine Gh (Jw ho6 rfl ?_ (hsz2:=by rw[KY,hz,Hl];omega));rw[hf];simp only[Ll,GY,HP];exact Gk<|fin st' p hz hp hS
def oF {l:LA}{vs:List Lz}{kd:SortKind}{κ:Nat->Int}{Q:Lz->LC->Prop}(hl:s.heap.IsList l vs.toArray)(h64:vs.length<64)
  (hkind:2<=vs.length->∀(h':LL) (Q:SortKind->LC->Prop),(∀b o,s.heap.get? b=some o->h'.get? b=some o)->Q kd { s with heap:=h' }->LU (model prog w) A.in1.in1 (keyKind' vs.toArray) Q E { s with heap:=h' })
  (hlt:∀h':LL,(∀b o,s.heap.get? b=some o->h'.get? b=some o)->fm prog w A.in1.in1 { s with heap:=h' } kd (pairsOf vs) κ)
  (h:∀(out:Array Lz) (p:Nat->Nat),out.size=vs.length->(∀i,i<vs.length->out.toList[i]? = vs[p i]?)->SoS κ p vs.length->Q (.ref<|s.heap.objs.size+1) { s with heap:=sortedAll s.heap vs out }) :
  LU (model prog w) A (call (.builtin "sorted") [.ref l]) Q E s:=by
 refine Calls.call_function_entry kind_sorted plain_sorted entry_sorted (args_sorted1 _) ?_;unfold Builtin.«sorted»;refine Gh (m:=checkCount "sorted" 1 1 _)<|Gk ?_;refine Gh (collect_list hl ?_ (by rw[Hl];omega));refine Gh (Lh ?_ (by rw[Hl];omega));have hsz:((s.heap.push<|seqObj "list" #[] 0).update s.heap.objs.size (LO.mapSeq (· ++ vs.toArray))).objs.size=s.heap.objs.size+1:=by
  rw[JK,size_push']
 have hoL:(((s.heap.push<|seqObj "list" #[] 0).update s.heap.objs.size (LO.mapSeq (· ++ vs.toArray))).push<|seqObj "list" vs.toArray 0).get? (s.heap.objs.size+1)=some (seqObj "list" vs.toArray 0):=by
  rw[<-hsz];exact GN _ rfl
 have keep:∀b o,s.heap.get? b=some o->(((s.heap.push<|seqObj "list" #[] 0).update s.heap.objs.size (LO.mapSeq (· ++ vs.toArray))).push<|seqObj "list" vs.toArray 0).get? b=some o/\b≠s.heap.objs.size+1:=λb o q=>by
  have hlt:b<s.heap.objs.size:=Gv q;refine⟨?_,GR<|IW hlt⟩;rw[Jk _ _ _ (by rw[hsz];exact GR<|IW hlt),LL.get?_update_ne _ _ _ _<|GR hlt,Jk _ _ _<|GR hlt];exact q
 show LU _ _ _ _ _ { s with heap:=((s.heap.push<|seqObj "list" #[] 0).update s.heap.objs.size (LO.mapSeq (· ++ vs.toArray))).push (seqObj "list" vs.toArray 0) };rw[hsz];refine Gh (HB (HK slot_list_sort ⟨_,hoL,rfl⟩ entry_list_sort (gA (s:={ s with heap:=((s.heap.push<|seqObj "list" #[] 0).update s.heap.objs.size (LO.mapSeq (· ++ vs.toArray))).push (seqObj "list" vs.toArray 0) }) hoL h64
  (λh2 h' Q hk hq=>hkind h2 h' Q (λb o e=>hk b o (keep b o e).2 (keep b o e).1) hq) (λh' hk=>hlt h' λb o e=>hk b o (keep b o e).2 (keep b o e).1) λout p a1 a2 a3=>⟨_,rfl,?_⟩)<|args_list_sort _))
 exact Gk ⟨_,rfl,h out p a1 a2 a3⟩
end
def iU (K:Frag)(H:Hp):List Int->List V->Prop
 | [],xs=>xs=[]
 | n::ns,xs=>∃t r ys,xs = .ref t::ys/\SqT K H t (.int n::r)/\iU K H ns ys
theorem iU.len {K:Frag}{H:Hp}:∀{ns:List Int} {xs:List V},iU K H ns xs->xs.length=ns.length
 | [],_,h=>by cases h;rfl
 | n::ns,_,⟨t,r,ys,rfl,_,h⟩=>by simp[iU.len h]
theorem iU.get {K:Frag}{H:Hp}:∀{ns:List Int} {xs:List V} {i:Nat} {n:Int},iU K H ns xs->ns[i]? = some n->∃t r,xs[i]? = some (.ref t)/\SqT K H t (.int n::r)
 | [],_,_,_,_,e=>by simp at e
 | m::ns,_,0,n,⟨t,r,ys,rfl,h1,h⟩,e=>by
  simp at e;subst e;exact⟨t,r,rfl,h1⟩
 | m::ns,_,i+1,n,⟨t,r,ys,rfl,h1,h⟩,e=>by
  obtain⟨t',r',a,b⟩:=h.get (i:=i) (by simpa using e);exact⟨t',r',by simpa using a,b⟩
section
variable {X:Cx}{K:Fg}
def zk (K:Frag):List V->Hp->VK->Prop:=λxs H Q=>∃(a:LA) (zs:List V) (ns:List Int),xs=[.ref a]/\SqL K H a zs/\iU K H ns zs/\ns.Nodup/\ns.length<64 /\
 ∀(p:LA) (ys:List V),H p=none->cQ (ns.map V.int) zs ys->Q (.ref p) (upd H p<|.lst ys)
def my (hK:X.K=K):E7 X (.builtin "sorted") (zk K):=by
 subst hK;intro pins s σ H xs us Q I r h;obtain⟨a,zs,ns,rfl,hq,hT,hnd,h64,q⟩:=h;obtain⟨u,rfl,ru⟩:=Y6 r;cases ru;obtain⟨its,rv,p,hz⟩:=I.list hq;have hl1:=hT.len;have hl2:its.length=zs.length:=rv.length.symm;have item:∀(i:Nat) (n:Int),ns[i]? = some n->∃(t:LA) (o:LO) (ys:Array Lz) (k:Nat) (tk:Tok),its[i]? = some (.ref t)/\s.heap.get? t=some o/\o.cls = .type "tuple" /\ o.data = .seq ys k/\ys[0]? = some (.int n tk):=λi n e=>by
  obtain⟨t,r,e1,e2⟩:=hT.get e;obtain⟨u,e3,e4⟩:=rv.get e1;cases e4;obtain⟨ys,ry,⟨o,ho,hc,k,hd⟩,_⟩:=I.tuple e2;cases ry with
  | cons r1 r2 =>
   obtain⟨tk,rfl⟩:=r1;exact⟨t,o,_,k,tk,e3,ho,hc,hd,by simp⟩
 have tups:∀(h':LL),(∀b o,s.heap.get? b=some o->h'.get? b=some o)->∀(ms:List Int) (vs:List Lz),ms.length=vs.length->(∀(i:Nat) (n:Int),ms[i]? = some n->∃(t:LA) (o:LO) (ys:Array Lz) (k:Nat) (tk:Tok),vs[i]? = some (.ref t)/\s.heap.get? t=some o/\o.cls = .type "tuple" /\ o.data = .seq ys k/\ys[0]? = some (.int n tk)) ->
   ∃fs:List Lz,KatTups h' vs fs/\fs.length=vs.length/\∀v∈fs,∃n t,v=Lz.int n t:=by
  intro h' hk ms;induction ms with
  | nil =>
   intro vs hl _;rw[Il.1 hl.symm];exact⟨[],KatTups.nil,rfl,λv hv=>by simp at hv⟩
  | cons m ms ih =>
   intro vs hl hi;cases vs with
   | nil=>simp at hl
   | cons v vs =>
    obtain⟨t,o,ys,k,tk,e1,e2,e3,e4,e5⟩:=hi 0 m rfl;have e1:some v=some (Lz.ref t):=e1;cases e1;obtain⟨fs,f1,f2,f3⟩:=ih vs (by simpa using hl) λi n e=>by
     obtain⟨t,o,ys,k,tk,g1,g⟩:=hi (i+1) n (by simpa using e);exact⟨t,o,ys,k,tk,by simpa using g1,g⟩
    refine⟨.int m tk::fs,KatTups.cons (hk _ _ e2) e3 e4 e5 f1,by simp[f2],λv hv=>?_⟩;rcases GK.1 hv with rfl | hv
    .exact⟨m,tk,rfl⟩
    .exact f3 v hv
 refine oF (kd:=tuples' true) (κ:=Q6<|ns.map V.int) p.isList (by omega) (λh2 h' Q' hk hQ=>?_) (λh' hk=>?_) λout p' a1 a2 a3=>?_
 .obtain⟨fs,f1,f2,f3⟩:=tups h' hk ns its (by omega) item;refine kat_kind (T:=.type "int") (s:={ s with heap:=h' }) f1 (by omega) (λv hv=>?_) rfl hQ;obtain⟨n,t,rfl⟩:=f3 v hv;exact .now
 .intro i j x y hij ex ey E Q' hQ;rw[<-HH,pairsOf_toList,IE]at ex ey;have hi:i<ns.length:=by have:=(GE.1 ex.1).1;omega
  have hj:j<ns.length:=by have:=(GE.1 ey.1).1;omega
  obtain⟨t1,o1,ys1,k1,tk1,b1,b2,b3,b4,b5⟩:=item i ns[i]<|Gm hi;obtain⟨t2,o2,ys2,k2,tk2,c1,c2,c3,c4,c5⟩:=item j ns[j]<|Gm hj;rw[b1]at ex;rw[c1]at ey;rw[<-Gy ex.1,<-Gy ey.1];have n1:Q6 (ns.map V.int) i=ns[i]:=by
   unfold Q6;rw[Gz,GC,Gm hi];rfl
  have n2:Q6 (ns.map V.int) j=ns[j]:=by
   unfold Q6;rw[Gz,GC,Gm hj];rfl
  rw[n1,n2]at hQ;have hne:ns[i]≠ns[j]:=λe=>hij<|(List.getElem_inj hnd).1 e
  refine kat_lt (s:={ s with heap:=h' }) (hk _ _ b2) b4 (hk _ _ c2) c4 ?_;obtain⟨r1,er1⟩:∃r1,ys1.toList = .int ns[i] tk1::r1:=by
   cases e:ys1.toList with
   | nil=>rw[<-HH,e]at b5;simp at b5
   | cons z r=>rw[<-HH,e]at b5;simp at b5;exact⟨r,by rw[b5]⟩
  obtain⟨r2,er2⟩:∃r2,ys2.toList = .int ns[j] tk2::r2:=by
   cases e:ys2.toList with
   | nil=>rw[<-HH,e]at c5;simp at c5
   | cons z r=>rw[<-HH,e]at c5;simp at c5;exact⟨r,by rw[c5]⟩
  rw[er1,er2,Jx];refine kat_cons<|wpAny_eqBool_int ?_;have hb:(ns[i] == ns[j])=false:=by simpa using hne
  rw[hb];refine kat_no ?_;exact oneLt_int hQ
 .have hlen:zs.length=its.length:=hl2.symm;obtain⟨e,he⟩:=sortedAll_at s.heap its out;have ysl:((List.range its.length).map λi=>zs.getD (p' i) .non).length=its.length:=by rw[Gi,GB]
  have ysg:∀i,i<its.length->((List.range its.length).map λi=>zs.getD (p' i) .non)[i]? = zs[p' i]?:=λi hi=>by
   rw[GC,Iu hi];have hpi:=a3.2.2 i hi;show some (zs.getD (p' i) .non)=_;rw[Gz,Gm<|by omega];rfl
  have I1:Inv X pins σ (upd H (s.heap.objs.size+1)<|.lst<|(List.range its.length).map λi=>zs.getD (p' i) .non) { s with heap:=sortedAll s.heap its out,toks:=s.toks } :=
   I.laid (a:=s.heap.objs.size+1) (λb o ho=>sortedAll_old ho) (Jz _) ⟨by rw[ysl,Hl];omega,out.toList,e,P7 (by rw[ysl,atl out,a1]) (λi x u hx hu=>by
    have hi:i<its.length:=by
     have:=(GE.1 hx).1;rwa [ysl]at this
    rw[ysg i hi]at hx;rw[a2 i hi]at hu;obtain⟨u',g1,g2⟩:=rv.get hx;rw[g1]at hu;rw[<-Gy hu];exact g2),by rw[he]⟩
  exact⟨.ref<|s.heap.objs.size+1,_,I1,rfl,q _ _ (I.hok.fresh<|Jz _) ⟨by rw[ysl,hlen],p',by rw[hlen];exact a3,λi hi=>ysg i<|by omega⟩⟩
end
end
end L2
namespace L2
def T6 {α:Type}(p:Int × α):List (Int × α)->List (Int × α)
 | []=>[p]
 | q::r=>if p.1<=q.1 then p::q::r else q::T6 p r
def p7 {α:Type}:List (Int × α)->List (Int × α)
 | []=>[]
 | p::r=>T6 p<|p7 r
theorem jP {α β:Type}(f:α->β)(p:Int × α):∀l:List (Int × α),T6 (p.1,f p.2) (l.map λq=>(q.1,f q.2))=(T6 p l).map λq=>(q.1,f q.2)
 | []=>rfl
 | q::r=>by
  simp only[GH,T6];split
  .rfl
  .rw[GH,jP f p r]
theorem aq {α β:Type}(f:α->β):∀l:List (Int × α),p7 (l.map λq=>(q.1,f q.2))=(p7 l).map λq=>(q.1,f q.2)
 | []=>rfl
 | p::r=>by
  rw[GH,p7,p7,aq f r];exact jP f p _
theorem R6 {α:Type}(p:Int × α):∀l:List (Int × α),(T6 p l).Perm (p::l)
 | []=>.refl _
 | q::r=>by
  rw[T6];split
  .exact .refl _
  .exact((R6 p r).cons q).trans<|.swap p q r
theorem x3 {α:Type}:∀l:List (Int × α),(p7 l).Perm l
 | []=>.refl _
 | p::r=>(R6 p _).trans<|(x3 r).cons p
def LxP (a b:Int×Nat):Prop:=a.1<b.1\/(a.1=b.1/\a.2<b.2)
theorem nF {p:Int×Nat}:∀{l:List (Int×Nat)},l.Pairwise LxP->(∀q∈l,p.2<q.2)->(T6 p l).Pairwise LxP
 | [],_,_=>by simp[T6]
 | q::r,h,hl=>by
  rw[GZ]at h;rw[T6];split
  .rename_i hle;refine GZ.2 ⟨λz hz=>?_,GZ.2 h⟩;have h1:LxP p q:=by
    rcases Kd hle with e | e
    .exact .inl e
    .exact .inr ⟨e,hl q Gx⟩
   rcases GK.1 hz with rfl | hz
   .exact h1
   .have h2:=h.1 z hz;unfold LxP at h1 h2 ⊢;omega
  .rename_i hgt;refine GZ.2 ⟨λz hz=>?_,nF h.2 λz hz=>hl z<|Gq _ hz⟩;rcases GK.1 ((R6 p r).mem_iff.mp hz) with rfl | hz
   .exact .inl (by omega)
   .exact h.1 z hz
theorem fQ:∀{l:List (Int×Nat)},l.Pairwise (λa b=>a.2<b.2)->(p7 l).Pairwise LxP
 | [],_=>.nil
 | p::r,h=>by
  rw[GZ]at h;exact nF (fQ h.2) λq hq=>h.1 q<|(x3 r).mem_iff.mp hq
theorem fR:∀{l₁ l₂:List (Int×Nat)},l₁.Perm l₂->l₁.Pairwise LxP->l₂.Pairwise LxP->l₁=l₂
 | [],l₂,p,_,_=>p.nil_eq
 | a::r,[],p,_,_=>by have:=p.length_eq;simp at this
 | a::r,b::t,p,h1,h2=>by
  rw[GZ]at h1 h2;have ab:a=b:=by
   rcases GK.1 (p.mem_iff.1<|Gx (a:=a) (l:=r)) with e | e
   .exact e
   .rcases GK.1 (p.mem_iff.2<|Gx (a:=b) (l:=t)) with e2 | e2
    .exact e2.symm
    .have q1:=h2.1 a e;have q2:=h1.1 b e2;unfold LxP at q1 q2;omega
  subst ab;rw[fR (p.cons_inv) h1.2 h2.2]
theorem eP:∀(n:Nat) (l:List Nat),l.Nodup->(∀x∈l,x<n)->l.length=n->l.Perm (List.range n)
 | 0,l,_,_,hl=>by rw[Il.1 hl];exact .refl _
 | n+1,l,hd,hb,hl=>by
  have short:∀(m:Nat) (l:List Nat),l.Nodup->(∀x∈l,x<m)->l.length<=m:=by
   intro m;induction m with
   | zero =>
    intro l _ hb;cases l with
    | nil=>simp
    | cons a r=>exact absurd (hb a Gx) (by omega)
   | succ m ih =>
    intro l hd hb;by_cases hm:m∈l
    .have e:=ih (l.erase m) (hd.erase m) λx hx=>by
      have h1:=hb x<|List.mem_of_mem_erase hx;have h2:x≠m:=λz=>by subst z;exact(List.Nodup.not_mem_erase hd) hx
      omega
     rw[List.length_erase_of_mem hm]at e;omega
    .have e:=ih l hd λx hx=>by
      have h1:=hb x hx;have h2:x≠m:=λz=>hm<|z▸hx
      omega
     omega
  have hn:n∈l:=by
   by_cases hm:n∈l
   .exact hm
   .have e:=short n l hd λx hx=>by
     have h1:=hb x hx;have h2:x≠n:=λz=>hm<|z▸hx
     omega
    omega
  have ih:=eP n (l.erase n) (hd.erase n) (λx hx=>by
   have h1:=hb x<|List.mem_of_mem_erase hx;have h2:x≠n:=λz=>by subst z;exact(List.Nodup.not_mem_erase hd) hx
   omega) (by rw[List.length_erase_of_mem hn];omega)
  refine(List.perm_cons_erase hn).trans<|(ih.cons n).trans ?_;rw[Ih];exact(List.perm_append_singleton n<|List.range n).symm
def ky {ks xs ys:List V}(h:cQ ks xs ys)(hl:ks.length=xs.length):ys=(p7<|(ks.map fG).zip xs).map Prod.snd:=by
 obtain⟨hy,p,hS,hp⟩:=h;generalize hn:xs.length=n at hy hS hp hl;have nd:((List.range n).map p).Nodup:=by
  rw[Iy,HI];intro i j hi hj hij;have hj':j<n:=by simpa using hj
  simp only[JL,IT];intro e;have q:=hS.1 i j hij hj';rw[e]at q;unfold Lx at q;omega
 have pr:=eP n ((List.range n).map p) nd (λx hx=>by
  obtain⟨i,hi,rfl⟩:=GW.1 hx;exact hS.2.2 i<|GJ.1 hi) (by simp)
 have q1:(((List.range n).map p).map λi=>(Q6 ks i,i)).Pairwise LxP:=by
  rw[HI];intro i j hi hj hij;have hj':j<n:=by simpa using hj
  simp only[JL,IT];exact hS.1 i j hij hj'
 have q2:(p7<|(List.range n).map λi=>(Q6 ks i,i)).Pairwise LxP:=fQ (by
  rw[HI];intro i j hi hj hij;simpa using hij)
 have e:=fR ((pr.map λi=>(Q6 ks i,i)).trans (x3 _).symm) q1 q2;have ez:(ks.map fG).zip xs=((List.range n).map λi=>(Q6 ks i,i)).map λq=>(q.1,xs.getD q.2 .non):=by
  refine List.ext_getElem? λi=>?_
  rw[GL];by_cases hi:i<n
  .have h1:(ks.map fG)[i]? = some (Q6 ks i):=by
    rw[GC];unfold Q6;rw[Gz,Gm<|by omega];rfl
   have h2:xs[i]? = some (xs.getD i .non):=by
    rw[Gz,Gm<|by omega];rfl
   rw[show((ks.map fG).zip xs)[i]? = some (Q6 ks i,xs.getD i .non) from IE.2 ⟨h1,h2⟩,GC,Iu hi];rfl
  .rw[HS (by rw[List.length_zip,Gi];omega),HS (by simp;omega)]
 rw[ez,aq<|λi=>xs.getD i .non,<-e,GL,GL,GL];refine List.ext_getElem? λi=>?_
 by_cases hi:i<n
 .rw[hp i hi,GC,Iu hi];have hpi:=hS.2.2 i hi;show xs[p i]? = some (xs.getD (p i) .non);rw[Gz,Gm<|by omega];rfl
 .rw[HS (by omega),HS (by simp;omega)]
end L2
namespace L3
open PySem
section
open Sem (wp)
structure SubKind (prog:LD) (w:LF) (K:Type) [DecidableEq K] extends HeapKind prog w K where
 deep:Nat
 quietN:∀{A:LG} {E:Lz->LC->Prop} {s:LC} {k:K} {a:LA} {n:Nat} {Q:Bool->LC->Prop},deep<=n->is s.heap k a->Q true s->LU (model prog w) A (eqIsQuiet n<|.ref a) Q E s
section
variable {prog:LD}{w:LF}{K K2:Type}[DecidableEq K][DecidableEq K2](knd:KeyKind prog w K)(sub:SubKind prog w K2)(p:Nat->Bool)
inductive ItemsN (h:LL):Nat->List (K ⊕ K2)->List Lz->Prop
 | nil {j:Nat}:ItemsN h j [] []
 | val {j:Nat} {k:K} {v:Lz} {ks:List (K ⊕ K2)} {vs:List Lz}:p j=false->knd.is k v=true->ItemsN h (j+1) ks vs->ItemsN h j (.inl k::ks) (v::vs)
 | ref {j:Nat} {k:K2} {a:LA} {ks:List (K ⊕ K2)} {vs:List Lz}:p j=true->sub.is h k a->ItemsN h (j+1) ks vs->ItemsN h j (.inr k::ks) (.ref a::vs)
def G6 (h:LL)(ks:List (K ⊕ K2))(a:LA):Prop:=∃o items n,h.get? a=some o/\o.cls = .type "tuple" /\ o.data = .seq items n/\ItemsN knd sub p h 0 ks items.toList
variable {knd sub p}
def ItemsN.inj {h:LL}{j:Nat}{x y:List (K ⊕ K2)}{vs:List Lz}(hx:ItemsN knd sub p h j x vs)(hy:ItemsN knd sub p h j y vs):x=y:=by
 induction hx generalizing y with
 | nil=>cases hy;rfl
 | val hp h1 _ ih =>
  cases hy with
  | val hp2 h2 t2=>rw[knd.inj _ _ _ h1 h2,ih t2]
  | ref hp2 h2 t2=>rw[hp]at hp2;cases hp2
 | ref hp h1 _ ih =>
  cases hy with
  | val hp2 h2 t2=>rw[hp]at hp2;cases hp2
  | ref hp2 h2 t2=>rw[sub.inj h1 h2,ih t2]
def G6.typeIs {s:LC}{ks:List (K ⊕ K2)}{a:LA}(x:G6 knd sub p s.heap ks a):s.TypeIs (.ref a) "tuple":=let ⟨o,_,_,ho,hc,_⟩:=x;⟨o,ho,hc⟩
def G6.inj {h:LL}{a:LA}{x y:List (K ⊕ K2)}(hx:G6 knd sub p h x a)(hy:G6 knd sub p h y a):x=y:=by
 obtain⟨o,items,n,ho,_,hd,hi⟩:=hx;obtain⟨o',items',n',ho',_,hd',hi'⟩:=hy;obtain rfl:o=o':=Gy<|ho.symm.trans ho';rw[hd]at hd';injection hd' with h1 _
 subst h1;exact hi.inj hi'
def ItemsN.keeps {h h':LL}{d:LA}{o:LO}{es ep}{j:Nat}{ks:List (K ⊕ K2)}{vs:List Lz}(x:ItemsN knd sub p h j ks vs)(ho:h.get? d=some o)(hd:o.data = .dict es ep)(hs:LL.SameBut d h h'):ItemsN knd sub p h' j ks vs:=by
 induction x with
 | nil=>exact .nil
 | val hp h1 _ ih=>exact .val hp h1 ih
 | ref hp h1 _ ih=>exact .ref hp (sub.keeps h1 ho hd hs) ih
def G6.keeps {h h':LL}{ks:List (K ⊕ K2)}{a d:LA}{o:LO}{es ep}(x:G6 knd sub p h ks a)(ho:h.get? d=some o)(hd:o.data = .dict es ep)(hs:LL.SameBut d h h'):G6 knd sub p h' ks a:=by
 obtain⟨o',items,n,ho',hc,hd',hi⟩:=x;have hne:a≠d:=by
  rintro rfl;obtain rfl:o'=o:=Gy<|ho'.symm.trans ho;rw[hd]at hd';exact nomatch hd'
 exact⟨o',items,n,(hs.2 a hne).trans ho',hc,hd',hi.keeps ho hd hs⟩
def cF (knd:KeyKind prog w K)(sub:SubKind prog w K2):K ⊕ K2->Int
 | .inl k=>knd.hash k
 | .inr k=>sub.hash k
def fo (sub:SubKind prog w K2):K ⊕ K2->Nat
 | .inl _=>1
 | .inr k=>sub.draws k
def Y3 (knd:KeyKind prog w K)(sub:SubKind prog w K2)(ks:List (K ⊕ K2)):Int:=reduceHash<|Builtin.Tuple.tupleHashOf<|ks.map<|cF knd sub
variable {A:LG}{E:Lz->LC->Prop}{s:LC}
def jK {ks:List (K ⊕ K2)}{a:LA}{Q:Int->LC->Prop}(hu:A.units<Mc)(hr:sub.room A.in1)(hk:G6 knd sub p s.heap ks a)(h:Q (Y3 knd sub ks) { s with toks:=s.toks+((ks.map<|fo sub).sum+1) }) :
  LU (model prog w) A (PySem.pyHash<|.ref a) Q E s:=by
 have hT:=hk.typeIs;obtain⟨o,items,n,ho,_,hd,hi⟩:=hk;unfold PySem.pyHash;first | unfold pyHashByItsType | skip
 first | refine Gh (wpAny_cRoomFor_or (.inr hu) ?_) | skip
 refine Gh<|JX hT Kr.lookup ?_;show LU _ _ (if (some (Lz.builtin "tuple.__hash__") == some Lz.none)=true then _ else _) Q E s;rw[Gr (by rw[beq_builtin_none];exact GQ)];refine Gh<|JX hT Kr.lookup ?_;show LU _ _ (callSpecialIfBoundUnlessNone? (.ref a) "__hash__" _ >>= _) Q E s;refine Gh<|JM hT Kr<|HK Kr hT F.entry_tuple_hash ?_<|F.args_tuple_hash_1 _;show LU _ _ (Builtin.Tuple.tupleItemsOf (.ref a) >>= _) _ _ s;refine Gh<|Lc ho hd ?_;refine Gh ?_;rw[<-Jf];refine wpAny_forIn_list _
  (λrest (b:Array Int) s'=>∃done left,ks=done++left/\ItemsN knd sub p s.heap done.length left rest/\b.toList=done.map (cF knd sub)/\s'={ s with toks:=s.toks+(done.map<|fo sub).sum })
  _ ?_ ?_ _ _ ⟨[],ks,rfl,hi,rfl,rfl⟩
 .rintro x rest b s' ⟨done,left,rfl,hl,hb,rfl⟩;cases hl with
  | @val _ k _ ks' _ hp h1 hl' =>
   refine Gh<|knd.pyHash h1 ?_;exact Gk ⟨done++[.inl k],ks',by simp,by simpa using hl',by simp[hb,cF],by simp[Li,fo]⟩
  | @ref _ k a ks' _ hp h1 hl' =>
   refine Gh<|sub.pyHash hr h1 ?_;exact Gk ⟨done++[.inr k],ks',by simp,by simpa using hl',by simp[hb,cF],by simp[Li,fo]⟩
 .rintro b s' ⟨done,left,rfl,hl,hb,rfl⟩;cases hl;rw[HE]at h;show LU _ _ (retInt<|Builtin.Tuple.tupleHashOf b.toList) _ _ _;rw[hb];refine wpAny_ret_mkInt ?_;show LU _ _ (if (decide (-(2:Int) ^ 63<=Builtin.Tuple.tupleHashOf (done.map<|cF knd sub))&&decide (Builtin.Tuple.tupleHashOf (done.map<|cF knd sub)<2 ^ 63))=true then _ else _) Q E _;unfold Y3 reduceHash at h;by_cases hr:(decide (-(2:Int) ^ 63<=Builtin.Tuple.tupleHashOf (done.map<|cF knd sub))&&decide (Builtin.Tuple.tupleHashOf (done.map<|cF knd sub)<2 ^ 63))=true
  .rw[Gp hr];rw[Gp hr]at h;exact Gk (by simpa [Li] using h)
  .rw[Gr hr];rw[Gr hr]at h;exact Gh (Iw<|Gk<|by simpa [Li] using h)
def iO {x y:List (K ⊕ K2)}{a b:LA}{P:Fin->LC->Prop}(hr:sub.room A)(hx:G6 knd sub p s.heap x a)(hy:G6 knd sub p s.heap y b)(h:P (.done<|.ret<|.bool<|decide (x=y)) s) :
  LU (model prog w) A (Builtin.«tuple.__eq__» ⟨[.ref a,.ref b],[]⟩) P E s:=by
 have hTb:=hy.typeIs;obtain⟨oa,xs,na,hoa,_,hda,hia⟩:=hx;obtain⟨ob,ys,nb,hob,_,hdb,hib⟩:=hy;show LU _ _ (isInstance (.ref b) (.type "tuple") >>= _) _ _ s;refine Gh<|Kz hTb isSubtype_tuple_tuple ?_;simp only[Jv,GY,HP];refine Gh<|Lc hoa hda ?_;refine Gh<|Lc hob hdb ?_;refine Gh ?_;refine wpAny_forIn_list _
  (λrest r s'=>r.1=none/\s'=s/\∃j x' y' xs' ys',rest=List.zip xs' ys'/\ItemsN knd sub p s.heap j x' xs'/\ItemsN knd sub p s.heap j y' ys'/\decide (x'=y')=decide (x=y)/\(xs'.length == ys'.length)=(xs.size == ys.size))
  _ ?_ ?_ _ _ ⟨rfl,rfl,0,x,y,xs.toList,ys.toList,rfl,hia,hib,rfl,by simp⟩
 .rintro ⟨u,v⟩ rest r s' ⟨hr',rfl,j,x',y',xs',ys',hz,hx',hy',hdec,hlen⟩;cases hx' with
  | nil=>simp at hz
  | @val _ k1 u' x'' xs'' hp h1 hx'' =>
   cases hy' with
   | nil=>simp at hz
   | @ref _ k2 b' y'' ys'' hp2 h2 hy''=>rw[hp]at hp2;cases hp2
   | @val _ k2 v' y'' ys'' hp2 h2 hy'' =>
    simp only[Jx,List.cons.injEq,Prod.mk.injEq]at hz;obtain⟨⟨rfl,rfl⟩,rfl⟩:=hz;refine Gh<|knd.eqBool (a:=k1) (b:=k2) h1 h2 ?_;by_cases hk:k1=k2
    .subst hk;rw[GX rfl];simp only[Jv,GY,HP];refine Gk ⟨rfl,rfl,j+1,x'',y'',xs'',ys'',rfl,hx'',hy'',?_,by simpa using hlen⟩;rw[<-hdec];by_cases hxy:x''=y''
     .simp[hxy]
     .simp[hxy]
    .rw[Hx hk];simp only[Bool.not_false,Ig];have hf:decide (x=y)=false:=by rw[<-hdec];simp[hk]
     rw[hf]at h;exact Gh<|Gk<|Gk<|Gk h
  | @ref _ k1 a' x'' xs'' hp h1 hx'' =>
   cases hy' with
   | nil=>simp at hz
   | @val _ k2 v' y'' ys'' hp2 h2 hy''=>rw[hp]at hp2;cases hp2
   | @ref _ k2 b' y'' ys'' hp2 h2 hy'' =>
    simp only[Jx,List.cons.injEq,Prod.mk.injEq]at hz;obtain⟨⟨rfl,rfl⟩,rfl⟩:=hz;refine Gh<|sub.eqBool (x:=k1) (y:=k2) hr h1 h2 ?_;by_cases hk:k1=k2
    .subst hk;rw[GX rfl];simp only[Jv,GY,HP];refine Gk ⟨rfl,rfl,j+1,x'',y'',xs'',ys'',rfl,hx'',hy'',?_,by simpa using hlen⟩;rw[<-hdec];by_cases hxy:x''=y''
     .simp[hxy]
     .simp[hxy]
    .rw[Hx hk];simp only[Bool.not_false,Ig];have hf:decide (x=y)=false:=by rw[<-hdec];simp[hk]
     rw[hf]at h;exact Gh<|Gk<|Gk<|Gk h
 .rintro ⟨r1,r2⟩ s' ⟨hr',rfl,j,x',y',xs',ys',hz,hx',hy',hdec,hlen⟩;simp only at hr';subst hr';refine Gk ?_;have hfin:(xs.size == ys.size)=decide (x=y):=by
   rw[<-hdec,<-hlen];cases hx' with
   | nil =>
    cases hy' with
    | nil=>simp
    | val _ _ _=>simp
    | ref _ _ _=>simp
   | val _ _ _ =>
    cases hy' with
    | nil=>simp
    | val _ _ _=>simp at hz
    | ref _ _ _=>simp at hz
   | ref _ _ _ =>
    cases hy' with
    | nil=>simp
    | val _ _ _=>simp at hz
    | ref _ _ _=>simp at hz
  show P (.done<|.ret<|.bool<|xs.size == ys.size) s';rw[hfin];exact h
def ju {x y:List (K ⊕ K2)}{a b:LA}{Q:Bool->LC->Prop}(hu:A.units<Mc)(hr:sub.room A.in1)(hx:G6 knd sub p s.heap x a)(hy:G6 knd sub p s.heap y b)(h:Q (decide (x=y)) s) :
  LU (model prog w) A (PySem.eqBool (.ref a)<|.ref b) Q E s:=by
 unfold PySem.eqBool;try with_reducible refine HB ?_
 show LU _ _ (if (Lz.ref a == Lz.ref b)=true then _ else _) Q E s;by_cases hab:(Lz.ref a == Lz.ref b)=true
 .rw[Gp hab];have e:a=b:=by have:=eq_of_beq hab;injection this
  subst e;obtain rfl:=hx.inj hy;exact Gh (Iw<|Gk<|by simpa using h)
 .rw[Gr hab];refine Gh (wpAny_richCompare_same_room (op:=.Eq) hx.typeIs hy.typeIs F.slot_tuple_eq
   (HK F.slot_tuple_eq hx.typeIs F.entry_tuple_eq (iO ?rm hx hy ⟨_,rfl,(λe=>nomatch e),IV h⟩)<|F.args_tuple_eq_2 _ _) hu)
  case rm=>exact hr
def dH {ks:List (K ⊕ K2)}{a:LA}{n:Nat}{Q:Bool->LC->Prop}(hn:sub.deep+1<=n)(hk:G6 knd sub p s.heap ks a)(h:Q true s):LU (model prog w) A (eqIsQuiet n<|.ref a) Q E s:=by
 have hT:=hk.typeIs;obtain⟨o,items,m,ho,_,hd,hi⟩:=hk;obtain⟨n,rfl⟩:∃k,n=k+1:=⟨n-1,by omega⟩;unfold eqIsQuiet;refine Gh<|JX hT F.slot_tuple_eq.lookup ?_;show LU _ _ (isInstance (.ref a) (.type "tuple") >>= _) _ _ s;refine Gh<|Kz hT isSubtype_tuple_tuple ?_;simp only[Jv,GY,HP];refine Gh<|HL ho hd ?_;refine Gh ?_;show LU _ _ (forIn items _ _) _ _ s;rw[<-Jf];refine wpAny_forIn_list _ (λrest r s'=>r.1=none/\s'=s/\∃j ks,ItemsN knd sub p s.heap j ks rest) _ ?_ ?_ _ _ ⟨rfl,rfl,0,ks,hi⟩
 .rintro v rest r s' ⟨hr,rfl,j,ks,hall⟩;cases hall with
  | val hp h1 ht =>
   rw[eqIsQuiet_byValue _<|knd.byValue _ _ h1];refine Gh<|Gk ?_;simp only[Jv,GY,HP];exact Gk ⟨rfl,rfl,_,_,ht⟩
  | ref hp h1 ht =>
   refine Gh (sub.quietN (by omega) h1 ?_);simp only[Jv,GY,HP];exact Gk ⟨rfl,rfl,_,_,ht⟩
 .rintro ⟨r1,r2⟩ s' ⟨hr,rfl,_⟩;simp only at hr;subst hr;exact Gk h
end
def qK {prog:LD}{w:LF}{K K2:Type}[DecidableEq K][DecidableEq K2](knd:KeyKind prog w K)(sub:SubKind prog w K2)(p:Nat->Bool)(hd:sub.deep<8):SubKind prog w (List<|K ⊕ K2) where
 is:=G6 knd sub p
 hash:=Y3 knd sub
 draws:=λks=>(ks.map<|fo sub).sum+1
 room:=λA=>A.units<Mc/\sub.room A.in1
 inj:=λhx hy=>hx.inj hy
 keeps:=λx ho hd hs=>x.keeps ho hd hs
 pyHash:=λhu hk h=>jK hu.1 hu.2 hk h
 eqBool:=λhu hx hy h=>ju hu.1 hu.2 hx hy h
 quiet:=λhk h=>dH (by omega) hk h
 deep:=sub.deep+1
 quietN:=λhn hk h=>dH hn hk h
end
section
open Sem (wp)
def bIn (b:Bool):Int:=if b then 1 else 0
def V6 (i:Int):Lz->Bool
 | .int j _=>j == i
 | .bool b=>bIn b == i
 | _=>false
def J6 {i:Int}{v:Lz}(h:V6 i v=true):(∃t,v = .int i t)\/∃b,v = .bool b/\bIn b=i:=by
 cases v with
 | int j t=>exact .inl ⟨t,by simp[V6]at h;rw[h]⟩
 | bool b=>exact .inr ⟨b,rfl,by simpa [V6] using h⟩
 | _=>simp[V6]at h
section
variable {prog:LD}{w:LF}{A:LG}{E:Lz->LC->Prop}{s:LC}
def jM {b:Bool}{Q:Int->LC->Prop}(h:Q (hashInt<|bIn b) { s with toks:=s.toks+1 }):LU (model prog w) A (PySem.pyHash<|.bool b) Q E s:=by
 have hr:=rawHash_range<|bIn b;unfold PySem.pyHash;have hv:[Lz.bool b].any Lz.onHeap=false:=rfl;refine Gh ?_;rw[cRoomFor,Gr (by rw[hv];exact GQ)];refine Gk ?_;refine Gh<|JX (typeIs_bool s b) KA.lookup ?_;show LU _ _ (if (some (Lz.builtin "int.__hash__") == some Lz.none)=true then _ else _) Q E s;rw[Gr (by rw[beq_builtin_none];exact GQ)];refine Gh<|JX (typeIs_bool s b) KA.lookup ?_;show LU _ _ (callSpecialIfBoundUnlessNone? (.bool b) "__hash__" _ >>= _) Q E s;refine Gh (JM (typeIs_bool s b) KA
  (HK KA (typeIs_bool s b) entry_int_hash
   (show LU _ _ (do ret (<-mkInt (rawHash<|bIn b))) _ _ s from wpAny_ret_mkInt ?_) (args_int_hash _)))
 show LU _ _ (if (decide (-(2:Int) ^ 63<=rawHash (bIn b))&&decide (rawHash (bIn b)<2 ^ 63))=true then _ else _) Q E _;rw[Gp (by rw[GX hr.1,GX hr.2];rfl)];exact Gk h
end
def oi (prog:LD)(w:LF):PySem.KeyKind prog w Int where
 is:=V6
 hash:=hashInt
 inj:=λv a b ha hb=>by
  rcases J6 ha with ⟨t,rfl⟩ | ⟨x,rfl,rfl⟩
  .simpa [V6] using hb
  .simpa [V6] using hb
 byValue:=λk v h=>by
  rcases J6 h with ⟨t,rfl⟩ | ⟨x,rfl,rfl⟩ <;> rfl
 pyHash:=λhv h=>by
  rcases J6 hv with ⟨t,rfl⟩ | ⟨x,rfl,rfl⟩
  .exact wpAny_pyHash_int h
  .exact jM h
 eqBool:=λ{A E s a b u v Q} hu hv h=>by
  have e0:∀x y:Int,(x == y)=decide (x=y):=λx y=>by by_cases e:x=y <;> simp[e]
  rw[<-e0]at h;rcases J6 hu with ⟨t,rfl⟩ | ⟨x,rfl,rfl⟩
  .rcases J6 hv with ⟨t2,rfl⟩ | ⟨y,rfl,rfl⟩
   .exact wpAny_eqBool_int h
   .exact SeqAt.EqAt.int_bool a t y _ _ _ _ h
  .rcases J6 hv with ⟨t2,rfl⟩ | ⟨y,rfl,rfl⟩
   .exact SeqAt.EqAt.bool_int x b t2 _ _ _ _ h
   .refine SeqAt.EqAt.bool_bool x y _ _ _ _ ?_;have:(bIn x == bIn y)=(x == y):=by cases x <;> cases y <;> rfl
    rw[<-this];exact h
 «strs»:=λk x t v h=>by simp[V6]at h
end
end L3
namespace L3
open PySem PySem.Spec PyProof.Rows L2
section
structure NKey where
 K:Type
 dec:DecidableEq K
 kind:∀(P:LD) (w:LF),SubKind P w K
 hsh:K->Int
 hs:∀P w k,(kind P w).hash k=hsh k
 dp:Nat
 hdp:∀P w,(kind P w).deep=dp
 At:Fg->Hp->K->LA->Prop
 ok:∀{X:Cx} {pins:List (LA×LO)} {σ:L2.St} {H:Hp} {s:LC} {k:K} {b:LA},Inv X pins σ H s->At X.K H k b->(kind X.prog X.w).is s.heap k b
 keeps:∀{L:Fg} {H H':Hp} {k:K} {b:LA},At L H k b->(∀c xs,SqT L H c xs->SqT L H' c xs)->At L H' k b
 room:∀(P:LD) (w:LF) (A:LG),A.units+dp<Mc->(kind P w).room A
instance (κ:NKey):DecidableEq κ.K:=κ.dec
def AN (P:LD)(w:LF):SubKind P w Empty where
 is:=λ_ _ _=>False
 hash:=λk=>k.elim
 draws:=λk=>k.elim
 room:=λ_=>True
 inj:=λh=>h.elim
 keeps:=λh=>h.elim
 pyHash:=λ_ h=>h.elim
 eqBool:=λ_ h=>h.elim
 quiet:=λh=>h.elim
 deep:=0
 quietN:=λ_ h=>h.elim
def AC:NKey where
 K:=Empty
 dec:=inferInstance
 kind:=AN
 hsh:=λk=>k.elim
 hs:=λ_ _ k=>k.elim
 dp:=0
 hdp:=λ_ _=>rfl
 At:=λ_ _ _ _=>False
 ok:=λ_ h=>h.elim
 keeps:=λh=>h.elim
 room:=λ_ _ _ _=>True.intro
section
variable (κ:NKey)(p:Nat->Bool)
inductive VKeys (L:Fg) (H:Hp):Nat->List (Int ⊕ κ.K)->List V->Prop
 | nil {j:Nat}:VKeys L H j [] []
 | int {j:Nat} {i:Int} {ks:List (Int ⊕ κ.K)} {vs:List V}:p j=false->VKeys L H (j+1) ks vs->VKeys L H j (.inl i::ks) (.int i::vs)
 | bl {j:Nat} {b:Bool} {ks:List (Int ⊕ κ.K)} {vs:List V}:p j=false->VKeys L H (j+1) ks vs->VKeys L H j (.inl (bIn b)::ks) (.bl b::vs)
 | ref {j:Nat} {k:κ.K} {a:LA} {ks:List (Int ⊕ κ.K)} {vs:List V}:p j=true->κ.At L H k a->VKeys L H (j+1) ks vs->VKeys L H j (.inr k::ks) (.ref a::vs)
variable {κ p}
def VKeys.keeps {L:Fg}{H H':Hp}{j:Nat}{ks:List (Int ⊕ κ.K)}{vs:List V}(x:VKeys κ p L H j ks vs)(hk:∀c xs,SqT L H c xs->SqT L H' c xs):VKeys κ p L H' j ks vs:=by
 induction x with
 | nil=>exact .nil
 | int hp _ ih=>exact .int hp ih
 | bl hp _ ih=>exact .bl hp ih
 | ref hp h1 _ ih=>exact .ref hp (κ.keeps h1 hk) ih
def VKeys.items {X:Cx}{pins:List (LA×LO)}{σ:L2.St}{H:Hp}{s:LC}(ok:Inv X pins σ H s){j:Nat}{ks:List (Int ⊕ κ.K)}{vs:List V}(x:VKeys κ p X.K H j ks vs):∀{us:List Lz},j6 vs us->ItemsN (oi X.prog X.w) (κ.kind X.prog X.w) p s.heap j ks us:=by
 induction x with
 | nil=>intro us r;cases r;exact .nil
 | @int j i ks vs hp _ ih =>
  intro us r;cases r with
  | cons r1 r2 =>
   obtain⟨t,e⟩:=(show ∃t,_=Lz.int i t from r1);subst e;exact .val hp (show V6 i (.int i t)=true by simp[V6])<|ih r2
 | @bl j b ks vs hp _ ih =>
  intro us r;cases r with
  | cons r1 r2 =>
   cases(show _=Lz.bool b from r1);exact .val hp (show V6 (bIn b) (.bool b)=true by simp[V6])<|ih r2
 | @ref j k a ks vs hp h1 _ ih =>
  intro us r;cases r with
  | cons r1 r2 =>
   cases(show _=Lz.ref a from r1);exact .ref hp (κ.ok ok h1)<|ih r2
end
def qx (κ:NKey)(p:Nat->Bool)(hd:κ.dp<8):NKey where
 K:=List<|Int ⊕ κ.K
 dec:=inferInstance
 kind:=λP w=>qK (oi P w) (κ.kind P w) p (by rw[κ.hdp];exact hd)
 hsh:=λks=>reduceHash (Builtin.Tuple.tupleHashOf (ks.map λk=>match k with | .inl i=>hashInt i | .inr k=>κ.hsh k))
 hs:=λP w ks=>by
  show Y3 _ _ ks=_;unfold Y3;congr 2;refine GO λk _=>?_
  cases k with
  | inl i=>rfl
  | inr k=>exact κ.hs P w k
 dp:=κ.dp+1
 hdp:=λP w=>by show(κ.kind P w).deep+1=_;rw[κ.hdp]
 At:=λL H ks b=>∃vs,SqT L H b vs/\VKeys κ p L H 0 ks vs
 ok:=λ{X pins σ H s k b} I ⟨vs,e,x⟩=>by
  obtain⟨its,r,⟨o,h1,h2,n,h3⟩,_⟩:=I.tuple e;exact⟨o,its.toArray,n,h1,h2,h3,by simpa using x.items I r⟩
 keeps:=λ⟨vs,e,x⟩ hk=>⟨vs,hk _ _ e,x.keeps hk⟩
 room:=λP w A hu=>⟨by omega,κ.room P w A.in1 (by show A.units+1 + κ.dp<Mc;omega)⟩
def uO:NKey:=qx AC (λ_=>false) (by decide)
def nv:NKey:=qx uO (λ_=>true) (by decide)
def uX:NKey:=qx nv (λj=>j == 0) (by decide)
end
section
def NDi (κ:NKey)(a:LA)(xs:List (κ.K×LA×V)):LL->Prop:=λh=>xs.length<=LM/\(a == sysModules)=false/\∃vs:List (κ.K×LA×Lz),
 Paired (λ(p:κ.K×LA×V) (q:κ.K×LA×Lz)=>p.1=q.1/\p.2.1=q.2.1/\m7 p.2.2 q.2.2) xs vs /\
 ∃o es ep,h.get? a=some o/\o.ExactDict/\o.data = .dict es ep/\es.toList=vs.map (λq=>(⟨κ.hsh q.1,.ref q.2.1,q.2.2⟩:DictEntry))/\(vs.map (·.1)).Nodup
end
end L3
namespace L3
open PySem PySem.Spec PyProof.Rows L2
section
def Cy:Ac->Option Int
 | .int i=>some i
 | .bool b=>some<|bIn b
 | _=>none
def ur:List Ac->Option (List<|Int ⊕ Empty)
 | []=>some []
 | d::ds=>(Cy d).bind λi=>(ur ds).map (.inl i :: ·)
def qy:List Ac->Option (List<|Int ⊕ List (Int ⊕ Empty))
 | []=>some []
 | .tuple es::ds=>(ur es).bind λk=>(qy ds).map (.inr k :: ·)
 | _::_=>none
def AL:Ac->Option uO.K
 | .tuple ds=>ur ds
 | _=>none
def Cb:Ac->Option nv.K
 | .tuple ds=>qy ds
 | _=>none
def yX:Ac->Option uX.K
 | .tuple [.tuple ds,.int i]=>(qy ds).map λk=>[.inr k,.inl i]
 | _=>none
end
section
def aX (p:Int×V):Key×V:=(.inl p.1,p.2)
def FrI (a:LA)(kvs:List (Int×V))(vs:List (Key×Lz))(ep:Nat):LL->Prop:=λh=>kvs.length<=LM/\(a == sysModules)=false/\KV (kvs.map aX) vs/\∀P w,h.DictAt (m8 P w) a vs ep
def pT (a:LA)(φ:LL->Prop):Prop:=∃h,φ h/\∃o es ep,h.get? a=some o/\o.data = .dict es ep
def oW {P P':LD}{w w':LF}{l:List DictEntry}{m:List (Key×Lz)}(h:Pairs (m8 P w) l m):Pairs (m8 P' w') l m:=by
 induction h with
 | nil=>exact .nil
 | cons h1 h2 _ ih=>exact .cons h1 h2 ih
def oO {P:LD}{w:LF}{l:List DictEntry}{m:List (Key×Lz)}{x:DictEntry}(h:Pairs (m8 P w) l m)(hx:x∈l):∃q∈m,fq q.1 x.key=true:=by
 induction h with
 | nil=>cases hx
 | cons h1 h2 _ ih =>
  rcases GK.1 hx with rfl | hx
  .exact⟨_,Gx,h1⟩
  .obtain⟨q,hq,h⟩:=ih hx;exact⟨q,Gq _ hq,h⟩
def rN {P:LD}{w:LF}{h:LL}{a:LA}{vs:List (Key×Lz)}(hv:∀q∈vs,∃i,q.1 = .inl i){ep:Nat}(d:h.DictAt (m8 P w) a vs ep)(P':LD)(w':LF):h.DictAt (m8 P' w') a vs ep:=by
 obtain⟨o,es,e,ex,ed,hk,hp,nd⟩:=d;refine⟨o,es,e,ex,ed,λx hx=>?_,oW hp,nd⟩;obtain⟨k,k1,k2⟩:=hk x hx;obtain⟨q,hq,q1⟩:=oO hp<|Array.mem_toList_iff.2 hx;obtain⟨i,ei⟩:=hv q hq;have e1:k=q.1:=(m8 P w).inj _ _ _ k1 q1;refine⟨k,k1,?_⟩;rw[k2,e1,ei];rfl
def Ao:∀{kvs:List (Int×V)} {vs:List (Key×Lz)},KV (kvs.map aX) vs->∀q∈vs,∃i,q.1 = .inl i:=λ{kvs}=>by
 induction kvs with
 | nil=>intro vs h q hq;cases h;cases hq
 | cons p kvs ih =>
  intro vs h q hq;cases h with
  | cons h1 h2 =>
   rcases GK.1 hq with rfl | hq
   .exact⟨p.1,h1.1.symm⟩
   .exact ih h2 q hq
section
variable {P:LD}{w:LF}{X:Cx}{pins:List (LA×LO)}{σ:L2.St}{H:Hp}{s:LC}{h:LL}{a:LA}{kvs:List (Int×V)}
def FrI.obj {vs:List (Key×Lz)}{ep:Nat}(d:FrI a kvs vs ep h):D7 P w H h a (.ext<|FrI a kvs vs ep):=by
 refine⟨d,?_,λh1 h2 d k=>?_⟩
 .obtain⟨_,_,_,hd⟩:=d;obtain⟨o,es,e,_⟩:=hd P w;exact⟨o,e⟩
 .obtain⟨z,y,r,hd⟩:=d;refine⟨z,y,r,λP w=>?_⟩;obtain⟨o,es,e,c⟩:=hd P w;exact⟨o,es,k o e,c⟩
def xo (a:LA)(h:LL):LL.SameBut a h h:=⟨rfl,λ_ _=>rfl⟩
def tH {vs:List (Key×Lz)}{ep:Nat}(I:Inv X pins σ H s)(e:H a=some (.ext<|FrI a kvs vs ep)):FrI a kvs vs ep s.heap:=(show D7 X.prog X.w H s.heap a (.ext<|FrI a kvs vs ep) from I.hok a _ e).1
def FrI.n {vs:List (Key×Lz)}{ep:Nat}(d:FrI a kvs vs ep h)(P:LD)(w:LF):pT a (FrI a kvs vs ep):=by
 obtain⟨_,_,_,hd⟩:=id d;obtain⟨o,es,e,_,ed,_⟩:=hd P w;exact⟨h,d,o,es,ep,e,ed⟩
def Ck (I:Inv X pins σ H s)(e:H a=some (.dK<|kvs.map aX)):∃vs ep,Inv X pins σ (upd H a<|.ext<|FrI a kvs vs ep) s/\pT a (FrI a kvs vs ep):=by
 obtain⟨z,y,vs,r,o,es,ep,eo,c⟩:=Bv I.hok e;have f:FrI a kvs vs ep s.heap:=⟨by rw[Gi]at z;exact z,y,r,rN (P:=X.prog) (w:=X.w) (Ao r) ⟨o,es,eo,c⟩⟩;exact⟨vs,ep,wQ (t':=s.toks) I (by rw[e];exact True.intro) (xo _ _) ⟨o,eo⟩ f.obj,f.n X.prog X.w⟩
end
end
section
abbrev St:=L2.St
def hid (H:Hp)(B:List LA):Hp:=λb=>if b∈B then none else H b
def i4 {H:Hp}{B:List LA}{b:LA}(h:b ∉ B):hid H B b=H b:=by unfold hid;rw[Gr h]
def x6 {H:Hp}{B:List LA}{b:LA}(h:b∈B):hid H B b=none:=by unfold hid;rw[Gp h]
def d4 {H:Hp}{B:List LA}:d9 (hid H B) H:=λb o e=>by
 by_cases h:b∈B
 .rw[x6 h]at e;cases e
 .rwa [i4 h]at e
def N8 {H:Hp}{B B':List LA}(s:∀b∈B',b∈B):d9 (hid H B) (hid H B'):=λb o e=>by
 by_cases h:b∈B
 .rw[x6 h]at e;cases e
 .rw[i4 h]at e;rw[i4 λz=>h<|s b z];exact e
def Kp (fp:List LA)(H H':Hp):Prop:=∀b o,H b=some o->b ∉ fp->H' b=some o
def Kp.refl {fp:List LA}{H:Hp}:Kp fp H H:=λ_ _ e _=>e
def Kp.trans {fp:List LA}{H H1 H2:Hp}(a:Kp fp H H1)(b:Kp fp H1 H2):Kp fp H H2:=λc o e n=>b c o (a c o e n) n
def Kp.same {fp:List LA}{H H':Hp}(s:d9 H H'):Kp fp H H':=λb o e _=>s b o e
def Kp.upd {fp:List LA}{H:Hp}{p:LA}{o:HO}(hp:H p=none):Kp fp H (upd H p o):=Kp.same<|d9.upd hp
def Kp.hid {fp B:List LA}{H H':Hp}(k:Kp fp H H')(s:∀b∈fp,b∈B):d9 (hid H B) (hid H' B):=λb o e=>by
 by_cases h:b∈B
 .rw[x6 h]at e;cases e
 .rw[i4 h]at e ⊢;exact k b o e λz=>h<|s b z
def aL {H:Hp}{B:List LA}{a:LA}{o:HO}(h:a∈B):hid (upd H a o) B=hid H B:=by
 funext b;by_cases hb:b∈B
 .rw[x6 hb,x6 hb]
 .rw[i4 hb,i4 hb,d7];intro e;subst e;exact hb h
def D9 (K:Fg)(fp B:List LA)(H:Hp):Ac->V->Prop
 | .tuple ds,v=>∃a xs,v = .ref a/\SqT K (hid H B) a xs/\a8 K (hid H B) ds xs
 | .list ds,v=>∃a xs,v = .ref a/\hid H fp a=some (.lst xs)/\a8 K (hid H B) ds xs
 | .none,v=>v = .non
 | .bool b,v=>v = .bl b
 | .int i,v=>v = .int i
 | .str x,v=>v = .str x
 | .dict _,_=>False
section
variable {K:Fg}{fp B:List LA}{H H':Hp}{d:Ac}{v:V}
def xK (h:b7 K (hid H B) d v)(s:∀b∈fp,b∈B):D9 K fp B H d v:=by
 cases d with
 | tuple ds =>
  simp only[b7]at h;obtain⟨a,xs,e,hq,hd⟩:=h;exact⟨a,xs,e,hq,hd⟩
 | list ds =>
  simp only[b7]at h;obtain⟨a,xs,e,hq,hd⟩:=h;exact⟨a,xs,e,N8 s _ _ hq,hd⟩
 | _=>simpa only[b7,D9] using h
def D9.dat (h:D9 K fp B H d v):b7 K H d v:=by
 cases d with
 | tuple ds =>
  obtain⟨a,xs,e,hq,hd⟩:=h;simp only[b7];exact⟨a,xs,e,hq.same d4,hd.same d4⟩
 | list ds =>
  obtain⟨a,xs,e,hq,hd⟩:=h;simp only[b7];exact⟨a,xs,e,d4 _ _ hq,hd.same d4⟩
 | _=>simpa only[b7,D9] using h
def D9.step (h:D9 K fp B H d v)(k:Kp fp H H')(s:∀b∈fp,b∈B):D9 K fp B H' d v:=by
 have sm:=k.hid s;have sf:=k.hid (B:=fp) λ_ z=>z
 cases d with
 | tuple ds =>
  obtain⟨a,xs,e,hq,hd⟩:=h;exact⟨a,xs,e,hq.same sm,hd.same sm⟩
 | list ds =>
  obtain⟨a,xs,e,hq,hd⟩:=h;exact⟨a,xs,e,sf _ _ hq,hd.same sm⟩
 | _=>exact h
def D9.tup {ds:List Ac}(h:D9 K fp B H (.tuple ds) v):b7 K (hid H B) (.tuple ds) v:=by
 obtain⟨a,xs,e,hq,hd⟩:=h;simp only[b7];exact⟨a,xs,e,hq,hd⟩
def BOk (H:Hp)(B:List LA):Prop:=∀b∈B,∃o,H b=some o
def BOk.nin (h:BOk H B){p:LA}(hp:H p=none):p ∉ B:=λz=>by
 obtain⟨o,e⟩:=h p z;rw[hp]at e;cases e
def P5 {p:LA}{ds:List Ac}{xs:List V}(bk:BOk H B)(hp:H p=none)(h:a8 K (hid H B) ds xs):b7 K (hid (upd H p<|.tup xs) B) (.tuple ds) (.ref p):=by
 have e:d9 (hid H B) (hid (upd H p<|.tup xs) B):=(Kp.upd (fp:=[]) hp).hid (by simp);refine b7.tup ?_<|h.same e;rw[i4<|bk.nin hp];exact f8
def J8 {p:LA}{ds:List Ac}{xs:List V}(bk:BOk H B)(hp:H p=none)(h:a8 K (hid H B) ds xs):b7 K (hid (upd H p<|.lst xs) B) (.list ds) (.ref p):=by
 have e:d9 (hid H B) (hid (upd H p<|.lst xs) B):=(Kp.upd (fp:=[]) hp).hid (by simp);refine b7.lst ?_<|h.same e;rw[i4<|bk.nin hp];exact f8
end
def NoT (o:HO):Prop:=(∀ps,o ≠ .tbl ps)/\∀φ,o ≠ .ext φ
class Feeds where
 S:Type
 At:LA->LA->Hp->S->Prop
 some1:∀{d c H F},At d c H F->∃o,H d=some o/\NoT o
 some2:∀{d c H F},At d c H F->∃o,H c=some o/\NoT o
 congr:∀{d c H H' F},At d c H F->H' d=H d->H' c=H c->At d c H' F
 lam:List Str
abbrev GF:=Option<|LA×LA
def tabsK (l:List Str)(K:Fg):List (Str×LA×LA):=l.filterMap λx=>(PySem.W.tabIn K x).map λp=>(x,p)
def jn (x:Str):Str:=x ++ ".<locals>." ++ "<lambda>"
def C6 (ts:List (Str×LA×LA))(H:Hp):Prop:=∀t∈ts,fH H t.2.2<|jn t.1
def C6.congr {ts:List (Str×LA×LA)}{H H':Hp}(h:C6 ts H)(e:∀b,(b∈ts.map (·.2.2)\/∃φ,H b=some (.ext φ))->H' b=H b):C6 ts H':=λt ht=>by
 obtain⟨ps,h1,h2,h3⟩:=h t ht;refine⟨ps,(e _<|.inl<|IB ht).trans h1,h2,λpos cv q=>?_⟩;obtain⟨c,r1,r2⟩:=h3 pos cv q;exact⟨c,r1,(e c<|.inr ⟨_,r2⟩).trans r2⟩
def C6.but {ts:List (Str×LA×LA)}{H H':Hp}{d:LA}{o0:HO}(h:C6 ts H)(hd:H d=some o0)(hn:NoT o0)(kp:∀b o,H b=some o->b≠d->H' b=some o):C6 ts H':=h.congr λb hb=>by
 obtain⟨o,e,hne⟩:∃o,H b=some o/\b≠d:=by
  rcases hb with hb | ⟨φ,e⟩
  .obtain⟨t,ht,rfl⟩:=GW.1 hb;obtain⟨ps,e,_⟩:=h t ht;exact⟨_,e,λz=>by rw[z,hd]at e;exact hn.1 ps<|Gy e⟩
  .exact⟨_,e,λz=>by rw[z,hd]at e;exact hn.2 φ<|Gy e⟩
 rw[e];exact kp b o e hne
section
variable [Feeds]
def tabP (K:Fg):List LA:=(tabsK Feeds.lam K).map (·.2.2)
def j8 (K:Fg):GF->List LA
 | none=>tabP K
 | some (d,c)=>d::c::tabP K
def iI {K:Fg}{G:GF}{b:LA}(h:b∈tabP K):b∈j8 K G:=by
 cases G with
 | none=>exact h
 | some p=>exact Gq _<|Gq _ h
abbrev FS:=Feeds.S
abbrev M (α:Type):=FS->Option (α×FS)
def Ci (G:GF)(H:Hp)(F:FS):Prop:=match G with
 | none=>True
 | some (d,c)=>Feeds.At d c H F
def FAt (K:Fg)(G:GF)(H:Hp)(F:FS):Prop:=Ci G H F/\C6 (tabsK Feeds.lam K) H
def FAt.bok {K:Fg}{G:GF}{H:Hp}{F:FS}(h:FAt K G H F):BOk H (j8 K G):=λb hb=>by
 have tb:b∈tabP K->∃o,H b=some o:=λz=>by
  obtain⟨t,ht,rfl⟩:=GW.1 z;obtain⟨ps,h1,_⟩:=h.2 t ht;exact⟨_,h1⟩
 cases G with
 | none=>exact tb hb
 | some p =>
  obtain⟨d,c⟩:=p;simp only[j8,GK]at hb;rcases hb with rfl | rfl | hb
  .obtain⟨o,e,_⟩:=Feeds.some1 h.1;exact⟨o,e⟩
  .obtain⟨o,e,_⟩:=Feeds.some2 h.1;exact⟨o,e⟩
  .exact tb hb
def FAt.congr {K:Fg}{G:GF}{H H':Hp}{F:FS}(h:FAt K G H F)(e:∀b,(b∈j8 K G\/∃φ,H b=some (.ext φ))->H' b=H b):FAt K G H' F:=by
 refine⟨?_,h.2.congr λb hb=>e b<|hb.imp iI id⟩;cases G with
 | none=>trivial
 | some p =>
  obtain⟨d,c⟩:=p;exact Feeds.congr h.1 (e d<|.inl<|by simp[j8]) (e c<|.inl<|by simp[j8])
def FAt.same {K:Fg}{G:GF}{H H':Hp}{F:FS}(h:FAt K G H F)(s:d9 H H'):FAt K G H' F:=h.congr λb hb=>by
 rcases hb with hb | ⟨φ,e⟩
 .obtain⟨o,e⟩:=h.bok b hb;rw[e];exact s b o e
 .rw[e];exact s b _ e
inductive DV where
 | dat (d:Ac) | feed | own (ds:List Ac) | fn (x:Str) | adr (a:LA) | dic (w:Bool) (c:Nat) (ps:List (Ac×Ac))
def DV.ow:DV->Bool
 | .own _=>true
 | .dic _ _ _=>true
 | _=>false
def vi:Nat->NKey
 | 0=>nv
 | 1=>uX
 | _+2=>uO
def CB:(c:Nat)->Ac->Option (vi c).K
 | 0=>Cb
 | 1=>yX
 | _+2=>AL
def KVs (K:Fg)(H:Hp)(c:Nat):List (Ac×Ac)->List ((vi c).K×LA×V)->Prop
 | [],xs=>xs=[]
 | p::ps,xs=>∃k b v r,xs=(k,b,v)::r/\CB c p.1=some k/\b7 K H p.1 (.ref b)/\b7 K H p.2 v/\KVs K H c ps r
theorem KVs.same {K:Fg}{H H':Hp}{c:Nat}(s:d9 H H'):∀{ps:List (Ac×Ac)} {xs:List ((vi c).K×LA×V)},KVs K H c ps xs->KVs K H' c ps xs
 | [],_,h=>h
 | _::_,_,⟨k,b,v,r,e,h1,h2,h3,h4⟩=>⟨k,b,v,r,e,h1,h2.same s,h3.same s,h4.same s⟩
def IVs (K:Fg)(H:Hp):List (Ac×Ac)->List (Int×V)->Prop
 | [],xs=>xs=[]
 | p::ps,xs=>∃i v r,xs=(i,v)::r/\p.1 = .int i/\b7 K H p.2 v/\IVs K H ps r
theorem IVs.same {K:Fg}{H H':Hp}(s:d9 H H'):∀{ps:List (Ac×Ac)} {xs:List (Int×V)},IVs K H ps xs->IVs K H' ps xs
 | [],_,h=>h
 | _::_,_,⟨i,v,r,e,h1,h3,h4⟩=>⟨i,v,r,e,h1,h3.same s,h4.same s⟩
def kg (K:Fg)(H:Hp)(c:Nat)(ps:List (Ac×Ac))(a:LA)(φ:LL->Prop):Prop :=
 (c≠9/\∃xs,φ=NDi (vi c) a xs/\KVs K H c ps xs)\/(c=9/\∃kvs vs ep,φ=FrI a kvs vs ep/\IVs K H ps kvs)
def kg.same {K:Fg}{H H':Hp}{c:Nat}{ps:List (Ac×Ac)}{a:LA}{φ:LL->Prop}(h:kg K H c ps a φ)(s:d9 H H'):kg K H' c ps a φ:=by
 rcases h with ⟨hc,xs,e,h⟩ | ⟨hc,kvs,vs,ep,e,h⟩
 .exact .inl ⟨hc,xs,e,h.same s⟩
 .exact .inr ⟨hc,kvs,vs,ep,e,h.same s⟩
def kg.is9 {K:Fg}{H:Hp}{ps:List (Ac×Ac)}{a:LA}{φ:LL->Prop}(h:kg K H 9 ps a φ):∃kvs vs ep,φ=FrI a kvs vs ep/\IVs K H ps kvs:=by
 rcases h with ⟨e,_⟩ | ⟨_,h⟩
 .exact absurd rfl e
 .exact h
abbrev DE:=List<|Option DV
def DVr (K:Fg)(G:GF)(B:List LA)(H:Hp):DV->V->Prop
 | .dat d,v=>b7 K (hid H B) d v
 | .feed,v=>∃d c,G=some (d,c)/\v = .ref d
 | .fn x,v=>∃a,v = .ref a/\PySem.W.nsIn K LV x=some (some<|.ref a)
 | .adr a,v=>v = .ref a
 | .dic _ c ps,v=>∃a φ,v = .ref a/\a∈B/\a ∉ j8 K G/\H a=some (.ext φ)/\pT a φ/\kg K (hid H B) c ps a φ
 | .own ds,v=>∃a xs,v = .ref a/\a∈B/\a ∉ j8 K G/\H a=some (.lst xs)/\a8 K (hid H B) ds xs
structure SitE (K:Fg) (G:GF) (B:List LA) (E:DE) (F:FS) (σ:St) (H:Hp):Prop where
 fd:FAt K G H F
 fB:∀b∈j8 K G,b∈B
 bk:BOk H B
 ln:E.length = σ.length
 loc:∀(i:Nat) (x:DV),E[i]? = some (some x)->∃v,σ[i]? = some (some v)/\DVr K G B H x v
section
variable {K:Fg}{G:GF}{B:List LA}{E:DE}{F F':FS}{σ:St}{H H':Hp}
def w4 (bk:BOk H B)(k:Kp (j8 K G) H H')(f:FAt K G H' F'):BOk H' B:=λb hb=>by
 by_cases h:b∈j8 K G
 .exact f.bok b h
 .obtain⟨o,e⟩:=bk b hb;exact⟨o,k b o e h⟩
def DVr.step {x:DV}{v:V}(h:DVr K G B H x v)(k:Kp (j8 K G) H H')(fB:∀b∈j8 K G,b∈B):DVr K G B H' x v:=by
 cases x with
 | dat d=>exact b7.same (h:b7 _ _ _ _)<|k.hid fB
 | feed=>exact h
 | fn _=>exact h
 | adr _=>exact h
 | own ds =>
  obtain⟨a,xs,e,hB,hf,ha,hd⟩:=h;exact⟨a,xs,e,hB,hf,k a _ ha hf,hd.same<|k.hid fB⟩
 | dic w c ps =>
  obtain⟨a,xs,e,hB,hf,ha,hn,hd⟩:=h;exact⟨a,xs,e,hB,hf,k a _ ha hf,hn,hd.same<|k.hid fB⟩
def SitE.step (I:SitE K G B E F σ H)(k:Kp (j8 K G) H H')(f:FAt K G H' F'):SitE K G B E F' σ H' :=
 ⟨f,I.fB,w4 I.bk k f,I.ln,λi x e=>by
  obtain⟨v,h1,h2⟩:=I.loc i x e;exact⟨v,h1,h2.step k I.fB⟩⟩
end
end
end
section
section
variable [Feeds]
def TEd (K:Fg)(te:TE)(m:DE->M Ac):Prop:=∀(G:GF) (B:List LA) (E:DE) (F:FS) (σ:St) (H:Hp) (Q:VK) (d:Ac) (F':FS),SitE K G B E F σ H->m E F=some (d,F') ->
 (∀v H',Kp (j8 K G) H H'->FAt K G H' F'->b7 K (hid H' B) d v->Q v H')->te σ H Q
def TEs (K:Fg)(te:TE)(m:DE->M Ac):Prop:=∀(G:GF) (B:List LA) (E:DE) (F:FS) (σ:St) (H:Hp) (Q:VK) (d:Ac) (F':FS),SitE K G B E F σ H->m E F=some (d,F') ->
 (∀v H',Kp (j8 K G) H H'->FAt K G H' F'->D9 K (j8 K G) B H' d v->Q v H')->te σ H Q
def TEd.sh {K:Fg}{te:TE}{m:DE->M Ac}(h:TEd K te m):TEs K te m:=λG B E F σ H Q d F' I e q=>h G B E F σ H Q d F' I e λv H' k f hd=>q v H' k f<|xK hd I.fB
def TTd (K:Fg)(tt:TT)(m:DE->M Bool):Prop:=∀(G:GF) (B:List LA) (E:DE) (F:FS) (σ:St) (H:Hp) (Q:Bool->Hp->Prop) (b:Bool) (F':FS),SitE K G B E F σ H->m E F=some (b,F') ->
 (∀H',Kp (j8 K G) H H'->FAt K G H' F'->Q b H')->tt σ H Q
def TAd (K:Fg)(ta:TA)(m:DE->M (List Ac)):Prop:=∀(G:GF) (B:List LA) (E:DE) (F:FS) (σ:St) (H:Hp) (Q:List V->Hp->Prop) (ds:List Ac) (F':FS),SitE K G B E F σ H->m E F=some (ds,F') ->
 (∀vs H',Kp (j8 K G) H H'->FAt K G H' F'->a8 K (hid H' B) ds vs->Q vs H')->ta σ H Q
def dI (K:Fg)(fp B:List LA)(H:Hp):List Ac->List V->Prop
 | [],vs=>vs=[]
 | d::ds,vs=>∃v r,vs=v::r/\D9 K fp B H d v/\dI K fp B H ds r
def TAs (K:Fg)(ta:TA)(m:DE->M (List Ac)):Prop:=∀(G:GF) (B:List LA) (E:DE) (F:FS) (σ:St) (H:Hp) (Q:List V->Hp->Prop) (ds:List Ac) (F':FS),SitE K G B E F σ H->m E F=some (ds,F') ->
 (∀vs H',Kp (j8 K G) H H'->FAt K G H' F'->dI K (j8 K G) B H' ds vs->Q vs H')->ta σ H Q
structure Ev (K:Fg) (X:Cx) (e:LK) (te:TE) (m:DE->M Ac):Prop where
 pe:PE X e te
 ok:TEd K te m
structure Eb (K:Fg) (X:Cx) (e:LK) (te:TE) (m:DE->M Ac):Prop where
 pe:PE X e te
 ok:TEs K te m
structure Et (K:Fg) (X:Cx) (e:LK) (tt:TT) (m:DE->M Bool):Prop where
 pt:PT X e tt
 ok:TTd K tt m
structure Ew (K:Fg) (X:Cx) (e:LK) (tt:TT) (m:DE->M Bool):Prop where
 pw:PW X e tt
 ok:TTd K tt m
structure Ea (K:Fg) (X:Cx) (es:List LK) (ta:TA) (m:DE->M (List Ac)):Prop where
 pa:PA X es ta
 ok:TAd K ta m
structure Es (K:Fg) (X:Cx) (es:List LK) (ta:TA) (m:DE->M (List Ac)):Prop where
 pa:PA X es ta
 ok:TAs K ta m
variable {K:Fg}{X:Cx}{a b c e:LK}{es:List LK}{ta tb tc te:TE}{ma mb mc m:DE->M Ac}{pos:Pos}
def Ev.bw (h:Ev K X e te m):Eb K X e te m:=⟨h.pe,h.ok.sh⟩
def sC (d:Ac):DE->M Ac:=λ_ F=>some (d,F)
def sV (i:Nat):DE->M Ac:=λE F=>match E[i]? with
 | some (some<|.dat d)=>some (d,F)
 | _=>none
noncomputable def sW (i:Nat):DE->M Ac:=λE F=>match E[i]? with
 | some (some<|.dat d)=>some (d,F)
 | some (some<|.own ds)=>some (.list ds,F)
 | _=>none
def wO {d:Ac}{v:V}(h:∀H,b7 K H d v):TEd K (tC v) (sC d):=λG B E F σ H Q d' F' I e q=>by
 cases e;exact q v H Kp.refl I.fd<|h _
def l5 {i j}:Ev K X (.Constant (.int i) j pos) (tC<|.int i) (sC<|.int i):=⟨k4,wO λ_=>b7.int⟩
def xF {x j}:Ev K X (.Constant (.bool x) j pos) (tC<|.bl x) (sC<|.bool x):=⟨BH,wO λ_=>b7.bl⟩
def bV {j}:Ev K X (.Constant .none j pos) (tC .non) (sC .none):=⟨zL,wO λ_=>b7.non⟩
def U5 {x j}:Ev K X (.Constant (.str x) j pos) (tC<|.str x) (sC<|.str x):=⟨yp,wO λ_=>b7.st⟩
def Bp (i:Nat):TEd K (W0 i) (sV i):=λG B E F σ H Q d F' I e q=>by
 unfold sV at e;split at e
 .rename_i x hx;cases e;obtain⟨v,h1,h2⟩:=I.loc i _ hx;exact⟨v,h1,q v H Kp.refl I.fd h2⟩
 .cases e
def AB (i:Nat):TEs K (W0 i) (sW i):=λG B E F σ H Q d F' I e q=>by
 unfold sW at e;split at e
 .rename_i x hx;cases e;obtain⟨v,h1,h2⟩:=I.loc i _ hx;exact⟨v,h1,q v H Kp.refl I.fd<|xK h2 I.fB⟩
 .rename_i x hx;cases e;obtain⟨v,h1,h2⟩:=I.loc i _ hx;refine⟨v,h1,q v H Kp.refl I.fd ?_⟩;obtain⟨p,xs,rfl,hB,hf,hp,hd⟩:=h2;exact⟨p,xs,rfl,by rw[i4 hf];exact hp,hd⟩
 .cases e
def g9 (i:Nat){x:Str}(hN:X.N[i]? = some x:=by rfl)(hv:Vis X.env.scope x:=by first | exact Or.inl rfl | exact Or.inr (Or.inl rfl) | exact Or.inr<|Or.inr rfl)(hd:(x == ("__debug__":Str))=false:=by decide)
  (hcd:(x == ("__classdict__":Str))=false:=by decide):Ev K X (.Name x pos) (W0 i) (sV i):=⟨Q3 hN hv hd hcd,Bp i⟩
def i6 (i:Nat){x:Str}(hN:X.N[i]? = some x:=by rfl)(hv:Vis X.env.scope x:=by first | exact Or.inl rfl | exact Or.inr (Or.inl rfl) | exact Or.inr<|Or.inr rfl)(hd:(x == ("__debug__":Str))=false:=by decide)
  (hcd:(x == ("__classdict__":Str))=false:=by decide):Eb K X (.Name x pos) (W0 i) (sW i):=⟨Q3 hN hv hd hcd,AB i⟩
def rD1 (K:Fg)(f:Ac->Option Ac):V->Hp->VK->Prop:=λx H Q=>∃fp B d r,BOk H B/\D9 K fp B H d x/\f d=some r/\∀v H',d9 H H'->b7 K (hid H' B) r v->Q v H'
def rD2 (K:Fg)(f:Ac->Ac->Option Ac):R2:=λx y H Q=>∃fp B d e r,BOk H B/\D9 K fp B H d x/\D9 K fp B H e y/\f d e=some r/\∀v H',d9 H H'->b7 K (hid H' B) r v->Q v H'
def rDN (K:Fg)(f:List Ac->Option Ac):List V->Hp->VK->Prop:=λxs H Q=>∃fp B ds r,BOk H B/\dI K fp B H ds xs/\f ds=some r/\∀v H',d9 H H'->b7 K (hid H' B) r v->Q v H'
def s1 (f:Ac->Option Ac)(a:DE->M Ac):DE->M Ac:=λE F=>(a E F).bind λp=>(f p.1).bind λz=>some (z,p.2)
def s2 (f:Ac->Ac->Option Ac)(a b:DE->M Ac):DE->M Ac:=λE F=>(a E F).bind λp=>(b E p.2).bind λq=>(f p.1 q.1).bind λz=>some (z,q.2)
def sN (f:List Ac->Option Ac)(a:DE->M (List Ac)):DE->M Ac:=λE F=>(a E F).bind λp=>(f p.1).bind λz=>some (z,p.2)
def xN {f:Ac->Option Ac}(ha:TEs K ta ma):TEd K (tUn (rD1 K f) ta) (s1 f ma):=λG B E F σ H Q d F' I e q=>by
 obtain⟨⟨x,F1⟩,e1,e⟩:=bS9 e;obtain⟨z,e2,e⟩:=bS9 e;cases e;refine ha G B E F σ H _ x F1 I e1 λv H1 k1 f1 h1=>⟨j8 K G,B,x,_,w4 I.bk k1 f1,h1,e2,λw H2 s hw=>q w H2 (k1.trans<|Kp.same s) (f1.same s) hw⟩
def nc {f:Ac->Ac->Option Ac}(ha:TEs K ta ma)(hb:TEs K tb mb):TEd K (tOp (rD2 K f) ta tb) (s2 f ma mb):=λG B E F σ H Q d F' I e q=>by
 obtain⟨⟨x,F1⟩,e1,e⟩:=bS9 e;obtain⟨⟨y,F2⟩,e2,e⟩:=bS9 e;obtain⟨z,e3,e⟩:=bS9 e;cases e;refine ha G B E F σ H _ x F1 I e1 λv H1 k1 f1 h1=>?_
 refine hb G B E F1 σ H1 _ y F2 (I.step k1 f1) e2 λw H2 k2 f2 h2=>⟨j8 K G,B,x,y,_,w4 I.bk (k1.trans k2) f2,h1.step k2 I.fB,h2,e3,λu H3 s hu=>q u H3 ((k1.trans k2).trans<|Kp.same s) (f2.same s) hu⟩
def qF {f:List Ac->Option Ac}{t:TA}{ms:DE->M (List Ac)}(ha:TAs K t ms):TEd K (tCB (rDN K f) t) (sN f ms):=λG B E F σ H Q d F' I e q=>by
 obtain⟨⟨x,F1⟩,e1,e⟩:=bS9 e;obtain⟨z,e2,e⟩:=bS9 e;cases e;exact ha G B E F σ H _ x F1 I e1 λvs H1 k1 f1 h1=>⟨j8 K G,B,x,_,w4 I.bk k1 f1,h1,e2,λw H2 s hw=>q w H2 (k1.trans<|Kp.same s) (f1.same s) hw⟩
def B7 {op:Operator}{f:Ac->Ac->Option Ac}(ho:OpR X (binaryOp op) (rD2 K f))(ha:Eb K X a ta ma)(hb:Eb K X b tb mb):Ev K X (.BinOp a op b pos) (tOp (rD2 K f) ta tb) (s2 f ma mb):=⟨y4 ho ha.pe hb.pe,nc ha.ok hb.ok⟩
def uM {op:UnaryOp}{f:Ac->Option Ac}(ho:UnR X (unaryOp op) (rD1 K f))(ha:Eb K X a ta ma):Ev K X (.UnaryOp op a pos) (tUn (rD1 K f) ta) (s1 f ma):=⟨sH ho ha.pe,xN ha.ok⟩
def gR {op:CmpOp}{f:Ac->Ac->Option Ac}(ho:OpR X (compareOp op) (rD2 K f))(ha:Eb K X a ta ma)(hb:Eb K X b tb mb)(hm:behindInMarks op b=false:=by first | exact bJ _ | rfl):Ev K X (.Compare a [op] [b] pos) (tOp (rD2 K f) ta tb) (s2 f ma mb):=⟨xf ho ha.pe hb.pe hm,nc ha.ok hb.ok⟩
def E3 {f:Ac->Ac->Option Ac}(hr:IxR X (rD2 K f))(ha:Eb K X a ta ma)(hb:Eb K X b tb mb)(hs:gx b:=by intro _ _;rfl):Ev K X (.Subscript a b pos) (tOp (rD2 K f) ta tb) (s2 f ma mb):=⟨X5 hr ha.pe hb.pe hs,nc ha.ok hb.ok⟩
def n9 {f:List Ac->Option Ac}{id:String}{x:Str}{p:Pos}{t:TA}{ms:DE->M (List Ac)}(hc:E7 X (.builtin id) (rDN K f))(hm:X.mg x=none)(hv:LZ x=some (.builtin id))(ha:Es K X (e::es) t ms)(hg:Gl X x:=by rfl)(hn:x ≠ "__name__":=by decide)(hdb:(x == ("__debug__":Str))=false:=by decide)
  (he:LN (e::es) X.env=(false,eval e X.env)::LN es X.env:=by rfl) (hpl:(LR pos<|LN es X.env).any (·.1)=false:=by rfl):Ev K X (.Call (.Name x p) (e::es) [] pos) (tCB (rDN K f) t) (sN f ms):=⟨eK hc hg hm hv ha.pa hn hdb he hpl,qF ha.ok⟩
def u5 {f:List Ac->Option Ac}{T:String}{x:Str}{p:Pos}{t:TA}{ms:DE->M (List Ac)}(hc:E7 X (.type T) (rDN K f))(hm:X.mg x=none)(hv:LZ x=some (.type T))(ha:Es K X (e::es) t ms)(hg:Gl X x:=by rfl)(hn:x ≠ "__name__":=by decide)(hdb:(x == ("__debug__":Str))=false:=by decide)
  (he:LN (e::es) X.env=(false,eval e X.env)::LN es X.env:=by rfl) (hpl:(LR pos<|LN es X.env).any (·.1)=false:=by rfl):Ev K X (.Call (.Name x p) (e::es) [] pos) (tCB (rDN K f) t) (sN f ms):=⟨Z4 hc hg hm hv ha.pa hn hdb he hpl,qF ha.ok⟩
def j4:DE->M (List Ac):=λ_ F=>some ([],F)
def c7 (a:DE->M Ac)(r:DE->M (List Ac)):DE->M (List Ac):=λE F=>(a E F).bind λp=>(r E p.2).bind λq=>some (p.1::q.1,q.2)
def j5:Ea K X [] N4 j4:=⟨v6,λG B E F σ H Q ds F' I e q=>by cases e;exact q [] H Kp.refl I.fd a8.nil⟩
def d5 {t:TA}{ms:DE->M (List Ac)}(ha:Ev K X e te m)(hr:Ea K X es t ms)(hs:LN (e::es) X.env=(false,eval e X.env)::LN es X.env:=by rfl):Ea K X (e::es) (u8 te t) (c7 m ms) :=
 ⟨k9 ha.pe hr.pa hs,λG B E F σ H Q ds F' I e q=>by
  obtain⟨⟨x,F1⟩,e1,e⟩:=bS9 e;obtain⟨⟨ys,F2⟩,e2,e⟩:=bS9 e;cases e;refine ha.ok G B E F σ H _ x F1 I e1 λv H1 k1 f1 h1=>?_
  refine hr.ok G B E F1 σ H1 _ ys F2 (I.step k1 f1) e2 λvs H2 k2 f2 h2=>q _ H2 (k1.trans k2) f2<|.cons (h1.same<|k2.hid I.fB) h2⟩
def l3:Es K X [] N4 j4:=⟨v6,λG B E F σ H Q ds F' I e q=>by cases e;exact q [] H Kp.refl I.fd rfl⟩
def i9 {t:TA}{ms:DE->M (List Ac)}(ha:Eb K X e te m)(hr:Es K X es t ms)(hs:LN (e::es) X.env=(false,eval e X.env)::LN es X.env:=by rfl):Es K X (e::es) (u8 te t) (c7 m ms) :=
 ⟨k9 ha.pe hr.pa hs,λG B E F σ H Q ds F' I e q=>by
  obtain⟨⟨x,F1⟩,e1,e⟩:=bS9 e;obtain⟨⟨ys,F2⟩,e2,e⟩:=bS9 e;cases e;refine ha.ok G B E F σ H _ x F1 I e1 λv H1 k1 f1 h1=>?_
  refine hr.ok G B E F1 σ H1 _ ys F2 (I.step k1 f1) e2 λvs H2 k2 f2 h2=>q _ H2 (k1.trans k2) f2 ⟨v,vs,rfl,h1.step k2 I.fB,h2⟩⟩
def M7 (a:DE->M (List Ac)):DE->M Ac:=λE F=>(a E F).bind λp=>if p.1.length<=LM then some (.tuple p.1,p.2) else none
def oq (a:DE->M (List Ac)):DE->M Ac:=λE F=>(a E F).bind λp=>if p.1.length<=LM then some (.list p.1,p.2) else none
def A3 {k}{t:TA}{ms:DE->M (List Ac)}(h:Ea K X es t ms):Ev K X (.Tuple es k pos) (xt t) (M7 ms):=⟨mj h.pa,λG B E F σ H Q d F' I e q=>by
 obtain⟨⟨x,F1⟩,e1,e⟩:=bS9 e;split at e
 .rename_i hl;cases e;refine h.ok G B E F σ H _ x F1 I e1 λvs H1 k1 f1 h1=>⟨by rw[h1.length];exact hl,λp hp=>q _ _ (k1.trans<|Kp.upd hp) (f1.same<|d9.upd hp)<|P5 (w4 I.bk k1 f1) hp h1⟩
 .cases e⟩
def lY {t:TA}{ms:DE->M (List Ac)}(h:Ea K X es t ms):Ev K X (.List es pos) (ou t) (oq ms):=⟨bL h.pa,λG B E F σ H Q d F' I e q=>by
 obtain⟨⟨x,F1⟩,e1,e⟩:=bS9 e;split at e
 .rename_i hl;cases e;refine h.ok G B E F σ H _ x F1 I e1 λvs H1 k1 f1 h1=>⟨by rw[h1.length];exact hl,λp hp=>q _ _ (k1.trans<|Kp.upd hp) (f1.same<|d9.upd hp)<|J8 (w4 I.bk k1 f1) hp h1⟩
 .cases e⟩
def ar:Ac->Option Bool
 | .bool b=>some b
 | _=>none
def W9 {d:Ac}{b:Bool}(h:ar d=some b):d = .bool b:=by
 cases d <;> simp[ar]at h;rw[h]
def we (a b:DE->M Ac):DE->M Ac:=λE F=>(a E F).bind λp=>(ar p.1).bind λc=>if c=true then b E p.2 else some (.bool false,p.2)
def wY (a:DE->M Ac):DE->M Ac:=λE F=>(a E F).bind λp=>(ar p.1).bind λc=>some (.bool (!c),p.2)
def An {op}(h:Ev K X a te m):Ev K X (.BoolOp op [a] pos) te m:=⟨zi h.pe,h.ok⟩
def yr {rest:List LK}(ha:Ev K X a ta ma)(hb:Ev K X (.BoolOp .And (b::rest) pos) tb mb):Ev K X (.BoolOp .And (a::b::rest) pos) (yc ta tb) (we ma mb):=⟨zH ha.pe hb.pe,λG B E F σ H Q d F' I e q=>by
 obtain⟨⟨x,F1⟩,e1,e⟩:=bS9 e;obtain⟨c,e2,e⟩:=bS9 e;refine ha.ok G B E F σ H _ x F1 I e1 λv H1 k1 f1 h1=>?_
 have:=W9 e2;simp only at this;subst this;simp only[b7]at h1;refine⟨c,h1,?_⟩;cases c with
 | true=>exact hb.ok G B E F1 σ H1 _ d F' (I.step k1 f1) e λw H2 k2 f2 h2=>q w H2 (k1.trans k2) f2 h2
 | false=>cases e;exact q _ H1 k1 f1 b7.bl⟩
def Aq (ha:Ev K X a ta ma):Ev K X (.UnaryOp .Not a pos) (xO ta) (wY ma):=⟨Am ha.pe,λG B E F σ H Q d F' I e q=>by
 obtain⟨⟨x,F1⟩,e1,e⟩:=bS9 e;obtain⟨c,e2,e⟩:=bS9 e;cases e;refine ha.ok G B E F σ H _ x F1 I e1 λv H1 k1 f1 h1=>?_
 have:=W9 e2;simp only at this;subst this;simp only[b7]at h1;exact⟨_,h1,q _ H1 k1 f1 b7.bl⟩⟩
def sIf (c:DE->M Bool)(a b:DE->M Ac):DE->M Ac:=λE F=>(c E F).bind λp=>if p.1=true then a E p.2 else b E p.2
def mQ {tt:TT}{mt:DE->M Bool}(hc:Et K X c tt mt)(ha:Ev K X a ta ma)(hb:Ev K X b tb mb):Ev K X (.IfExp c a b pos) (tIf tt ta tb) (sIf mt ma mb):=⟨km hc.pt ha.pe hb.pe,λG B E F σ H Q d F' I e q=>by
 obtain⟨⟨x,F1⟩,e1,e⟩:=bS9 e;refine hc.ok G B E F σ H _ x F1 I e1 λH1 k1 f1=>?_
 cases x with
 | true=>exact ha.ok G B E F1 σ H1 _ d F' (I.step k1 f1) e λw H2 k2 f2 h2=>q w H2 (k1.trans k2) f2 h2
 | false=>exact hb.ok G B E F1 σ H1 _ d F' (I.step k1 f1) e λw H2 k2 f2 h2=>q w H2 (k1.trans k2) f2 h2⟩
variable {tA tB:TT}{na nb:DE->M Bool}
def uB (a:DE->M Ac):DE->M Bool:=λE F=>(a E F).bind λp=>(ar p.1).bind λc=>some (c,p.2)
def uOr (a b:DE->M Bool):DE->M Bool:=λE F=>(a E F).bind λp=>if p.1=true then some (true,p.2) else b E p.2
def C8 {op:CmpOp}{f:Ac->Ac->Option Ac}(ho:OpR X (compareOp op) (rD2 K f))(ha:Eb K X a ta ma)(hb:Eb K X b tb mb)(hm:behindInMarks op b=false:=by first | exact bJ _ | rfl):Et K X (.Compare a [op] [b] pos) (xC<|tOp (rD2 K f) ta tb) (uB<|s2 f ma mb) :=
 ⟨aZ ho ha.pe hb.pe hm,λG B E F σ H Q d F' I e q=>by
  obtain⟨⟨x,F1⟩,e1,e⟩:=bS9 e;obtain⟨c,e2,e⟩:=bS9 e;cases e;refine nc ha.ok hb.ok G B E F σ H _ x F1 I e1 λv H1 k1 f1 h1=>?_
  have:=W9 e2;simp only at this;subst this;simp only[b7]at h1;exact⟨_,h1,q H1 k1 f1⟩⟩
def ym (ha:Et K X a tA na):Ew K X (.BoolOp .Or [a] pos) tA na:=⟨zC ha.pt,ha.ok⟩
def uK {rest:List LK}(ha:Et K X a tA na)(hb:Ew K X (.BoolOp .Or (b::rest) pos) tB nb):Ew K X (.BoolOp .Or (a::b::rest) pos) (tOr tA tB) (uOr na nb):=⟨AX ha.pt hb.pw,λG B E F σ H Q d F' I e q=>by
 obtain⟨⟨x,F1⟩,e1,e⟩:=bS9 e;refine ha.ok G B E F σ H _ x F1 I e1 λH1 k1 f1=>?_
 cases x with
 | false=>exact hb.ok G B E F1 σ H1 _ d F' (I.step k1 f1) e λH2 k2 f2=>q H2 (k1.trans k2) f2
 | true=>cases e;exact q H1 k1 f1⟩
def Ew.t (h:Ew K X a tA na):Et K X a tA na:=⟨h.pw.pt,h.ok⟩
def wa:Ac->Option Bool
 | .none=>some false
 | .bool b=>some b
 | .int i=>some<|i != 0
 | .str x=>if x.length<=LM then some ((x.length:Int) != 0) else none
 | .tuple ds=>some (!ds.isEmpty)
 | .list ds=>some (!ds.isEmpty)
 | .dict _=>none
def uT (a:DE->M Ac):DE->M Bool:=λE F=>(a E F).bind λp=>(wa p.1).bind λc=>some (c,p.2)
def bo {H:Hp}{ds:List Ac}{xs:List V}(h:a8 K H ds xs):xs.isEmpty=ds.isEmpty:=by
 cases ds with
 | nil=>simp only[a8]at h;subst h;rfl
 | cons d r=>simp only[a8]at h;obtain⟨x,r,rfl,_⟩:=h;rfl
def zX {fp B:List LA}{H:Hp}{d:Ac}{v:V}{c:Bool}(h:D9 K fp B H d v)(e:wa d=some c):sX K v H c:=by
 cases d with
 | none=>cases h;cases e;rfl
 | bool b=>cases h;cases e;rfl
 | int i=>cases h;cases e;rfl
 | str x =>
  cases h;simp only[wa]at e;split at e
  .rename_i hl;cases e;exact⟨hl,rfl⟩
  .cases e
 | tuple ds =>
  obtain⟨p,xs,rfl,hq,hd⟩:=h;cases e;exact .inr (.inl ⟨xs,hq.same d4,by rw[bo hd]⟩)
 | list ds =>
  obtain⟨p,xs,rfl,hq,hd⟩:=h;cases e;exact .inl ⟨xs,SqL.of<|d4 _ _ hq,by rw[bo hd]⟩
 | dict kvs=>exact(show False from h).elim
def ql (ha:Eb K X a ta ma)(hK:X.K=K:=by rfl)(he:∀whole,isTrue a X.env whole=(do let v <-whole;standAt a.pos;holding [v] (truthy v)):=by intro _;rfl) :
  Et K X a (λσ H Q=>ta σ H λx H'=>∃k,sX K x H' k/\Q k H') (uT ma):=⟨oN hK ha.pe he,λG B E F σ H Q d F' I e q=>by
 obtain⟨⟨x,F1⟩,e1,e⟩:=bS9 e;obtain⟨c,e2,e⟩:=bS9 e;cases e;exact ha.ok G B E F σ H _ x F1 I e1 λv H1 k1 f1 h1=>⟨_,zX h1 e2,q H1 k1 f1⟩⟩
end
end
section
section
variable {K:Fg}{X:Cx}
def hZ {fp B:List LA}{H:Hp}{ds:List Ac}{d:Ac}{vs:List V}(h:dI K fp B H ds vs)(e:ds=[d]):∃v,vs=[v]/\D9 K fp B H d v:=by
 subst e;obtain⟨v,r,rfl,h1,h2⟩:=h;cases h2;exact⟨v,rfl,h1⟩
def Cc {fp B:List LA}{H:Hp}{ds:List Ac}{d e:Ac}{vs:List V}(h:dI K fp B H ds vs)(eq:ds=[d,e]):∃v w,vs=[v,w]/\D9 K fp B H d v/\D9 K fp B H e w:=by
 subst eq;obtain⟨v,r,rfl,h1,w,r2,rfl,h2,h3⟩:=h;cases h3;exact⟨v,w,rfl,h1,h2⟩
def i2 (C:Int->Int->Prop)[∀i j,Decidable<|C i j](g:Int->Int->Ac):Ac->Ac->Option Ac
 | .int i,.int j=>if C i j then some (g i j) else none
 | _,_=>none
def xp {C:Int->Int->Prop}[∀i j,Decidable<|C i j]{g:Int->Int->Ac}{d e r:Ac}(h:i2 C g d e=some r):∃i j,d = .int i/\e = .int j/\C i j/\r=g i j:=by
 cases d <;> cases e <;> simp only[i2]at h <;> try cases h
 split at h
 .rename_i hc;cases h;exact⟨_,_,rfl,rfl,hc,rfl⟩
 .cases h
def kL {f:Lz->Lz->Sem Lz}{g:Int->Int->V}{gd:Int->Int->Ac}(ho:OpR X f (rI0 g))(hg:∀H i j,b7 K H (gd i j)<|g i j):OpR X f (rD2 K<|i2 (λ_ _=>True) gd):=by
 intro pins s σ H x y v u Q I rx ry h;obtain⟨fp,B,d,e,r,bk,h1,h2,hf,q⟩:=h;obtain⟨i,j,rfl,rfl,hc,rfl⟩:=xp hf;cases h1;cases h2;exact ho pins s σ H _ _ v u Q I rx ry ⟨i,j,rfl,rfl,q _ H (d9.refl H)<|hg _ i j⟩
abbrev mx:=i2 (λ_ _=>True) λi j=>.int<|i-j
def gZ:OpR X (binaryOp .Sub) (rD2 K mx):=kL yF λ_ _ _=>b7.int
instance:∀i j,Decidable (vp i j):=λi j=>inferInstanceAs<|Decidable<|_/\_/\_
instance:∀i j,Decidable (um i j):=λi j=>inferInstanceAs<|Decidable<|(_/\_)\/(_/\_)
@[irreducible] def wA:Nat:=2 ^ 400000
def xh:wA=2 ^ 400000:=by unfold wA;rfl
def Big (i j:Int):Prop:=um i j\/(i.natAbs<wA/\j.natAbs<wA)
instance {i j:Int}:Decidable (Big i j):=inferInstanceAs<|Decidable<|_\/_
def nG {n:Nat}{i:Int}(h:i.natAbs<2 ^ n):Builtin.Int.intBits i<=n:=by
 unfold Builtin.Int.intBits;split
 .exact HA _
 .rename_i h0;have h0:i.natAbs≠0:=λz=>h0 (by simpa using z)
  exact(Nat.log2_lt h0).2 h
def Big.ok {i j:Int}(h:Big i j):IntMulOk i j:=by
 rcases h with h | ⟨h1,h2⟩
 .exact h.ok
 .unfold IntMulOk;have e:Builtin.Int.intTooBig ((Builtin.Int.intBits i:Int)+Builtin.Int.intBits j)=false:=by
   unfold Builtin.Int.intTooBig;rw[xh]at h1 h2;have a:=nG h1;have b:=nG h2;have c:(bitsLine:Nat)=134217728:=by decide
   refine Hx ?_;rw[c];omega
  rw[e,Bool.and_false];exact GQ
def vz:OpR X (binaryOp .Mult) (rI Big λi j=>.int<|i*j):=opI λ_ _ _ _ _ _ _ hc q=>mul_int q hc.ok
abbrev ltD:=i2 (λ_ _=>True) λi j=>.bool<|decide (i<j)
abbrev gtD:=i2 (λ_ _=>True) λi j=>.bool<|decide (j<i)
def Ba:OpR X (compareOp .Lt) (rD2 K ltD):=kL xE λ_ _ _=>b7.bl
def yg:OpR X (compareOp .Gt) (rD2 K gtD):=kL xD λ_ _ _=>b7.bl
def Q2:Ac->Ac->Option Ac
 | .int i,.int j=>some<|.int<|i+j
 | .str x,.str y=>if x.length+y.length<=LM then some (.str<|x++y) else none
 | .tuple xs,.tuple ys=>if xs.length+ys.length<=LM then some (.tuple<|xs++ys) else none
 | .list xs,.list ys=>if xs.length+ys.length<=LM then some (.list<|xs++ys) else none
 | _,_=>none
def a8.nil_of {H:Hp}{ds:List Ac}{xs:List V}(h:a8 K H ds xs)(e:xs=[]):ds=[]:=by
 subst e;exact Il.1 (by rw[<-h.length];rfl)
def G4 (hK:X.K=K):OpR X (binaryOp .Add) (rD2 K Q2):=by
 intro pins s σ H x y v u Q I rx ry h;obtain⟨fp,B,d,e,r,bk,h1,h2,hf,q⟩:=h;cases d <;> cases e <;> simp only[Q2]at hf <;> try cases hf
 .cases h1;cases h2;exact aF pins s σ H _ _ v u Q I rx ry ⟨_,_,rfl,rfl,q _ H (d9.refl H) b7.int⟩
 .cases h1;cases h2;split at hf
  .rename_i hl;cases hf;exact mz pins s σ H _ _ v u Q I rx ry ⟨_,_,rfl,rfl,hl,q _ H (d9.refl H) b7.st⟩
  .cases hf
 .obtain⟨a,xs,rfl,ha,hd⟩:=h1;obtain⟨b,ys,rfl,hb,he⟩:=h2;split at hf
  .rename_i hl;cases hf;refine yn pins s σ H _ _ v u Q I rx ry ⟨a,b,xs,ys,rfl,rfl,d4 _ _ ha,d4 _ _ hb,by rw[hd.length,he.length];exact hl,λp hp=>q _ _ (d9.upd hp)<|J8 bk hp<|a8.append he hd⟩
  .cases hf
 .obtain⟨a,xs,rfl,ha,hd⟩:=h1;obtain⟨b,ys,rfl,hb,he⟩:=h2;split at hf
  .rename_i hl;cases hf;refine vy hK pins s σ H _ _ v u Q I rx ry ⟨a,b,xs,ys,rfl,rfl,ha.same d4,hb.same d4,by rw[hd.length,he.length];exact hl,λz=>q _ H (d9.refl H) ?_,λz=>q _ H (d9.refl H) ?_,λp hp=>q _ _ (d9.upd hp)<|P5 bk hp<|a8.append he hd⟩
   .cases a8.nil_of hd z;simp only[b7,Ho];exact⟨b,ys,rfl,hb,he⟩
   .cases a8.nil_of he z;simp only[b7,HE];exact⟨a,xs,rfl,ha,hd⟩
  .cases hf
def Ab:Ac->Ac->Option Ac
 | .int i,.int j=>if Big i j then some (.int<|i*j) else none
 | .list xs,.int k=>if -(2 ^ 63)<=k/\k<2 ^ 63/\xs.length*k.toNat<=LM then some (.list (List.replicate k.toNat xs).flatten) else none
 | _,_=>none
theorem a8.rep {H:Hp}{ds:List Ac}{xs:List V}(h:a8 K H ds xs):∀n,a8 K H (List.replicate n ds).flatten (List.replicate n xs).flatten
 | 0=>a8.nil
 | n+1=>by
  rw[Ht,Ht,HN,HN];exact a8.append (a8.rep h n) h
def Ay:OpR X (binaryOp .Mult) (rD2 K Ab):=by
 intro pins s σ H x y v u Q I rx ry h;obtain⟨fp,B,d,e,r,bk,h1,h2,hf,q⟩:=h;cases d <;> cases e <;> simp only[Ab]at hf <;> try cases hf
 .cases h1;cases h2;split at hf
  .rename_i hc;cases hf;exact vz pins s σ H _ _ v u Q I rx ry ⟨_,_,rfl,rfl,hc,q _ H (d9.refl H) b7.int⟩
  .cases hf
 .obtain⟨a,xs,rfl,ha,hd⟩:=h1;cases h2;split at hf
  .rename_i hc;cases hf;exact zh pins s σ H _ _ v u Q I rx ry ⟨a,_,xs,rfl,rfl,d4 _ _ ha,hc.1,hc.2.1,by rw[hd.length];exact hc.2.2,λp hp=>q _ _ (d9.upd hp)<|J8 bk hp<|a8.rep hd _⟩
  .cases hf
open PySem.SeqAt in
def eqD (neg:Bool):Ac->Ac->Option Ac
 | .str x,.str y=>some (.bool<|if neg then !decide (x=y) else decide (x=y))
 | d,e=>if shaped d=true/\shaped e=true then some (.bool<|if neg then !PyData.eqv d e else Ac.eqv d e) else none
def iX (hK:X.K=K)(hu:X.A.units+64<Mc):OpR X (compareOp .Eq) (rD2 K<|eqD false):=by
 subst hK;intro pins s σ H x y v u Q I rx ry h;obtain⟨fp,B,d,e,r,bk,h1,h2,hf,q⟩:=h;unfold eqD at hf;split at hf
 .cases hf;cases h1;cases h2;have z:=q _ H (d9.refl H) b7.bl;rename_i a b;have e:decide (V.str a=V.str b)=decide (a=b):=by simp
  exact BF pins s σ H _ _ v u Q I rx ry ⟨rfl,by rw[e];exact z⟩
 .split at hf
  .rename_i hs;cases hf;obtain⟨as,ra⟩:=K1 I _ x v h1.dat rx;obtain⟨bs,rb⟩:=K1 I _ y u h2.dat ry;exact eq_dataH ra rb hs.1 hs.2 hu ⟨.bl _,H,I,rfl,q _ H (d9.refl H) b7.bl⟩
  .cases hf
def qt (hK:X.K=K)(hu:X.A.units+64<Mc):OpR X (compareOp .NotEq) (rD2 K<|eqD true):=by
 subst hK;intro pins s σ H x y v u Q I rx ry h;obtain⟨fp,B,d,e,r,bk,h1,h2,hf,q⟩:=h;unfold eqD at hf;split at hf
 .cases hf;cases h1;cases h2;have z:=q _ H (d9.refl H) b7.bl;rename_i a b;have e:decide (V.str a=V.str b)=decide (a=b):=by simp
  exact AV pins s σ H _ _ v u Q I rx ry ⟨rfl,by rw[e];exact z⟩
 .split at hf
  .rename_i hs;cases hf;obtain⟨as,ra⟩:=K1 I _ x v h1.dat rx;obtain⟨bs,rb⟩:=K1 I _ y u h2.dat ry;exact ne_dataH ra rb hs.1 hs.2 hu ⟨.bl _,H,I,rfl,q _ H (d9.refl H) b7.bl⟩
  .cases hf
open PySem.SeqAt in
def inD (neg:Bool):Ac->Ac->Option Ac
 | d,.list xs=>if shaped (.list xs)=true/\shaped d=true then some (.bool<|if neg then !(xs.any λy=>Ac.eqv y d) else xs.any λy=>Ac.eqv y d) else none
 | d,.tuple xs=>if shaped (.tuple xs)=true/\shaped d=true then some (.bool<|if neg then !(xs.any λy=>Ac.eqv y d) else xs.any λy=>Ac.eqv y d) else none
 | _,_=>none
def kl (hK:X.K=K)(hu:X.A.units+65<Mc):OpR X (compareOp .In) (rD2 K<|inD false):=by
 subst hK;intro pins s σ H x y v u Q I rx ry h;obtain⟨fp,B,d,e,r,bk,h1,h2,hf,q⟩:=h;obtain⟨as,ra⟩:=K1 I _ x v h1.dat rx;obtain⟨bs,rb⟩:=K1 I _ y u h2.dat ry;cases e <;> simp only[inD]at hf <;> try cases hf
 .split at hf
  .rename_i hs;cases hf;exact PySem.SeqAt.in_list_reads rb ra (by have:=HM hs.1;simpa only[Ac.canLay0] using this) (HM hs.2) (room_in_shaped hs.2 hu) ⟨.bl _,H,I,rfl,q _ H (d9.refl H) b7.bl⟩
  .cases hf
 .split at hf
  .rename_i hs;cases hf;exact PySem.SeqAt.in_tuple_reads rb ra (by have:=HM hs.1;simpa only[Ac.canLay0] using this) (HM hs.2) (room_in_shaped hs.2 hu) ⟨.bl _,H,I,rfl,q _ H (d9.refl H) b7.bl⟩
  .cases hf
def jg (hK:X.K=K)(hu:X.A.units+65<Mc):OpR X (compareOp .NotIn) (rD2 K<|inD true):=by
 subst hK;intro pins s σ H x y v u Q I rx ry h;obtain⟨fp,B,d,e,r,bk,h1,h2,hf,q⟩:=h;obtain⟨as,ra⟩:=K1 I _ x v h1.dat rx;obtain⟨bs,rb⟩:=K1 I _ y u h2.dat ry;cases e <;> simp only[inD]at hf <;> try cases hf
 .split at hf
  .rename_i hs;cases hf;exact PySem.SeqAt.notIn_list_reads rb ra (by have:=HM hs.1;simpa only[Ac.canLay0] using this) (HM hs.2) (room_in_shaped hs.2 hu) ⟨.bl _,H,I,rfl,q _ H (d9.refl H) b7.bl⟩
  .cases hf
 .split at hf
  .rename_i hs;cases hf;exact PySem.SeqAt.notIn_tuple_reads rb ra (by have:=HM hs.1;simpa only[Ac.canLay0] using this) (HM hs.2) (room_in_shaped hs.2 hu) ⟨.bl _,H,I,rfl,q _ H (d9.refl H) b7.bl⟩
  .cases hf
end
end
section
section
variable {K:Fg}{X:Cx}
def a8.at {H:Hp}{ds:List Ac}{xs:List V}{i:Int}{d:Ac}(h:a8 K H ds xs)(e:atI ds i=some d):∃v,atI xs i=some v/\b7 K H d v:=by
 unfold atI at e ⊢;rw[h.length];cases q:ixN ds.length i with
 | none=>rw[q]at e;cases e
 | some j =>
  rw[q]at e;have e:ds[j]? = some d:=e;obtain⟨hj,_⟩:=GE.1 e;have hx:xs[j]? = some (xs[j]'(by rw[h.length];exact hj)):=by simp
  obtain⟨d',h1,h2⟩:=h.get hx;rw[e]at h1;cases h1;exact⟨_,hx,h2⟩
def ixD:Ac->Ac->Option Ac
 | .list ds,.int i=>atI ds i
 | .tuple ds,.int i=>atI ds i
 | .str x,.int i=>if x.length<=LM then(atI x.cps.toList i).map λc=>.str ⟨#[c]⟩ else none
 | _,_=>none
def F0 (hK:X.K=K):IxR X (rD2 K ixD):=by
 intro value slice pins s σ H x y v u Q I rx ry h hs;obtain⟨fp,B,d,e,r,bk,h1,h2,hf,q⟩:=h;cases d <;> cases e <;> simp only[ixD]at hf <;> try cases hf
 .cases h1;cases h2;split at hf
  .rename_i hl;obtain⟨c,e1,rfl⟩:=Hd.1 hf;exact zQ value slice pins s σ H _ _ v u Q I rx ry ⟨_,_,c,rfl,rfl,hl,e1,q _ H (d9.refl H) b7.st⟩ hs
  .cases hf
 .obtain⟨a,xs,rfl,ha,hd⟩:=h1;cases h2;obtain⟨w,e1,e2⟩:=a8.at hd hf;exact rf hK value slice pins s σ H _ _ v u Q I rx ry ⟨a,xs,_,w,rfl,rfl,SqL.of<|d4 _ _ ha,e1,q w H (d9.refl H) e2⟩ hs
 .obtain⟨a,xs,rfl,ha,hd⟩:=h1;cases h2;obtain⟨w,e1,e2⟩:=a8.at hd hf;exact wB hK value slice pins s σ H _ _ v u Q I rx ry ⟨a,xs,_,w,rfl,rfl,ha.same d4,e1,q w H (d9.refl H) e2⟩ hs
def dc {α:Type}(xs:List α)(lo hi:Option Int):List α:=(xs.drop<|HT.sIx xs.length 0 lo).take<|HT.sIx xs.length xs.length hi-HT.sIx xs.length 0 lo
def oQ (lo hi:Option Int):Ac->Option Ac
 | .list ds=>some<|.list<|dc ds lo hi
 | .tuple ds=>some<|.tuple<|dc ds lo hi
 | .str x=>if x.length<=LM then some (.str<|Txt.slice x lo hi) else none
 | _=>none
theorem a8.drop {H:Hp}:∀{ds:List Ac} {xs:List V} (n:Nat),a8 K H ds xs->a8 K H (ds.drop n) (xs.drop n)
 | ds,xs,0,h=>h
 | [],xs,n+1,h=>by simp only[a8]at h;subst h;simp[a8]
 | d::ds,xs,n+1,h=>by
  simp only[a8]at h;obtain⟨y,r,rfl,h1,h2⟩:=h;simp only[List.drop_succ_cons];exact a8.drop n h2
def a8.cut {H:Hp}{ds:List Ac}{xs:List V}(h:a8 K H ds xs)(lo hi:Option Int):a8 K H (dc ds lo hi) (bC xs lo hi):=by
 unfold dc bC;rw[h.length];exact a8.take _<|a8.drop _ h
def Bj (K:Fg):V->Option Int->Option Int->Hp->VK->Prop:=λx lo hi H Q=>∃fp B d r,BOk H B/\D9 K fp B H d x/\oQ lo hi d=some r/\∀v H',d9 H H'->b7 K (hid H' B) r v->Q v H'
def gy {v:Lz}{o:Option Int}(h:IsPart v o):∃p:Option (Int×Tok),v=partValue p/\p.map (·.1)=o:=by
 cases h with
 | none=>exact⟨none,rfl,rfl⟩
 | int i t=>exact⟨some (i,t),rfl,rfl⟩
def Aw (hK:X.K=K):SlR X (Bj K):=by
 intro pins s σ H x v vl vu lo hi sl Q I rx hs pl pu h;obtain⟨fp,B,d,r,bk,h1,hf,q⟩:=h;cases d <;> simp only[oQ]at hf <;> try cases hf
 .rename_i x0;cases h1;split at hf
  .rename_i hl;cases hf;obtain⟨t,rfl⟩:=rx;obtain⟨l,rfl,rfl⟩:=gy pl;obtain⟨m,rfl,rfl⟩:=gy pu;refine⟨"str",_,Kg.lookup,KG _ _ _,getItem_meets (KG _ _ _) (by decide) Kg F.entry_str_getitem (F.args_str_getitem_2 _ _) (meets_str_getitem_slice _ t sl l m none rfl) ⟨hs,?_⟩⟩;have z:=q _ H (d9.refl H) b7.st;unfold sliceMade;unfold Txt.slice at z;have e:slicePicked x0 l m none=Builtin.Str.strSliceIndices (l.map (·.1)) (m.map (·.1)) 1 x0.length:=rfl;rw[e];simp only[Option.map_none,Ln];split
   .rename_i hc;rw[Gp hc]at z;exact⟨.str x0,H,I,⟨t,rfl⟩,z⟩
   .rename_i hc;rw[Gr hc]at z;refine⟨?_,⟨.str _,H,I.tok _,⟨_,rfl⟩,z⟩⟩;have:=Txt.slice_le x0 (l.map (·.1)) (m.map (·.1));unfold Txt.slice at this;rw[Gr hc]at this;exact He this hl
  .cases hf
 .obtain⟨a,xs,rfl,ha,hd⟩:=h1;subst hK;exact nj pins s σ H _ v vl vu lo hi sl Q I rx hs pl pu ⟨a,xs,rfl,SqL.of<|d4 _ _ ha,λp hp=>q _ _ (d9.upd hp)<|J8 bk hp<|a8.cut hd lo hi⟩
 .obtain⟨a,xs,rfl,ha,hd⟩:=h1;refine rF hK pins s σ H _ v vl vu lo hi sl Q I rx hs pl pu ⟨a,xs,rfl,ha.same d4,λz=>q _ H (d9.refl H) ?_,λ_ p hp=>q _ _ (d9.upd hp)<|P5 bk hp<|a8.cut hd lo hi⟩;have:=a8.cut hd lo hi;rw[z.1]at this;simp only[b7];exact⟨a,xs,rfl,ha,this⟩
end
section
variable [Feeds]{K:Fg}{X:Cx}{e:LK}{te:TE}{m:DE->M Ac}{pos p2:Pos}
def TOd (K:Fg)(to:TO)(m:DE->M (Option Int)):Prop:=∀(G:GF) (B:List LA) (E:DE) (F:FS) (σ:St) (H:Hp) (Q:Option Int->Hp->Prop) (d:Option Int) (F':FS),SitE K G B E F σ H->m E F=some (d,F') ->
 (∀H',Kp (j8 K G) H H'->FAt K G H' F'->Q d H')->to σ H Q
structure Eo (K:Fg) (X:Cx) (e:Option LK) (to:TO) (m:DE->M (Option Int)):Prop where
 po:PO X e to
 ok:TOd K to m
def oNo:DE->M (Option Int):=λ_ F=>some (none,F)
def C1:Ac->Option Int
 | .int i=>some i
 | _=>none
def U2 {d:Ac}{i:Int}(h:C1 d=some i):d = .int i:=by
 cases d <;> simp[C1]at h;rw[h]
def oI (a:DE->M Ac):DE->M (Option Int):=λE F=>(a E F).bind λp=>(C1 p.1).bind λi=>some (some i,p.2)
def ya:Eo K X none mR oNo:=⟨mD,λG B E F σ H Q d F' I e q=>by cases e;exact q H Kp.refl I.fd⟩
def Bf (h:Ev K X e te m):Eo K X (some e) (xW te) (oI m):=⟨iu h.pe,λG B E F σ H Q d F' I e q=>by
 obtain⟨⟨x,F1⟩,e1,e⟩:=bS9 e;obtain⟨i,e2,e⟩:=bS9 e;cases e;refine h.ok G B E F σ H _ x F1 I e1 λv H1 k1 f1 h1=>?_
 have:=U2 e2;simp only at this;subst this;simp only[b7]at h1;exact⟨i,h1,q H1 k1 f1⟩⟩
noncomputable def kG (a:DE->M Ac)(l u:DE->M (Option Int)):DE->M Ac:=λE F=>(a E F).bind λp=>(l E p.2).bind λx=>(u E x.2).bind λy=>(oQ x.1 y.1 p.1).bind λz=>some (z,y.2)
def rE {lo hi:Option LK}{tl th:TO}{ml mh:DE->M (Option Int)}(he:Eb K X e te m)(hl:Eo K X lo tl ml)(hh:Eo K X hi th mh)(hK:X.K=K:=by rfl):Ev K X (.Subscript e (.Slice lo hi none p2) pos) (tSl (Bj K) te tl th) (kG m ml mh) :=
 ⟨jE (Aw hK) he.pe hl.po hh.po,λG B E F σ H Q d F' I e q=>by
  obtain⟨⟨x,F1⟩,e1,e⟩:=bS9 e;obtain⟨⟨l,F2⟩,e2,e⟩:=bS9 e;obtain⟨⟨h,F3⟩,e3,e⟩:=bS9 e;obtain⟨z,e4,e⟩:=bS9 e;cases e;refine he.ok G B E F σ H _ x F1 I e1 λv H1 k1 f1 h1=>?_
  refine hl.ok G B E F1 σ H1 _ l F2 (I.step k1 f1) e2 λH2 k2 f2=>?_
  refine hh.ok G B E F2 σ H2 _ h F3 (I.step (k1.trans k2) f2) e3 λH3 k3 f3=>?_
  exact⟨j8 K G,B,x,_,w4 I.bk ((k1.trans k2).trans k3) f3,h1.step (k2.trans k3) I.fB,e4,λu H4 s hu=>q u H4 (((k1.trans k2).trans k3).trans<|Kp.same s) (f3.same s) hu⟩⟩
end
section
variable {K:Fg}{X:Cx}
def V0:List Ac->Option Ac
 | [.list ds]=>some<|.int ds.length
 | [.tuple ds]=>some<|.int ds.length
 | [.str x]=>if x.length<=LM then some (.int x.length) else none
 | _=>none
def M0 (hK:X.K=K):E7 X (.builtin "len") (rDN K V0):=by
 intro pins s σ H xs us Q I r h;obtain⟨fp,B,ds,z,bk,h1,hf,q⟩:=h;unfold V0 at hf;split at hf <;> try cases hf
 .obtain⟨v,rfl,a,xs,rfl,ha,hd⟩:=hZ h1 rfl;have:=q _ H (d9.refl H) b7.int;rw[<-hd.length]at this;exact ah hK pins s σ H _ us Q I r ⟨a,xs,rfl,.inl<|SqL.of<|d4 _ _ ha,this⟩
 .obtain⟨v,rfl,a,xs,rfl,ha,hd⟩:=hZ h1 rfl;have:=q _ H (d9.refl H) b7.int;rw[<-hd.length]at this;exact ah hK pins s σ H _ us Q I r ⟨a,xs,rfl,.inr<|ha.same d4,this⟩
 .rename_i x0;obtain⟨v,rfl,hv⟩:=hZ h1 rfl;have hv:v = .str x0:=hv;subst hv;split at hf
  .rename_i hl;cases hf;exact gK pins s σ H _ us Q I r ⟨_,rfl,hl,q _ H (d9.refl H) b7.int⟩
  .cases hf
def x5:List Ac->Option Ac
 | [.list ds]=>some<|.tuple ds
 | [.tuple ds]=>some<|.tuple ds
 | _=>none
def u4 (hK:X.K=K):E7 X (.type "tuple") (rDN K x5):=by
 intro pins s σ H xs us Q I r h;obtain⟨fp,B,ds,z,bk,h1,hf,q⟩:=h;unfold x5 at hf;split at hf <;> try cases hf
 .obtain⟨v,rfl,a,xs,rfl,ha,hd⟩:=hZ h1 rfl;exact W6 hK pins s σ H _ us Q I r ⟨a,xs,rfl,.inl ⟨SqL.of<|d4 _ _ ha,λl hl=>q _ _ (d9.upd hl)<|P5 bk hl hd⟩⟩
 .obtain⟨v,rfl,hv⟩:=hZ h1 rfl;have hv':=hv.tup;obtain⟨a,xs,rfl,ha,hd⟩:=hv;exact W6 hK pins s σ H _ us Q I r ⟨a,xs,rfl,.inr ⟨ha.same d4,q _ H (d9.refl H) hv'⟩⟩
def G5:List Ac->Option (List Int)
 | []=>some []
 | .int i::r=>(G5 r).map (i :: ·)
 | _=>none
theorem J3:∀{ds:List Ac} {ns:List Int},G5 ds=some ns->ds=ns.map .int
 | [],ns,h=>by cases h;rfl
 | d::r,ns,h=>by
  cases d <;> simp only[G5]at h <;> try cases h
  obtain⟨m,e,rfl⟩:=Hd.1 h;rw[J3 e];rfl
theorem bR {H:Hp}:∀{ns:List Int} {xs:List V},a8 K H (ns.map .int) xs->xs=ns.map V.int
 | [],xs,h=>by simpa only[HY,a8] using h
 | n::ns,xs,h=>by
  simp only[GH,a8]at h;obtain⟨x,r,rfl,h1,h2⟩:=h;simp only[b7]at h1;rw[h1,bR h2];rfl
end
end
section
section
variable {K:Fg}{X:Cx}
def ua:Ac->Option Ac
 | .int i=>some<|.int (-i)
 | _=>none
def kE:UnR X (unaryOp .USub) (rD1 K ua):=by
 intro pins s σ H x v Q I rx h;obtain⟨fp,B,d,r,bk,h1,hf,q⟩:=h;cases d <;> simp only[ua]at hf <;> try cases hf
 rename_i i;cases(show x = .int i from h1);exact kJ pins s σ H _ v Q I rx ⟨i,rfl,q _ H (d9.refl H) b7.int⟩
end
section
variable {K:Fg}{X:Cx}
def isD (neg:Bool):Ac->Ac->Option Ac
 | d,.none=>some (.bool (match d with | .none=>!neg | _=>neg))
 | _,_=>none
def wV {fp B:List LA}{H:Hp}{d:Ac}{x:V}(h:D9 K fp B H d x):decide (x = .non)=(match d with | .none=>true | _=>false):=by
 cases d with
 | none=>cases(show x = .non from h);rfl
 | bool b=>cases(show x = .bl b from h);rfl
 | int b=>cases(show x = .int b from h);rfl
 | str b=>cases(show x = .str b from h);rfl
 | tuple ds=>obtain⟨a,xs,rfl,_⟩:=h;rfl
 | list ds=>obtain⟨a,xs,rfl,_⟩:=h;rfl
 | dict b=>exact(show False from h).elim
def rO:OpR X (compareOp .Is) (rD2 K<|isD false):=by
 intro pins s σ H x y v u Q I rx ry h;obtain⟨fp,B,d,e,r,bk,h1,h2,hf,q⟩:=h;cases e <;> simp only[isD]at hf <;> try cases hf
 cases(show y = .non from h2);have z:=q (.bl<|decide (x = .non)) H (d9.refl H) (by rw[wV h1];cases d <;> exact b7.bl);exact Ad pins s σ H _ _ v u Q I rx ry ⟨rfl,z⟩
end
end
section
section
variable [Feeds]{K:Fg}{X:Cx}{e:LK}{te:TE}{m:DE->M Ac}{pos p p2 p3:Pos}
def rn (x:Str):Str:=⟨((Builtin.Str.strSliceIndices none none (-1) x.length).filterMap (x.cps[·]?)).toArray⟩
def tj (x:Str):(rn x).length<=x.length:=by
 have h:=sliceIndicesBy_le none none (-1) (by decide) x.length;have h2:=List.length_filterMap_le (λ(i:Nat)=>x.cps[i]?)<|Builtin.Str.strSliceIndices none none (-1) x.length;have e:(rn x).length=((Builtin.Str.strSliceIndices none none (-1) x.length).filterMap (x.cps[·]?)).length:=by simp[rn,Str.length]
 rw[e];exact He h2 h
def uJ:Ac->Option Ac
 | .list ds=>some<|.list ds.reverse
 | .tuple ds=>some<|.tuple ds.reverse
 | .str x=>if x.length<=LM then some (.str<|rn x) else none
 | _=>none
def wd {j}(hK:X.K=K)(he:PE X e te):PE X (.Subscript e (.Slice none none (some<|.UnaryOp .USub (.Constant (.int 1) j p) p3) p2) pos) (tUn (rD1 K uJ) te):=by
 subst hK;intro pins s σ H Q I h;refine Subscript_ (thn (he pins s σ H _ I h) λv s1 ⟨x,H1,I1,r1,q1⟩=>?_);refine wpAny_Slice ?_;rw[evalPart_none];refine Gk<|Gk ?_;refine thn (iu (sH kJ k4) pins s1 σ H1 (λo H2=>o=some (-1)/\H2=H1) I1 ⟨1,rfl,_,rfl,rfl,rfl⟩) λvst s2 ⟨o,H2,I2,ps,ho,hH⟩=>?_
 subst ho hH;obtain⟨fp,B,d,r,bk,h1,hf,q⟩:=q1;have I4:Inv X pins σ H2 { s2 with heap:=s2.heap.push { cls:=.type "slice",data:=.fields #[.none,.none,vst] } }:=I2.kept (t':=s2.toks) λb ob q=>Gj _ q
 show LU (model X.prog X.w) X.A (subscriptTail e (.Slice none none (some<|.UnaryOp .USub (.Constant (.int 1) j p) p3) p2) v<|.ref s2.heap.objs.size) (EP X pins σ Q) X.xe { s2 with heap:=s2.heap.push { cls:=.type "slice",data:=.fields #[.none,.none,vst] } };cases d <;> simp only[uJ]at hf <;> try cases hf
 .rename_i x0;cases(show x = .str x0 from h1);split at hf
  .rename_i hl;cases hf;obtain⟨t,rfl⟩:=r1;obtain⟨l,rfl,e2⟩:=gy ps;obtain⟨⟨i0,t0⟩,rfl⟩:∃z,l=some z:=by
    cases l with
    | none=>cases e2
    | some z=>exact⟨z,rfl⟩
   simp at e2;subst e2;have z:=q _ H2 (d9.refl H2) b7.st;refine tail_any (ops:=[.str x0 t,.ref s2.heap.objs.size]) (KG _ _ _) Kg.lookup (getItem_meets (KG _ _ _) (by decide) Kg F.entry_str_getitem (F.args_str_getitem_2 _ _) (meets_str_getitem_slice x0 t s2.heap.objs.size none none (some (-1,t0)) rfl) ⟨⟨_,GN _ rfl,rfl,rfl⟩,?_⟩) (by with_unfolding_all rfl);unfold sliceMade;rw[Gr<|by simp];exact⟨He (tj x0) hl,⟨.str<|rn x0,H2,I4.tok _,⟨_,rfl⟩,z⟩⟩
  .cases hf
 .obtain⟨a,xs,rfl,ha,hd⟩:=h1;cases r1;obtain⟨its,r,ht,hz⟩:=I4.list<|SqL.of (K:=X.K)<|d4 _ _ ha;have hlen:=r.length;refine tail_any (ops:=[.ref a,.ref s2.heap.objs.size]) ht.isList.typeIs slot_list_getitem.lookup (wpAny_getItem_list_slice ht.isList (Lb ..) .none .none ps (by decide) ?_ (by rw[Gw] <;> omega)) (by with_unfolding_all rfl);rw[PySem.W.krv_pick];refine⟨.ref _,_,I4.laid (t':=s2.toks) (o:=.lst xs.reverse) (λb ob q=>Gj _ q) (Gs _) ?_,rfl,?_⟩
  .exact⟨by rw[KR];exact hz,its.reverse,0,r.reverse,GN _ rfl⟩
  .have hf:=I4.hok.fresh<|Gs _;exact q _ _ (d9.upd hf)<|J8 bk hf<|a8.reverse hd
 .obtain⟨a,xs,rfl,ha,hd⟩:=h1;cases r1;obtain⟨its,r,ht,hz⟩:=I4.tuple<|ha.same d4;have hlen:its.toArray.size=xs.length:=by rw[Gw];exact r.length.symm
  refine tail_any (ops:=[.ref a,.ref s2.heap.objs.size]) ht.typeIs Hu.lookup (HT.getItem_tuple_rev ht (Lb ..) ps ?_ (by rw[hlen];exact hz)) (by with_unfolding_all rfl);refine⟨.ref _,_,I4.laid (t':=s2.toks) (o:=.tup xs.reverse) (λb ob q=>Gj _ q) (Gs _) ?_,rfl,?_⟩
  .exact⟨by rw[KR];exact hz,_,r.reverse,JZ _ _⟩
  .have hf:=I4.hok.fresh<|Gs _;exact q _ _ (d9.upd hf)<|P5 bk hf<|a8.reverse hd
def yP {j}(h:Eb K X e te m)(hK:X.K=K:=by rfl):Ev K X (.Subscript e (.Slice none none (some<|.UnaryOp .USub (.Constant (.int 1) j p) p3) p2) pos) (tUn (rD1 K uJ) te) (s1 uJ m):=⟨wd hK h.pe,xN h.ok⟩
end
end
end L3
namespace L3
open PySem PySem.Spec L2
def cm:fillsNumberSlot (.type "tuple") "mul" = pure false :=
 fillsNumberSlot_seq (id:="tuple.__mul__") (r:=some<|.builtin "tuple.__rmul__") JN.lookup (by decide +kernel) F.slot_tuple_rmul.lookup (by decide +kernel)
def iE:seqRepeat? (.type "tuple")=pure (some<|.builtin "tuple.__mul__"):=by
 unfold seqRepeat?;rw[seqSlot_of (T:="tuple") (name:="__mul__") (id:="tuple.__mul__") JN.lookup (by decide +kernel),seqSlot_of (T:="tuple") (name:="__rmul__") (id:="tuple.__rmul__") F.slot_tuple_rmul.lookup<|by decide +kernel];rfl
def fh (a:Int)(t:Tok)(l:LA)(items:Array Lz)(n:Nat)(dd:Option LA)(sl:Array (Option Lz)) :
  Meets (Builtin.«int.__rmul__» ⟨[.int a t,.ref l],[]⟩) (λ_ R s=>s.heap.get? l=some { cls:=.type "tuple",dict:=dd,data:=.seq items n,slots:=sl }/\R (.ok<|.ret Lz.notImplemented) s) :=
 .of_wp λprog w A R s h=>by obtain⟨hp,g,d,tk,os⟩:=s;obtain⟨hl,h⟩:=h;wp_walk;exact⟨_,rfl,h⟩
def mq (l:LA)(items:Array Lz)(n:Nat)(dd:Option LA)(sl:Array (Option Lz))(k:Int)(u:Tok)(hc0:(decide (k < -(2 ^ 63))||decide (k >= 2 ^ 63))=false)(hc1:(items.isEmpty||k == 1)=true) :
  Meets (Builtin.«tuple.__mul__» ⟨[.ref l,.int k u],[]⟩) (λ_ R s=>s.heap.get? l=some { cls:=.type "tuple",dict:=dd,data:=.seq items n,slots:=sl }/\R (.ok<|.ret<|.ref l) s) :=
 .of_wp λprog w A R s h=>by
  obtain⟨hp,g,d,tk,os⟩:=s;obtain⟨hl,h⟩:=h;have f1:=AutoSeq1.idx_int;have f2:=Kh;have f3:=Ku;have f4:=Kl;have f5:=Km;wp_walk;refine KM (by rw[hc0];rfl) ?_;wp_walk;exact⟨_,rfl,h⟩
def la (l:LA)(items:Array Lz)(n:Nat)(dd:Option LA)(sl:Array (Option Lz))(k:Int)(u:Tok)(hc0:(decide (k < -(2 ^ 63))||decide (k >= 2 ^ 63))=false)(hc1:(items.isEmpty||k == 1)=false)(hc2:(decide (k<=0)||items.isEmpty)=true) :
  Meets (Builtin.«tuple.__mul__» ⟨[.ref l,.int k u],[]⟩) (λ_ R s=>s.heap.get? l=some { cls:=.type "tuple",dict:=dd,data:=.seq items n,slots:=sl }/\R (.ok<|.ret<|.ref s.heap.objs.size) { s with heap:=s.heap.push { cls:=.type "tuple",data:=.seq #[] } }) :=
 .of_wp λprog w A R s h=>by
  obtain⟨hp,g,d,tk,os⟩:=s;obtain⟨hl,h⟩:=h;have f1:=AutoSeq1.idx_int;have f2:=Kh;have f3:=Ku;have f4:=Kl;have f5:=Km;wp_walk;refine KM (by rw[hc0];rfl) ?_;wp_walk;exact⟨_,rfl,h⟩
def kB (l:LA)(items:Array Lz)(n:Nat)(dd:Option LA)(sl:Array (Option Lz))(k:Int)(u:Tok)(hc0:(decide (k < -(2 ^ 63))||decide (k >= 2 ^ 63))=false)(hc1:(items.isEmpty||k == 1)=false)(hc2:(decide (k<=0)||items.isEmpty)=false)(hc3:decide ((items.size:Int)*k > (2 ^ 63-1) / 8)=false)(hc4:Builtin.Tuple.tupleTooMany ((items.size:Int)*k)=false)
  (hsz:(List.foldl (λx1 x2=>x1++x2) #[] (List.replicate k.toNat items)).size<=LM) :
  Meets (Builtin.«tuple.__mul__» ⟨[.ref l,.int k u],[]⟩) (λ_ R s=>s.heap.get? l=some { cls:=.type "tuple",dict:=dd,data:=.seq items n,slots:=sl }/\R (.ok<|.ret<|.ref s.heap.objs.size) { s with heap:=s.heap.push { cls:=.type "tuple",data:=.seq (List.foldl (λx1 x2=>x1++x2) #[] (List.replicate k.toNat items)) } }) :=
 .of_wp λprog w A R s h=>by
  obtain⟨hp,g,d,tk,os⟩:=s;obtain⟨hl,h⟩:=h;have f1:=AutoSeq1.idx_int;have f2:=Kh;have f3:=Ku;have f4:=Kl;have f5:=Km;wp_walk;refine KM (by rw[hc0];rfl) ?_;wp_walk;refine KM hc3 ?_;wp_walk;exact⟨_,rfl,h⟩
section
open PyProof.Rows
variable {K:Fg}{X:Cx}
def ag:Ac->Ac->Option Ac
 | .tuple xs,.int k=>if -(2 ^ 63)<=k/\k<2 ^ 63/\xs.length*k.toNat<=LM then some (.tuple (List.replicate k.toNat xs).flatten) else none
 | d,e=>Ab d e
def xr (hK:X.K=K):OpR X (binaryOp .Mult) (λx y H Q=>∃l k xs,x = .ref l/\y = .int k/\SqT K H l xs /\ -(2 ^ 63)<=k/\k<2 ^ 63/\xs.length*k.toNat<=LM /\
  ((List.replicate k.toNat xs).flatten=xs->Q (.ref l) H)/\∀p,H p=none->Q (.ref p) (upd H p<|.tup (List.replicate k.toNat xs).flatten)):=by
 subst hK;intro pins s σ H x y v u Q I rx ry h;obtain⟨l,k,xs,rfl,rfl,hq,h1,h2,hz,q0,q1⟩:=h;cases rx;obtain⟨t,rfl⟩:=ry;obtain⟨its,r,p,hl⟩:=I.tuple hq;have hlen:=r.length;obtain⟨⟨cls,dd,data,sl⟩,ho,hc,n,hd⟩:=id p;simp only at hc hd;subst hc hd;have hc0:(decide (k < -(2 ^ 63))||decide (k >= 2 ^ 63))=false:=by
  rw[Hx (by omega),Hx<|by omega];rfl
 have e1:s.TypeIs (.ref l) "tuple":=⟨_,ho,rfl⟩;refine wpAny_binaryOp_repeat_ref (T:="tuple") (U:="int") (by decide) e1 (λs'=>typeIs_int s' k t) cm F.fills_int_mul KH iE F.slot_int_index.lookup
  (Jm KH (typeIs_int s k t) F.entry_int_rmul (F.args_int_rmul_2 _ _) (fh k t l its.toArray n dd sl) ⟨ho,rfl,e1,?_⟩)
 by_cases c1:(its.toArray.isEmpty||k == 1)=true
 .refine Jm JN e1 F.entry_tuple_mul (Ld _ _) (mq l its.toArray n dd sl k t hc0 c1) ⟨ho,⟨.ref l,H,I,rfl,q0 ?_⟩⟩;simp only[Bool.or_eq_true,beq_iff_eq]at c1;rcases c1 with c1 | c1
  .have:xs=[]:=by
    cases r with
    | nil=>rfl
    | cons a b=>simp at c1
   subst this;simp
  .subst c1;simp
 .have c1:(its.toArray.isEmpty||k == 1)=false:=by simpa using c1
  by_cases c2:(decide (k<=0)||its.toArray.isEmpty)=true
  .refine Jm JN e1 F.entry_tuple_mul (Ld _ _) (la l its.toArray n dd sl k t hc0 c1 c2) ⟨ho,?_⟩;have ez:(List.replicate k.toNat xs).flatten=[]:=by
    rw[Bool.or_eq_false_iff]at c1;rw[c1.1,Bool.or_false]at c2;have:k.toNat=0:=by have:=Hf c2;omega
    rw[this];rfl
   have z:=q1 _ I.fresh;rw[ez]at z;exact⟨.ref _,_,I.laid (t':=s.toks) (o:=.tup []) (λb ob q=>Gj _ q) (Gs _) ⟨HA _,[],.nil,JZ _ _⟩,rfl,z⟩
  .have c2:(decide (k<=0)||its.toArray.isEmpty)=false:=by simpa using c2
   have hk0:0<k:=by
    rw[Bool.or_eq_false_iff]at c2;have:=Jg c2.1;omega
   have hm:(its.toArray.size:Int)*k<=LM:=by
    obtain⟨j,rfl⟩:∃j:Nat,k=j:=⟨k.toNat,by omega⟩;rw[Gw,<-hlen];simp only[HG]at hz;exact_mod_cast hz
   have hfold:List.foldl (λx1 x2=>x1++x2) #[] (List.replicate k.toNat its.toArray)=(List.replicate k.toNat its).flatten.toArray:=by
    have:=bz its k.toNat [];rw[Ho]at this;exact this
   have hsl:(LM:Int)<=(2 ^ 63-1) / 8:=by rw[Hl];decide
   refine Jm JN e1 F.entry_tuple_mul (Ld _ _) (kB l its.toArray n dd sl k t hc0 c1 c2 (Hx<|by omega) (Hx<|by omega) ?_) ⟨ho,?_⟩
   .rw[hfold,Gw,gH,<-hlen,Nat.mul_comm];exact hz
   .rw[hfold];exact⟨.ref _,_,I.laid (t':=s.toks) (o:=.tup (List.replicate k.toNat xs).flatten) (λb ob q=>Gj _ q) (Gs _) ⟨by rw[gH,Nat.mul_comm];exact hz,_,r.rep k.toNat,JZ _ _⟩,rfl,q1 _ I.fresh⟩
def bf (hK:X.K=K):OpR X (binaryOp .Mult) (rD2 K ag):=by
 intro pins s σ H x y v u Q I rx ry h;obtain⟨fp,B,d,e,r,bk,h1,h2,hf,q⟩:=h;unfold ag at hf;split at hf
 .rename_i ds k;obtain⟨a,xs,rfl,ha,hd⟩:=h1;cases(show y = .int k from h2);split at hf
  .rename_i hc;cases hf;refine xr hK pins s σ H _ _ v u Q I rx ry ⟨a,k,xs,rfl,rfl,ha.same d4,hc.1,hc.2.1,by rw[hd.length];exact hc.2.2,λe=>q _ H (d9.refl H) ?_,λp hp=>q _ _ (d9.upd hp)<|P5 bk hp<|a8.rep hd _⟩;have:=a8.rep hd k.toNat;rw[e]at this;simp only[b7];exact⟨a,xs,rfl,ha,this⟩
  .cases hf
 .exact Ay pins s σ H x y v u Q I rx ry ⟨fp,B,d,e,r,bk,h1,h2,hf,q⟩
end
end L3
namespace L3
open PySem PySem.Spec PyProof.Rows L2
section
section
variable [Feeds]
def cn (K:Fg)(P:Hp->List LA->Prop)(J:It)(items:List Ac):Prop:=∀H B,P H B ->
 (∀i d,items[i]? = some d->J.go i H/\∀x H2,J.yld i H x H2->d9 H H2/\(BOk H B->b7 K (hid H2 B) d x))/\J.stop items.length H
def TId (K:Fg)(wi:TI)(mi:DE->M (List Ac)):Prop:=∀(G:GF) (B:List LA) (E:DE) (F:FS) (σ:St) (H:Hp) (R:It->Hp->Prop) (ds:List Ac) (F':FS),SitE K G B E F σ H->mi E F=some (ds,F') ->
 (∀J H',Kp (j8 K G) H H'->FAt K G H' F'->cn K (λH2 B2=>d9 (hid H' B)<|hid H2 B2) J ds->R J H')->wi σ H R
def TIs (K:Fg)(wi:TI)(mi:DE->M (List Ac)):Prop:=∀(G:GF) (B:List LA) (E:DE) (F:FS) (σ:St) (H:Hp) (R:It->Hp->Prop) (ds:List Ac) (F':FS),SitE K G B E F σ H->mi E F=some (ds,F') ->
 (∀J H',Kp (j8 K G) H H'->FAt K G H' F'->cn K (λH2 B2=>Kp (j8 K G) H' H2/\d9 (hid H' B) (hid H2 B2)) J ds->R J H')->wi σ H R
def TId.sh {K:Fg}{wi:TI}{mi:DE->M (List Ac)}(h:TId K wi mi):TIs K wi mi:=λG B E F σ H R ds F' I e q=>h G B E F σ H R ds F' I e λJ H' k f ok=>q J H' k f λH2 B2 kp=>ok H2 B2 kp.2
structure Ei (K:Fg) (X:Cx) (tg iter:LK) (wi:TI) (mi:DE->M (List Ac)):Prop where
 pi:PI X tg iter wi
 ok:TId K wi mi
structure Eib (K:Fg) (X:Cx) (tg iter:LK) (wi:TI) (mi:DE->M (List Ac)):Prop where
 pi:PI X tg iter wi
 ok:TIs K wi mi
variable {K:Fg}{X:Cx}{tg iter e:LK}{te:TE}{m:DE->M Ac}{pos p:Pos}
def Ei.bw {wi:TI}{mi:DE->M (List Ac)}(h:Ei K X tg iter wi mi):Eib K X tg iter wi mi:=⟨h.pi,h.ok.sh⟩
def zg (K:Fg)(tl:TE):TI:=λσ H R=>tl σ H λx H1=>∃a,x = .ref a/\(((∃xs,SqL K H1 a xs)/\R (Itl K a) H1)\/((∃xs,SqT K H1 a xs)/\R (Itt K a) H1))
def rS {l:LK}{tl:TE}(hK:X.K=K)(hl:PE X l tl):PI X tg l (zg K tl):=by
 subst hK;intro pins s σ H R I h;refine thn (hl pins s σ H _ I h) λv s1 ⟨x,H1,I1,r1,q1⟩=>?_
 obtain⟨a,e,q⟩:=q1;subst e;cases r1;rcases q with ⟨⟨xs,hq⟩,q⟩ | ⟨⟨xs,hq⟩,q⟩
 .obtain⟨its,rv,p,hz⟩:=I1.list hq;refine wpAny_pyIter_list p.isList ?_;refine⟨s1.heap.objs.size,[s1.heap.objs.size],_,_,H1,rfl,I1.kept (t':=s1.toks) λb o e=>Gj _ e,oA a _,⟨_,GN _ rfl,rfl,rfl⟩,λb hb=>?_,q⟩;have e:b=s1.heap.objs.size:=by simpa using hb
  subst e;exact I1.fpOk (Gs _)<|I1.hok.fresh<|Gs _
 .obtain⟨its,rv,p,hz⟩:=I1.tuple hq;refine Jh (show s1.heap.IsTuple a its.toArray from p) ?_;refine⟨s1.heap.objs.size,[s1.heap.objs.size],_,_,H1,rfl,I1.kept (t':=s1.toks) λb o e=>Gj _ e,lp a _,⟨_,GN _ rfl,rfl,rfl⟩,λb hb=>?_,q⟩;have e:b=s1.heap.objs.size:=by simpa using hb
  subst e;exact I1.fpOk (Gs _)<|I1.hok.fresh<|Gs _
def dX:Ac->Option (List Ac)
 | .list ds=>some ds
 | .tuple ds=>some ds
 | _=>none
def N6 (a:DE->M Ac):DE->M (List Ac):=λE F=>(a E F).bind λp=>(dX p.1).bind λds=>some (ds,p.2)
def a8.item {H:Hp}{ds:List Ac}{xs:List V}{i:Nat}{d:Ac}(h:a8 K H ds xs)(e:ds[i]? = some d):∃v,xs[i]? = some v/\b7 K H d v:=by
 obtain⟨hj,_⟩:=GE.1 e;have hx:xs[i]? = some (xs[i]'(by rw[h.length];exact hj)):=by simp
 obtain⟨d',h1,h2⟩:=h.get hx;rw[e]at h1;cases h1;exact⟨_,hx,h2⟩
def mV {P:Hp->List LA->Prop}{a:LA}{ds:List Ac}{xs:List V}(h:∀H B,P H B->H a=some (.lst xs)/\a8 K (hid H B) ds xs):cn K P (Itl K a) ds:=λH B hp=>by
 obtain⟨h1,h2⟩:=h H B hp;refine⟨λi d e=>?_,⟨xs,SqL.of h1,by rw[h2.length];exact Gs _⟩⟩;obtain⟨v,e1,e2⟩:=a8.item h2 e;refine⟨⟨xs,v,SqL.of h1,e1⟩,λx H2 y=>?_⟩;obtain⟨rfl,y⟩:=y;have:=y xs<|SqL.of h1;rw[e1]at this;cases this;exact⟨d9.refl _,λ_=>e2⟩
def uk {P:Hp->List LA->Prop}{a:LA}{ds:List Ac}{xs:List V}(h:∀H B,P H B->SqT K H a xs/\a8 K (hid H B) ds xs):cn K P (Itt K a) ds:=λH B hp=>by
 obtain⟨h1,h2⟩:=h H B hp;refine⟨λi d e=>?_,⟨xs,h1,by rw[h2.length];exact Gs _⟩⟩;obtain⟨v,e1,e2⟩:=a8.item h2 e;refine⟨⟨xs,v,h1,e1⟩,λx H2 y=>?_⟩;obtain⟨rfl,y⟩:=y;have:=y xs h1;rw[e1]at this;cases this;exact⟨d9.refl _,λ_=>e2⟩
def cq (h:Ev K X e te m)(hK:X.K=K:=by rfl):Ei K X tg e (zg K te) (N6 m):=⟨rS hK h.pe,λG B E F σ H R ds F' I e q=>by
 obtain⟨⟨y,F1⟩,e1,e⟩:=bS9 e;obtain⟨z,e2,e⟩:=bS9 e;cases e;refine h.ok G B E F σ H _ y F1 I e1 λv H1 k1 f1 h1=>?_
 cases y with
 | list ys =>
  cases e2;simp only[b7]at h1;obtain⟨a,xs,rfl,ha,hd⟩:=h1;refine⟨a,rfl,.inl ⟨⟨xs,SqL.of<|d4 _ _ ha⟩,q _ H1 k1 f1<|mV λH2 B2 s=>⟨d4 _ _<|s _ _ ha,hd.same s⟩⟩⟩
 | tuple ys =>
  cases e2;simp only[b7]at h1;obtain⟨a,xs,rfl,ha,hd⟩:=h1;refine⟨a,rfl,.inr ⟨⟨xs,ha.same d4⟩,q _ H1 k1 f1<|uk λH2 B2 s=>⟨(ha.same s).same d4,hd.same s⟩⟩⟩
 | _=>cases e2⟩
def G1 (h:Eb K X e te m)(hK:X.K=K:=by rfl):Eib K X tg e (zg K te) (N6 m):=⟨rS hK h.pe,λG B E F σ H R ds F' I e q=>by
 obtain⟨⟨y,F1⟩,e1,e⟩:=bS9 e;obtain⟨z,e2,e⟩:=bS9 e;cases e;refine h.ok G B E F σ H _ y F1 I e1 λv H1 k1 f1 h1=>?_
 cases y with
 | list ys =>
  cases e2;obtain⟨a,xs,rfl,ha,hd⟩:=h1;refine⟨a,rfl,.inl ⟨⟨xs,SqL.of<|d4 _ _ ha⟩,q _ H1 k1 f1<|mV λH2 B2 k=>⟨d4 _ _<|k.1.hid (B:=j8 K G) (λ_ z=>z) _ _ ha,hd.same k.2⟩⟩⟩
 | tuple ys =>
  cases e2;obtain⟨a,xs,rfl,ha,hd⟩:=h1;refine⟨a,rfl,.inr ⟨⟨xs,ha.same d4⟩,q _ H1 k1 f1<|uk λH2 B2 k=>⟨(ha.same k.2).same d4,hd.same k.2⟩⟩⟩
 | _=>cases e2⟩
def V9 (lo:Int)(n:Nat):List Ac:=(List.range n).map λ(i:Nat)=>.int<|lo+i
def Ak {P:Hp->List LA->Prop}{lo:Int}{n:Nat}:cn K P (Itr lo n) (V9 lo n):=λH B _=>by
 refine⟨λi d e=>?_,by show n<=_;simp[V9]⟩;unfold V9 at e;rw[GC]at e;obtain⟨j,e1,rfl⟩:=Hd.1 e;obtain⟨hj,e2⟩:=GE.1 e1;simp at hj e2;subst e2;refine⟨hj,λx H2 y=>?_⟩;obtain⟨rfl,rfl⟩:=y;exact⟨d9.refl _,λ_=>b7.int⟩
def U4:List Ac->Option (List Ac)
 | [.int j]=>if -(2 ^ 62)<=j/\j<2 ^ 62 then some (V9 0 j.toNat) else none
 | _=>none
def iz:List Ac->Option (List Ac)
 | [.int i,.int j]=>if -(2 ^ 62)<=i/\i<2 ^ 62 /\ -(2 ^ 62)<=j/\j<2 ^ 62 then some (V9 i (j-i).toNat) else none
 | _=>none
def eI (a:DE->M (List Ac)):DE->M (List Ac):=λE F=>(a E F).bind λp=>(U4 p.1).bind λds=>some (ds,p.2)
def dh {a:LK}{ta:TA}{ms:DE->M (List Ac)}(h:Ea K X [a] ta ms)(hm:X.mg "range" = none)(hg:Gl X "range":=by rfl)(hs:LN [a] X.env=[(false,eval a X.env)]:=by rfl):Ei K X tg (.Call (.Name "range" p) [a] [] pos) (xP ta) (eI ms):=⟨oE hg hm h.pa hs,λG B E F σ H R ds F' I e q=>by
 obtain⟨⟨ys,F1⟩,e1,e⟩:=bS9 e;obtain⟨z,e2,e⟩:=bS9 e;cases e;refine h.ok G B E F σ H _ ys F1 I e1 λvs H1 k1 f1 h1=>?_
 unfold U4 at e2;split at e2
 .rename_i j hj;split at e2
  .rename_i hc;cases e2;have hj:ys=[.int j]:=hj;subst hj;simp only[a8]at h1;obtain⟨x,r,rfl,h2,rfl⟩:=h1;simp only[b7]at h2;subst h2;exact⟨j,rfl,hc.1,hc.2,q _ H1 k1 f1 Ak⟩
  .cases e2
 .cases e2⟩
def TGd (K:Fg)(g:TG)(bd:Ac->DE->Option DE):Prop:=∀(G:GF) (B:List LA) (E:DE) (F:FS) (σ:St) (H:Hp) (x:V) (d:Ac) (E':DE) (Q:St->Hp->Prop),SitE K G B E F σ H->b7 K (hid H B) d x->bd d E=some E' ->
 (∀σ',SitE K G B E' F σ' H->(∀i:Nat,(∀y,E'[i]? ≠ some (some<|.dat y))->E'[i]? = E[i]? /\ σ'[i]? = σ[i]?)->Q σ' H)->g x σ H Q
def Cu (K:Fg)(g:TGs)(bd:List Ac->DE->Option DE):Prop:=∀(G:GF) (B:List LA) (E:DE) (F:FS) (σ:St) (H:Hp) (xs:List V) (ds:List Ac) (E':DE) (Q:St->Hp->Prop),SitE K G B E F σ H->a8 K (hid H B) ds xs->bd ds E=some E' ->
 (∀σ',SitE K G B E' F σ' H->(∀i:Nat,(∀y,E'[i]? ≠ some (some<|.dat y))->E'[i]? = E[i]? /\ σ'[i]? = σ[i]?)->Q σ' H)->g xs σ H Q
structure Eg (K:Fg) (X:Cx) (tg:LK) (g:TG) (bd:Ac->DE->Option DE):Prop where
 pg:PG X tg g
 ok:TGd K g bd
structure Egs (K:Fg) (X:Cx) (tgs:List LK) (g:TGs) (bd:List Ac->DE->Option DE):Prop where
 pg:PGs X tgs g
 ok:Cu K g bd
def bN (i:Nat):Ac->DE->Option DE:=λd E=>if i<E.length then some (E.set i<|some<|.dat d) else none
def SitE.set {G:GF}{B:List LA}{E:DE}{F:FS}{σ:St}{H:Hp}{i:Nat}{d:Ac}{v:V}(I:SitE K G B E F σ H)(h:b7 K (hid H B) d v)(hi:i<E.length):SitE K G B (E.set i<|some<|.dat d) F (σ.set i<|some v) H:=by
 refine⟨I.fd,I.fB,I.bk,by rw[Hn,Hn];exact I.ln,λj x e=>?_⟩;have hs:i < σ.length:=by rw[<-I.ln];exact hi
 by_cases hj:i=j
 .subst hj;rw[GA hi]at e;cases e;exact⟨v,by rw[GA hs],h⟩
 .rw[Gu hj]at e;rw[Gu hj];exact I.loc j x e
def z9 {i:Nat}{x:Str}(hN:X.N.Nodup)(hi:X.N[i]? = some x:=by rfl)(hx:Loc X.env.scope x:=by first | exact Or.inl rfl | exact Or.inr rfl)(hf:X.fn x=true\/X.env.scope.names.lookup x=some .local:=by first | exact .inl rfl | exact .inr rfl | assumption):Eg K X (.Name x pos) (E9 i) (bN i):=⟨iC hN hi hx hf,λG B E F σ H x d E' Q I h e q=>by
 unfold bN at e;split at e
 .rename_i hl;cases e;refine q _ (I.set h hl) λj hj=>?_
  by_cases hij:i=j
  .subst hij;exact absurd (GA hl) (hj d)
  .rw[Gu hij,Gu hij];exact⟨rfl,rfl⟩
 .cases e⟩
def M9 {i:Nat}{x:Str}{N:List Str}{scope:LH}{cl C ex pins s H}(hN:N.Nodup:=by decide +kernel)(hi:N[i]? = some x:=by rfl)(hx:Loc (cxC X N scope cl C ex pins s H).env.scope x:=by first | exact Or.inl rfl | exact Or.inr rfl)(hf:(cxC X N scope cl C ex pins s H).fn x=true\/(cxC X N scope cl C ex pins s H).env.scope.names.lookup x=some .local:=by first | exact .inl rfl | exact .inr rfl | assumption):Eg K (cxC X N scope cl C ex pins s H) (.Name x pos) (E9 i) (bN i):=z9 hN hi hx hf
def G3:List Ac->DE->Option DE:=λds E=>if ds.isEmpty then some E else none
def i5 (a:Ac->DE->Option DE)(r:List Ac->DE->Option DE):List Ac->DE->Option DE
 | d::ds,E=>(a d E).bind λE1=>r ds E1
 | [],_=>none
def m9:Egs K X [] zN G3:=⟨ni,λG B E F σ H xs ds E' Q I h e q=>by
 cases ds with
 | nil=>cases e;simp only[a8]at h;exact⟨h,q σ I λ_ _=>⟨rfl,rfl⟩⟩
 | cons d r=>cases e⟩
def d6 {es:List LK}{t:TG}{u:TGs}{ba:Ac->DE->Option DE}{br:List Ac->DE->Option DE}(h1:Eg K X e t ba)(h2:Egs K X es u br)
  (hs:(Mb (e::es) X.env).map (·.2)=assign e X.env::(Mb es X.env).map (·.2):=by rfl):Egs K X (e::es) (nX t u) (i5 ba br):=⟨dG h1.pg h2.pg hs,λG B E F σ H xs ds E' Q I h e q=>by
 cases ds with
 | nil=>cases e
 | cons d r =>
  obtain⟨E1,e1,e⟩:=bS9 e;simp only[a8]at h;obtain⟨x,rr,rfl,hx,hr⟩:=h;refine⟨x,rr,rfl,h1.ok G B E F σ H x d E1 _ I hx e1 λσ1 I1 k1=>?_⟩;refine h2.ok G B E1 F σ1 H rr r E' _ I1 hr e λσ2 I2 k2=>q σ2 I2 λi hi=>?_
  obtain⟨a1,a2⟩:=k2 i hi;obtain⟨b1,b2⟩:=k1 i (λy z=>hi y<|a1.trans z);exact⟨a1.trans b1,a2.trans b2⟩⟩
def E8 (n:Nat)(r:List Ac->DE->Option DE):Ac->DE->Option DE
 | .tuple ds,E=>if ds.length=n then r ds E else none
 | _,_=>none
def u6 {es:List LK}{k:Nat}{t:TGs}{n:Nat}{br:List Ac->DE->Option DE}(hc:X.calm=true)(h:Egs K X es t br)(hK:X.K=K:=by rfl)
  (hn:(Mb es X.env).length=n:=by rfl) (hst:(Mb es X.env).findIdx? (·.1)=none:=by rfl):Eg K X (.Tuple es k pos) (vV K n t) (E8 n br):=⟨mU hK hc h.pg hn hst,λG B E F σ H x d E' Q I hd e q=>by
 cases d <;> simp only[E8]at e <;> try cases e
 split at e
 .rename_i hl;simp only[b7]at hd;obtain⟨a,xs,rfl,ha,hx⟩:=hd;exact⟨a,xs,rfl,ha.same d4,by rw[hx.length];exact hl,h.ok G B E F σ H xs _ E' Q I hx e q⟩
 .cases e⟩
def fC (k:Nat)(cap:List Nat)(E:DE):DE:=List.replicate k none++cap.map λj=>(E[j]?).join
def SitE.cap {G:GF}{B:List LA}{E:DE}{F:FS}{σ:St}{H:Hp}(I:SitE K G B E F σ H)(k:Nat)(cap:List Nat):SitE K G B (fC k cap E) F (Z9 k cap σ) H:=by
 refine⟨I.fd,I.fB,I.bk,by simp[fC,Z9],λi x e=>?_⟩;unfold fC at e;by_cases hi:i<k
 .rw[ID (by simpa using hi),HW,Gp hi]at e;cases e
 .rw[HV (by simpa using hi),IG,GC]at e;obtain⟨j,hj,hv⟩:=Hd.1 e;have hE:E[j]? = some (some x):=by
   cases q:E[j]? with
   | none=>rw[q]at hv;cases hv
   | some o=>rw[q]at hv;exact HJ some hv
  obtain⟨v,h1,h2⟩:=I.loc j x hE;refine⟨v,?_,h2⟩;unfold Z9;rw[HV (by simpa using hi),IG,GC,hj,KJ,h1];rfl
def SitE.more {G:GF}{B:List LA}{E:DE}{F:FS}{σ:St}{H:Hp}{D:LA}{o:HO}(I:SitE K G B E F σ H)(hD:H D=none):SitE K G (D::B) E F σ (upd H D o):=by
 have hn:D ∉ B:=I.bk.nin hD;have e1:hid (upd H D o) (D::B)=hid H B:=by
  funext b;by_cases hb:b=D
  .subst hb;rw[x6 Gx,i4 hn,hD]
  .by_cases hB:b∈B
   .rw[x6 hB,x6<|Gq _ hB]
   .rw[i4 hB,i4 (by simp[hb,hB]),d7 hb]
 refine⟨I.fd.same<|d9.upd hD,λb hb=>Gq _<|I.fB b hb,λb hb=>?_,I.ln,λi x e=>?_⟩
 .rcases GK.1 hb with rfl | hb
  .exact⟨o,f8⟩
  .obtain⟨u,e⟩:=I.bk b hb;exact⟨u,by rw[d7<|f9 e hD];exact e⟩
 .obtain⟨v,h1,h2⟩:=I.loc i x e;refine⟨v,h1,?_⟩;cases x with
  | dat d=>show b7 K (hid (upd H D o) (D::B)) d v;rw[e1];exact h2
  | feed=>exact h2
  | fn _=>exact h2
  | adr _=>exact h2
  | own ds =>
   obtain⟨a,xs,ea,hB,hf,ha,hd⟩:=h2;exact⟨a,xs,ea,Gq _ hB,hf,by rw[d7<|f9 ha hD];exact ha,by rw[e1];exact hd⟩
  | dic w c ps =>
   obtain⟨a,xs,ea,hB,hf,ha,hn,hd⟩:=h2;exact⟨a,xs,ea,Gq _ hB,hf,by rw[d7<|f9 ha hD];exact ha,hn,by rw[e1];exact hd⟩
def SitE.wr {G:GF}{B:List LA}{E:DE}{F:FS}{σ:St}{H:Hp}{D:LA}{o:HO}(I:SitE K G (D::B) E F σ H)(hf:D ∉ j8 K G)(hown:∀(i:Nat) (ds:List Ac),E[i]? = some (some<|DV.own ds)->σ[i]? ≠ some (some<|V.ref D)){acc:List V}(hD:H D=some (.lst acc)):SitE K G (D::B) E F σ (upd H D o):=by
 have e1:hid (upd H D o) (D::B)=hid H (D::B):=aL Gx;refine⟨I.fd.congr λb hb=>d7 (λe=>hb.elim (λhb=>hf<|e▸hb) λ⟨φ,q⟩=>by rw[e,hD]at q;cases q),I.fB,λb hb=>?_,I.ln,λi x e=>?_⟩
 .by_cases h:b=D
  .subst h;exact⟨o,f8⟩
  .rw[d7 h];exact I.bk b hb
 .obtain⟨v,h1,h2⟩:=I.loc i x e;refine⟨v,h1,?_⟩;cases x with
  | dat d=>show b7 K (hid (upd H D o) (D::B)) d v;rw[e1];exact h2
  | feed=>exact h2
  | fn _=>exact h2
  | adr _=>exact h2
  | own ds =>
   obtain⟨a,xs,rfl,hB,hfa,ha,hd⟩:=h2;have hne:a≠D:=λz=>hown i ds e (by rw[<-z];exact h1)
   exact⟨a,xs,rfl,hB,hfa,by rw[d7 hne];exact ha,by rw[e1];exact hd⟩
  | dic w c ps =>
   obtain⟨a,xs,rfl,hB,hfa,ha,hn,hd⟩:=h2;have hne:a≠D:=λz=>by rw[z,hD]at ha;cases ha
   exact⟨a,xs,rfl,hB,hfa,by rw[d7 hne];exact ha,hn,by rw[e1];exact hd⟩
structure Ets (K:Fg) (X:Cx) (ifs:List LK) (tt:TT) (m:DE->M Bool):Prop where
 pts:PTs X ifs tt
 ok:TTd K tt m
def M5:DE->M Bool:=λ_ F=>some (true,F)
def B8:Ets K X [] wm M5:=⟨nQ,λG B E F σ H Q b F' I e q=>by cases e;exact q H Kp.refl I.fd⟩
def mM {c:LK}{tt:TT}{mt:DE->M Bool}(h:Et K X c tt mt):Ets K X [c] tt mt:=⟨wZ h.pt,h.ok⟩
noncomputable def V8 (bd:Ac->DE->Option DE)(mt:DE->M Bool)(me:DE->M Ac):List Ac->DE->M (List Ac)
 | [],_,F=>some ([],F)
 | d::r,E,F=>(bd d E).bind λE1=>(mt E1 F).bind λp=>if p.1=true then(me E1 p.2).bind λy=>(V8 bd mt me r E1 y.2).bind λz=>some (y.1::z.1,z.2) else V8 bd mt me r E1 p.2
def sLC (mi:DE->M (List Ac))(k:Nat)(cap:List Nat)(bd:Ac->DE->Option DE)(mt:DE->M Bool)(me:DE->M Ac):DE->M Ac:=λE F =>
 (mi E F).bind λp=>if p.1.length<=LM then(V8 bd mt me p.1 (fC k cap E) p.2).bind λz=>some (.list z.1,z.2) else none
def BK (K:Fg)(G:GF)(B:List LA)(D:LA)(H1:Hp)(bd:Ac->DE->Option DE)(mt:DE->M Bool)(me:DE->M Ac)(items whole:List Ac)(Fz:FS)(i:Nat)(σ:St)(acc:List V)(H:Hp):Prop :=
 ∃E F done rest,SitE K G (D::B) E F σ H/\H D=some (.lst acc)/\Kp (j8 K G) H1 H/\(∀(j:Nat) (ds:List Ac),E[j]? = some (some<|DV.own ds)->σ[j]? ≠ some (some<|V.ref D))/\a8 K (hid H (D::B)) done acc/\V8 bd mt me (items.drop i) E F=some (rest,Fz)/\whole=done++rest/\done.length<=i
def TFd (K:Fg)(te:TE)(m:DE->M (List Ac)):Prop:=∀(G:GF) (B:List LA) (E:DE) (F:FS) (σ:St) (H:Hp) (Q:VK) (ds:List Ac) (F':FS),SitE K G B E F σ H->m E F=some (ds,F') ->
 (∀a vs H',H a=none->H' a=some (.lst vs)->Kp (j8 K G) H H'->FAt K G H' F'->a8 K (hid H' (a::B)) ds vs->Q (.ref a) H')->te σ H Q
def Kp.none {fp:List LA}{H H':Hp}{b:LA}(k:Kp fp H H')(h:H' b=none)(n:b ∉ fp):H b=none:=by
 cases q:H b with
 | none=>rfl
 | some o=>rw[k b o q n]at h;cases h
def fLC (mi:DE->M (List Ac))(k:Nat)(cap:List Nat)(bd:Ac->DE->Option DE)(mt:DE->M Bool)(me:DE->M Ac):DE->M (List Ac):=λE F =>
 (mi E F).bind λp=>if p.1.length<=LM then(V8 bd mt me p.1 (fC k cap E) p.2).bind λz=>some (z.1,z.2) else none
def xV {wi:TI}{mi:DE->M (List Ac)}{k:Nat}{cap:List Nat}{g:TG}{bd:Ac->DE->Option DE}{tt:TT}{mt:DE->M Bool}{me:DE->M Ac}(hi:TIs K wi mi)(hg:TGd K g bd)(ht:TTd K tt mt)(he:TEd K te me) :
  TFd K (tLC wi k cap g tt te) (fLC mi k cap bd mt me):=λG B E F σ H Q d F' I e q=>by
 obtain⟨⟨items,F1⟩,e1,e⟩:=bS9 e;split at e
 .rename_i hsz;obtain⟨⟨whole,F2⟩,e2,e⟩:=bS9 e;cases e;refine hi G B E F σ H _ items F1 I e1 λJ H1 k1 f1 ok D hD=>?_
  have I1:SitE K G B E F1 σ H1:=I.step k1 f1;have hBD:D ∉ B:=I1.bk.nin hD;have hfD:D ∉ j8 K G:=λz=>hBD<|I.fB D z
  have hsz:items.length<=LM:=hsz;have stab:∀{H':Hp},Kp (j8 K G) H1 H'->Kp (j8 K G) H1 H'/\d9 (hid H1 B) (hid H' (D::B)):=λ{H'} k=>⟨k,λb o eb=>by
   by_cases hb:b∈B
   .rw[x6 hb]at eb;cases eb
   .rw[i4 hb]at eb;rw[i4 (by
     intro z;rcases GK.1 z with rfl | z
     .rw[hD]at eb;cases eb
     .exact hb z)]
    exact k b o eb λz=>hb<|I.fB b z⟩
  refine sF items.length (BK K G B D H1 bd mt me items whole F2) ?_ ?_ ?_ ?_ ?_
  .refine⟨fC k cap E,F1,[],whole,(I1.cap k cap).more hD,f8,Kp.upd hD,λj ds ej z=>?_,a8.nil,e2,rfl,Gs _⟩;obtain⟨v,v1,a,xs,rfl,_,_,ha,_⟩:=(I1.cap k cap).loc j _ ej;rw[v1]at z;cases z;rw[hD]at ha;cases ha
  .rintro i σ' acc H' hlt ⟨E',F3,done,rest,I2,hD2,k2,ow,hd2,e3,ew,hdi⟩;exact((ok H' (D::B)<|stab k2).1 i items[i]<|by simp[hlt]).1
  .rintro σ' acc H' ⟨E',F3,done,rest,I2,hD2,k2,ow,hd2,e3,ew,hdi⟩;exact(ok H' (D::B)<|stab k2).2
  .rintro i σ' acc H' hlt ⟨E',F3,done,rest,I2,hD2,k2,ow,hd2,e3,ew,hdi⟩ x H2 y R hR;obtain⟨s2,hx⟩:=((ok H' (D::B)<|stab k2).1 i items[i]<|by simp[hlt]).2 x H2 y;have hx':=hx I2.bk;rw[IF hlt,V8]at e3;obtain⟨E4,e4,e3⟩:=bS9 e3;obtain⟨⟨b,F5⟩,e5,e3⟩:=bS9 e3;have I3:SitE K G (D::B) E' F3 σ' H2:=I2.step (Kp.same s2)<|I2.fd.same s2;refine hg G (D::B) E' F3 σ' H2 x items[i] E4 _ I3 hx' e4 λσ4 I4 fr=>?_
   have ow4:∀(j:Nat) (ds:List Ac),E4[j]? = some (some<|DV.own ds)->σ4[j]? ≠ some (some<|V.ref D):=λj ds ej=>by
    obtain⟨a1,a2⟩:=fr j λy z=>by rw[ej]at z;cases z
    rw[a2];exact ow j ds<|a1▸ej
   refine ht G (D::B) E4 F3 σ4 H2 _ b F5 I4 e5 λH5 k5 f5=>?_
   have kall:Kp (j8 K G) H1 H5:=(k2.trans<|Kp.same s2).trans k5;have I5:SitE K G (D::B) E4 F5 σ4 H5:=I4.step k5 f5;have hD5:H5 D=some (.lst acc):=k5 D _ (s2 D _ hD2) hfD;have hd5:a8 K (hid H5 (D::B)) done acc:=(hd2.same<|(Kp.same s2).hid (fp:=[])<|by simp).same<|k5.hid I4.fB;cases b with
   | false =>
    exact⟨hD5,hR _ _ _ ⟨E4,F5,done,rest,I5,hD5,kall,ow4,hd5,e3,ew,by omega⟩⟩
   | true =>
    obtain⟨⟨yd,F6⟩,e6,e3⟩:=bS9 e3;obtain⟨⟨zs,F7⟩,e7,e3⟩:=bS9 e3;cases e3;refine he G (D::B) E4 F5 σ4 H5 _ yd F6 I5 e6 λv H6 k6 f6 h6=>?_
    have hD6:H6 D=some (.lst acc):=k6 D _ hD5 hfD;have I6:SitE K G (D::B) E4 F6 σ4 H6:=I5.step k6 f6;have hd6:=hd5.same<|k6.hid I5.fB;have hlen:acc.length<LM:=by rw[hd2.length];omega
    refine⟨hD6,hlen,hR _ _ _ ⟨E4,F6,done++[yd],zs,I6.wr hfD ow4 hD6,f8,λb o eb nb=>?_,ow4,?_,e7,by rw[ew];simp,by simp;omega⟩⟩
    .have:=k6 b o (kall b o eb nb) nb;rw[d7];exact this;intro z;subst z;rw[hD]at eb;cases eb
    .rw[aL Gx];exact hd6.snoc h6
  .rintro σ' acc H' ⟨E',F3,done,rest,I2,hD2,k2,ow,hd2,e3,ew,hdi⟩;rw[Jq,V8]at e3;cases e3;rw[HE]at ew;subst ew;exact q D acc H' (k1.none hD hfD) hD2 (k1.trans k2) I2.fd hd2
 .cases e
def BR {wi:TI}{mi:DE->M (List Ac)}{k:Nat}{cap:List Nat}{g:TG}{bd:Ac->DE->Option DE}{tt:TT}{mt:DE->M Bool}{me:DE->M Ac}(hi:TIs K wi mi)(hg:TGd K g bd)(ht:TTd K tt mt)(he:TEd K te me) :
  TEd K (tLC wi k cap g tt te) (sLC mi k cap bd mt me):=λG B E F σ H Q d F' I e q=>by
 obtain⟨ds,rfl,ef⟩:∃ds,d = .list ds/\fLC mi k cap bd mt me E F=some (ds,F'):=by
  obtain⟨⟨items,F1⟩,e1,e⟩:=bS9 e;split at e
  .rename_i hsz;obtain⟨⟨whole,F2⟩,e2,e⟩:=bS9 e;cases e;refine⟨whole,rfl,?_⟩;unfold fLC;rw[e1,GV,Gp hsz,e2];rfl
  .cases e
 exact xV hi hg ht he G B E F σ H Q ds F' I ef λz ws H' hz hw k1 f1 hd=>q _ H' k1 f1 (b7.lst (by rw[i4<|I.bk.nin hz];exact hw)<|hd.same<|N8 λb hb=>Gq _ hb)
def cA {elt:LK}{ifs:List LK}{scope:LH}(osc:LH)(N:List Str){k:Nat}{cap:List Nat}{wi:TI}{g:TG}{tt:TT}{mi:DE->M (List Ac)}{bd:Ac->DE->Option DE}{mt:DE->M Bool}{me:DE->M Ac}
  (hi:Eib K X tg iter wi mi)
  (hg:∀{cl C ex pins s H},Eg K (cxC X N scope cl C ex pins s H) tg g bd)
  (ht:∀{cl C ex pins s H},Ets K (cxC X N scope cl C ex pins s H) ifs tt mt)
  (he:∀{cl C ex pins s H},Ev K (cxC X N scope cl C ex pins s H) elt te me)
  (hc:X.calm=true:=by rfl) (hosc:X.env.scope=osc:=by rfl) (hcap:Caps X.N osc N k cap scope:=by exact {})
  (hs:∀x,Ma iter X.env x=pure x:=by intro _;rfl) :
  Ev K X (.ListComp elt [⟨tg,iter,ifs,0⟩] scope pos) (tLC wi k cap g tt te) (sLC mi k cap bd mt me) :=
 ⟨xR hc hosc hcap hi.pi (λ_ _ _ _ _ _=>hg.pg) (λ_ _ _ _ _ _=>ht.pts) (λ_ _ _ _ _ _=>he.pe) hs,
  BR hi.ok (@hg [] 0 [] [] X.s₀ X.H₀).ok (@ht [] 0 [] [] X.s₀ X.H₀).ok (@he [] 0 [] [] X.s₀ X.H₀).ok⟩
end
end
section
section
variable [Feeds]
inductive Out where
 | nx (E:DE) | rt (d:Ac) | bk (E:DE) | ct (E:DE)
def W5 (B0:List LA)(H0:Hp)(E:DE)(σ:St):Prop:=∀(i c:Nat) (ps:List (Ac×Ac)) (a:LA),E[i]? = some (some<|DV.dic true c ps)->σ[i]? = some (some<|V.ref a)->(H0 a=none/\a ∉ B0)/\∀(j:Nat) (w':Bool) (c':Nat) (ps':List (Ac×Ac)),E[j]? = some (some<|DV.dic w' c' ps')->σ[j]? = some (some<|V.ref a)->i=j
def W5.of {B0:List LA}{H0:Hp}{E E':DE}{σ σ':St}(h:W5 B0 H0 E σ)(fr:∀(i:Nat) (w:Bool) (c:Nat) (ps:List (Ac×Ac)),E'[i]? = some (some<|DV.dic w c ps)->E'[i]? = E[i]? /\ σ'[i]? = σ[i]?):W5 B0 H0 E' σ':=λi c ps a ei si=>by
 obtain⟨a1,a2⟩:=fr i _ _ _ ei;obtain⟨h1,h2⟩:=h i c ps a (a1▸ei)<|a2▸si;refine⟨h1,λj w' c' ps' ej sj=>?_⟩;obtain⟨b1,b2⟩:=fr j _ _ _ ej;exact h2 j w' c' ps' (b1▸ej)<|b2▸sj
def W5.set {B0:List LA}{H0:Hp}{E:DE}{σ:St}(h:W5 B0 H0 E σ){i:Nat}{x:DV}{y:Option V}(hx:∀w c ps,x≠DV.dic w c ps):W5 B0 H0 (E.set i<|some x) (σ.set i y):=h.of λj w c ps ej=>by
 by_cases hj:i=j
 .subst hj;by_cases hl:i<E.length
  .rw[GA hl]at ej;cases ej;exact absurd rfl<|hx w c ps
  .rw[HS (by rw[Hn];omega)]at ej;cases ej
 .exact⟨Gu hj,Gu hj⟩
def W5.set1 {B0:List LA}{H0:Hp}{E:DE}{σ:St}(h:W5 B0 H0 E σ){i:Nat}{x:DV}(hx:∀w c ps,x≠DV.dic w c ps):W5 B0 H0 (E.set i<|some x) σ:=h.of λj w c ps ej=>by
 by_cases hj:i=j
 .subst hj;by_cases hl:i<E.length
  .rw[GA hl]at ej;cases ej;exact absurd rfl<|hx w c ps
  .rw[HS (by rw[Hn];omega)]at ej;cases ej
 .exact⟨Gu hj,rfl⟩
structure Sit (K:Fg) (G:GF) (B0:List LA) (H0:Hp) (E:DE) (F:FS) (σ:St) (H:Hp):Prop where
 ex:∃B,(∀b∈B0,b∈B)/\(∀b∈B,b∈B0\/H0 b=none)/\SitE K G B E F σ H
 fB:∀b∈j8 K G,b∈B0
 kp:Kp (j8 K G) H0 H
 own:∀(i:Nat) (ds:List Ac) (a:LA),E[i]? = some (some<|DV.own ds)->σ[i]? = some (some<|V.ref a)->H0 a=none/\a ∉ B0
 inj:∀(i j:Nat) (ds es:List Ac) (a:LA),E[i]? = some (some<|DV.own ds)->E[j]? = some (some<|DV.own es)->σ[i]? = some (some<|V.ref a)->σ[j]? = some (some<|V.ref a)->i=j
 dic:W5 B0 H0 E σ
def Bs (K:Fg)(G:GF)(B0:List LA)(H0:Hp)(F:FS)(D:Ends):Out->Prop
 | .nx E=>∀σ H,Sit K G B0 H0 E F σ H->D.nx σ H
 | .bk E=>∀σ H,Sit K G B0 H0 E F σ H->D.bk σ H
 | .ct E=>∀σ H,Sit K G B0 H0 E F σ H->D.ct σ H
 | .rt d=>∀v H,Kp (j8 K G) H0 H->FAt K G H F->b7 K (hid H B0) d v->D.rt v H
def TSd (K:Fg)(ts:TS)(m:DE->M Out):Prop:=∀(G:GF) (B0:List LA) (H0:Hp) (E:DE) (F:FS) (σ:St) (H:Hp) (D:Ends) (r:Out) (F':FS),Sit K G B0 H0 E F σ H->m E F=some (r,F')->Bs K G B0 H0 F' D r->ts D σ H
structure Ss (K:Fg) (X:Cx) (st:LJ) (ts:TS) (m:DE->M Out):Prop where
 ps:PS X st ts
 ok:TSd K ts m
structure Sss (K:Fg) (X:Cx) (sts:List LJ) (ts:TS) (m:DE->M Out):Prop where
 ps:PSs X sts ts
 ok:TSd K ts m
variable {K:Fg}{X:Cx}{a b c e tg iter:LK}{es:List LK}{st:LJ}{sts rest:List LJ}{ta tb te:TE}{ma mb m:DE->M Ac}{t u:TS}{mt mu:DE->M Out}{pos pos' p p2:Pos}
def Sit.step {G:GF}{B0:List LA}{H0:Hp}{E:DE}{F F':FS}{σ:St}{H H':Hp}(S:Sit K G B0 H0 E F σ H)(k:Kp (j8 K G) H H')(f:FAt K G H' F'):Sit K G B0 H0 E F' σ H':=by
 obtain⟨B,s,sn,I⟩:=S.ex;exact⟨⟨B,s,sn,I.step k f⟩,S.fB,S.kp.trans k,S.own,S.inj,S.dic⟩
def mNx:DE->M Out:=λE F=>some (.nx E,F)
def mSq (a b:DE->M Out):DE->M Out:=λE F=>(a E F).bind λp=>match p.1 with
 | .nx E1=>b E1 p.2
 | o=>some (o,p.2)
def au:Sss K X [] rV mNx:=⟨dz,λG B0 H0 E F σ H D r F' S e q=>by cases e;exact q σ H S⟩
def c6 (h1:Ss K X st t mt)(h2:Sss K X rest u mu):Sss K X (st::rest) (rQ t u) (mSq mt mu):=⟨y8 h1.ps h2.ps,λG B0 H0 E F σ H D r F' S e q=>by
 obtain⟨⟨o,F1⟩,e1,e⟩:=bS9 e;refine h1.ok G B0 H0 E F σ H _ o F1 S e1 ?_;cases o with
 | nx E1=>exact λσ' H' S'=>h2.ok G B0 H0 E1 F1 σ' H' D r F' S' e q
 | rt d=>cases e;exact q
 | bk E1=>cases e;exact q
 | ct E1=>cases e;exact q⟩
def k8 (h1:Ss K X st t mt):Sss K X [st] t mt:=⟨Z7 h1.ps,h1.ok⟩
def mRt (a:DE->M Ac):DE->M Out:=λE F=>(a E F).bind λp=>some (.rt p.1,p.2)
def A7 (h:Ev K X e te m):Ss K X (.Return (some e) pos) (Aj te) (mRt m):=⟨bu h.pe,λG B0 H0 E F σ H D r F' S e q=>by
 obtain⟨⟨d,F1⟩,e1,e⟩:=bS9 e;cases e;obtain⟨B,s,sn,I⟩:=S.ex;exact h.ok G B E F σ H _ d F1 I e1 λv H1 k1 f1 h1=>q v H1 (S.kp.trans k1) f1<|h1.same<|N8 s⟩
def gO (i:Nat){x:Str}(hN:X.N[i]? = some x:=by rfl)(hv:Vis X.env.scope x:=by first | exact Or.inl rfl | exact Or.inr (Or.inl rfl) | exact Or.inr<|Or.inr rfl)(hd:(x == ("__debug__":Str))=false:=by decide)
  (hcd:(x == ("__classdict__":Str))=false:=by decide):Ss K X (.Return (some<|.Name x p) pos) (Aj<|W0 i) (mRt<|sW i):=⟨bu<|Q3 hN hv hd hcd,λG B0 H0 E F σ H D r F' S e q=>by
 obtain⟨⟨d,F1⟩,e1,e⟩:=bS9 e;cases e;obtain⟨B,s,sn,I⟩:=S.ex;unfold sW at e1;split at e1
 .rename_i x hx;cases e1;obtain⟨v,h1,h2⟩:=I.loc i _ hx;exact⟨v,h1,q v H S.kp I.fd<|b7.same h2<|N8 s⟩
 .rename_i x hx;cases e1;obtain⟨v,h1,p,xs,rfl,hB,hf,hp,hd⟩:=I.loc i _ hx;obtain⟨n1,n2⟩:=S.own i x p hx h1;exact⟨_,h1,q _ H S.kp I.fd<|b7.lst (by rw[i4 n2];exact hp)<|hd.same<|N8 s⟩
 .cases e1⟩
def y3 (i:Nat)(a:DE->M Ac):DE->M Out:=λE F=>(a E F).bind λp=>(bN i p.1 E).bind λE1=>some (.nx E1,p.2)
def Sit.bind {G:GF}{B0 B:List LA}{H0:Hp}{E E':DE}{F F':FS}{σ σ':St}{H:Hp}(S:Sit K G B0 H0 E F σ H)(s:∀b∈B0,b∈B)(sn:∀b∈B,b∈B0\/H0 b=none)(I:SitE K G B E' F' σ' H)(fr:∀i:Nat,(∀y,E'[i]? ≠ some (some<|.dat y))->E'[i]? = E[i]? /\ σ'[i]? = σ[i]?):Sit K G B0 H0 E' F' σ' H:=by
 refine⟨⟨B,s,sn,I⟩,S.fB,S.kp,λi ds a ei si=>?_,λi j ds es a ei ej si sj=>?_,S.dic.of λi w c ps ei=>fr i λy z=>by rw[ei]at z;cases z⟩
 .obtain⟨a1,a2⟩:=fr i λy z=>by rw[ei]at z;cases z
  exact S.own i ds a (a1▸ei)<|a2▸si
 .obtain⟨a1,a2⟩:=fr i λy z=>by rw[ei]at z;cases z
  obtain⟨b1,b2⟩:=fr j λy z=>by rw[ej]at z;cases z
  exact S.inj i j ds es a (a1▸ei) (b1▸ej) (a2▸si)<|b2▸sj
def nC {g:TG}{bd:Ac->DE->Option DE}(he:TEd K te m)(hg:TGd K g bd):TSd K (X3 te g) (λE F=>(m E F).bind λp=>(bd p.1 E).bind λE1=>some (.nx E1,p.2)):=λG B0 H0 E F σ H D r F' S e q=>by
 obtain⟨⟨d,F1⟩,e1,e⟩:=bS9 e;obtain⟨E1,e2,e⟩:=bS9 e;cases e;obtain⟨B,s,sn,I⟩:=S.ex;refine he G B E F σ H _ d F1 I e1 λv H1 k1 f1 h1=>?_
 have S1:=S.step k1 f1;exact hg G B E F1 σ H1 v d E1 _ (I.step k1 f1) h1 e2 λσ' I' fr=>q σ' H1<|S1.bind s sn I' fr
def ik (i:Nat):TGd K (E9 i) (bN i):=λG B E F σ H x d E' Q I h e q=>by
 unfold bN at e;split at e
 .rename_i hl;cases e;refine q _ (I.set h hl) λj hj=>?_
  by_cases hij:i=j
  .subst hij;exact absurd (GA hl)<|hj d
  .rw[Gu hij,Gu hij];exact⟨rfl,rfl⟩
 .cases e
def m4 (i:Nat){x:Str}(hN:X.N.Nodup)(he:Ev K X e te m)(hi:X.N[i]? = some x:=by rfl)(hx:Loc X.env.scope x:=by first | exact Or.inl rfl | exact Or.inr rfl)(hs:LX e (some<|.Name x pos') pos.line X.env=pure false:=by rfl)(hf:X.fn x=true\/X.env.scope.names.lookup x=some .local:=by first | exact .inl rfl | exact .inr rfl | assumption) :
  Ss K X (.Assign [.Name x pos'] e pos) (X3 te<|E9 i) (y3 i m):=⟨Y0 hN hi hx he.pe hs hf,nC he.ok<|ik i⟩
def bO (bd:Ac->DE->Option DE)(a:DE->M Ac):DE->M Out:=λE F=>(a E F).bind λp=>(bd p.1 E).bind λE1=>some (.nx E1,p.2)
def Q1 {g:TG}{bd:Ac->DE->Option DE}(he:Ev K X e te m)(hg:Eg K X tg g bd)(hs:swapsWithSole [tg] e pos.line X.env=pure false:=by rfl)(hw:swappedStores [tg] e X.env=pure none:=by rfl)
  (h1:(Mb [tg] X.env).map (·.2)=[assign tg X.env]:=by rfl):Ss K X (.Assign [tg] e pos) (X3 te g) (bO bd m):=⟨cx he.pe hg.pg hs hw h1,nC he.ok hg.ok⟩
def jJ (i:Nat){y:Str}{py:Pos}{elt:LK}{ifs:List LK}{scope:LH}(osc:LH)(N:List Str){k:Nat}{cap:List Nat}{wi:TI}{g:TG}{tt:TT}{mi:DE->M (List Ac)}{bd:Ac->DE->Option DE}{mt:DE->M Bool}{me:DE->M Ac}
  (hN:X.N.Nodup) (hi:Eib K X tg iter wi mi)
  (hg:∀{cl C ex pins s H},Eg K (cxC X N scope cl C ex pins s H) tg g bd)
  (ht:∀{cl C ex pins s H},Ets K (cxC X N scope cl C ex pins s H) ifs tt mt)
  (he:∀{cl C ex pins s H},Ev K (cxC X N scope cl C ex pins s H) elt te me)
  (hc:X.calm=true:=by rfl) (hosc:X.env.scope=osc:=by rfl) (hcap:Caps X.N osc N k cap scope:=by exact {})
  (hix:X.N[i]? = some y:=by rfl) (hLy:Loc X.env.scope y:=by first | exact Or.inl rfl | exact Or.inr rfl)
  (hs:∀x,Ma iter X.env x=pure x:=by intro _;rfl) (hfy:X.fn y=true\/X.env.scope.names.lookup y=some .local:=by first | exact .inl rfl | exact .inr rfl | assumption)
  (hsw:LX (.ListComp elt [⟨tg,iter,ifs,0⟩] scope p) (some<|.Name y py) pos.line X.env=pure true:=by rfl) :
  Ss K X (.Assign [.Name y py] (.ListComp elt [⟨tg,iter,ifs,0⟩] scope p) pos) (X3 (tLC wi k cap g tt te)<|E9 i) (y3 i<|sLC mi k cap bd mt me) :=
 ⟨jL hN hix hLy hc hosc hcap hi.pi (λ_ _ _ _ _ _=>hg.pg) (λ_ _ _ _ _ _=>ht.pts) (λ_ _ _ _ _ _=>he.pe) hs hfy hsw,
  nC (BR hi.ok (@hg [] 0 [] [] X.s₀ X.H₀).ok (@ht [] 0 [] [] X.s₀ X.H₀).ok (@he [] 0 [] [] X.s₀ X.H₀).ok) (ik i)⟩
def mIf (c:DE->M Bool)(a b:DE->M Out):DE->M Out:=λE F=>(c E F).bind λp=>if p.1=true then a E p.2 else b E p.2
def cL {x y:List LJ}{tt:TT}{mc:DE->M Bool}(hc:Et K X c tt mc)(ha:Sss K X x t mt)(hb:Sss K X y u mu):Ss K X (.If c x y pos) (zP tt t u) (mIf mc mt mu):=⟨nH hc.pt ha.ps hb.ps,λG B0 H0 E F σ H D r F' S e q=>by
 obtain⟨⟨d,F1⟩,e1,e⟩:=bS9 e;obtain⟨B,s,sn,I⟩:=S.ex;refine hc.ok G B E F σ H _ d F1 I e1 λH1 k1 f1=>?_
 cases d with
 | true=>exact ha.ok G B0 H0 E F1 σ H1 D r F' (S.step k1 f1) e q
 | false=>exact hb.ok G B0 H0 E F1 σ H1 D r F' (S.step k1 f1) e q⟩
end
end
section
section
variable [Feeds]{K:Fg}{X:Cx}{a b c e tg iter:LK}{es:List LK}{st:LJ}{sts rest:List LJ}{ta tb te:TE}{ma mb m:DE->M Ac}{t u:TS}{mt mu:DE->M Out}{pos pos' p p2:Pos}
def P3 (H:Hp)(B B0:List LA):Hp:=hid H (B.filter λb=>decide (b ∉ B0))
def L6 {H:Hp}{B B0:List LA}{b:LA}(h1:b∈B)(h2:b ∉ B0):P3 H B B0 b=none:=x6 (GU.2 ⟨h1,by simpa using h2⟩)
def O0 {H:Hp}{B B0:List LA}{b:LA}(h:b ∉ B\/b∈B0):P3 H B B0 b=H b:=i4 λz=>by
 obtain⟨z1,z2⟩:=GU.1 z;rcases h with h | h
 .exact h z1
 .simp at z2;exact z2 h
section
variable {G:GF}{B0 B:List LA}{H0:Hp}{E E2:DE}{F F2:FS}{σ σ2:St}{H H2:Hp}
def Sit.base (S:Sit K G B0 H0 E F σ H)(s:∀b∈B0,b∈B)(sn:∀b∈B,b∈B0\/H0 b=none)(I:SitE K G B E F σ H):Sit K G B0 (P3 H B B0) E F σ H:=by
 refine⟨⟨B,s,λb hb=>?_,I⟩,S.fB,Kp.same d4,λi ds a ei si=>?_,S.inj,λi c ps a ei si=>?_⟩
 .by_cases h:b∈B0
  .exact .inl h
  .exact .inr<|L6 hb h
 .obtain⟨v,v1,a',xs,rfl,hB,_⟩:=I.loc i _ ei;rw[v1]at si;cases si;exact⟨L6 hB (S.own i ds _ ei v1).2,(S.own i ds _ ei v1).2⟩
 .obtain⟨v,v1,a',xs,rfl,hB,_⟩:=I.loc i _ ei;rw[v1]at si;cases si;obtain⟨⟨_,h2⟩,h3⟩:=S.dic i c ps _ ei v1;exact⟨⟨L6 hB h2,h2⟩,h3⟩
def qC (S:Sit K G B0 H0 E F σ H)(sn:∀b∈B,b∈B0\/H0 b=none)(k:Kp (j8 K G) (P3 H B B0) H2):Kp (j8 K G) H0 H2:=λb o e n=>by
 refine k b o ?_ n;rw[O0]
 .exact S.kp b o e n
 .by_cases hb:b∈B
  .rcases sn b hb with h | h
   .exact .inr h
   .rw[h]at e;cases e
  .exact .inl hb
def Sit.unbase (S:Sit K G B0 H0 E F σ H)(sn:∀b∈B,b∈B0\/H0 b=none)(S2:Sit K G B0 (P3 H B B0) E2 F2 σ2 H2):Sit K G B0 H0 E2 F2 σ2 H2:=by
 have no:∀b,P3 H B B0 b=none->b∈B0\/H0 b=none:=λb e=>by
  by_cases hb:b∈B
  .exact sn b hb
  .rw[O0<|.inl hb]at e;by_cases hf:b∈j8 K G
   .exact .inl<|S.fB b hf
   .cases q:H0 b with
    | none=>exact .inr rfl
    | some o=>rw[S.kp b o q hf]at e;cases e
 obtain⟨B2,s2,sn2,I2⟩:=S2.ex;refine⟨⟨B2,s2,λb hb=>?_,I2⟩,S.fB,qC S sn S2.kp,λi ds a ei si=>?_,S2.inj,λi c ps a ei si=>?_⟩
 .rcases sn2 b hb with h | h
  .exact .inl h
  .exact no b h
 .obtain⟨h1,h2⟩:=S2.own i ds a ei si;exact⟨(no a h1).resolve_left h2,h2⟩
 .obtain⟨⟨h1,h2⟩,h3⟩:=S2.dic i c ps a ei si;exact⟨⟨(no a h1).resolve_left h2,h2⟩,h3⟩
end
noncomputable def K9 (bd:Ac->DE->Option DE)(body:DE->M Out):List Ac->DE->M Out
 | [],E,F=>some (.nx E,F)
 | d::r,E,F=>(bd d E).bind λE1=>(body E1 F).bind λp=>match p.1 with
  | .nx E2=>K9 bd body r E2 p.2
  | .ct E2=>K9 bd body r E2 p.2
  | .bk E2=>some (.nx E2,p.2)
  | .rt d=>some (.rt d,p.2)
def bE (mi:DE->M (List Ac))(bd:Ac->DE->Option DE)(body:DE->M Out):DE->M Out:=λE F=>(mi E F).bind λp=>K9 bd body p.1 E p.2
def Bq {wi:TI}{g:TG}{tb:TS}{mi:DE->M (List Ac)}{bd:Ac->DE->Option DE}{mb:DE->M Out}(hi:TId K wi mi)(hg:TGd K g bd)(hb:TSd K tb mb):TSd K (rM wi g tb) (bE mi bd mb):=λG B0 H0 E F σ H D r F' S e q=>by
 obtain⟨⟨items,F1⟩,e1,e⟩:=bS9 e;obtain⟨B,s,sn,I⟩:=S.ex;refine hi G B E F σ H _ items F1 I e1 λJ H1 k1 f1 ok=>?_
 have S1:=S.step k1 f1;have I1:=I.step k1 f1;have S1':=S1.base s sn I1;have qn:∀{E2:DE} {F2:FS},r = .nx E2->F'=F2->∀σ2 H2,Sit K G B0 (P3 H1 B B0) E2 F2 σ2 H2->D.nx σ2 H2:=λ{E2 F2} er ef σ2 H2 S2=>by
  subst er ef;exact q σ2 H2<|S1.unbase sn S2
 have stab:∀{E2:DE} {F2:FS} {σ2:St} {H2:Hp} {B2:List LA},Sit K G B0 (P3 H1 B B0) E2 F2 σ2 H2->(∀b∈B2,b∈B0\/P3 H1 B B0 b=none)->d9 (hid H1 B) (hid H2 B2):=λ{E2 F2 σ2 H2 B2} S2 sn2 b o eb=>by
  by_cases hB:b∈B
  .rw[x6 hB]at eb;cases eb
  .rw[i4 hB]at eb;have ec:P3 H1 B B0 b=some o:=by rw[O0<|.inl hB];exact eb
   rw[i4 λz=>(sn2 b z).elim (λh=>hB<|s b h) λh=>by rw[h]at ec;cases ec];exact S2.kp b o ec λz=>hB<|s b<|S.fB b z
 refine⟨λi m σ H=>m=items.length-i/\i<=items.length/\∃E F,Sit K G B0 (P3 H1 B B0) E F σ H/\K9 bd mb (items.drop i) E F=some (r,F'),⟨items.length,by simp,HA _,E,F1,S1',e⟩,?_⟩;rintro i mm σ2 H2 ⟨rfl,hi2,E2,F2,S2,e2⟩;obtain⟨B2,s2,sn2,I2⟩:=S2.ex;have st2:=stab S2 sn2;by_cases hlt:i<items.length
 .refine .inr ⟨((ok H2 B2 st2).1 i items[i]<|by simp[hlt]).1,λσ' H'=>i+1<=items.length/\∃E F,Sit K G B0 (P3 H1 B B0) E F σ' H'/\K9 bd mb (items.drop<|i+1) E F=some (r,F'),λσ' H' ⟨h1,h2⟩=>⟨items.length-(i+1),by omega,rfl,h1,h2⟩,λx H3 y=>?_⟩;obtain⟨s3,hx⟩:=((ok H2 B2 st2).1 i items[i]<|by simp[hlt]).2 x H3 y;have hx:=hx I2.bk;rw[IF hlt,K9]at e2;obtain⟨E4,e4,e2⟩:=bS9 e2;obtain⟨⟨o,F5⟩,e5,e2⟩:=bS9 e2;have S3:=S2.step (Kp.same s3)<|I2.fd.same s3;have I3:SitE K G B2 E2 F2 σ2 H3:=I2.step (Kp.same s3)<|I2.fd.same s3;refine hg G B2 E2 F2 σ2 H3 x items[i] E4 _ I3 hx e4 λσ4 I4 fr=>?_
  refine hb G B0 (P3 H1 B B0) E4 F2 σ4 H3 _ o F5 (S3.bind s2 sn2 I4 fr) e5 ?_;cases o with
  | nx E6=>exact λσ6 H6 S6=>⟨hlt,E6,F5,S6,e2⟩
  | ct E6=>exact λσ6 H6 S6=>⟨hlt,E6,F5,S6,e2⟩
  | bk E6=>cases e2;exact λσ6 H6 S6=>qn rfl rfl σ6 H6 S6
  | rt d=>cases e2;exact λv H6 k6 f6 h6=>q v H6 (qC S1 sn k6) f6 h6
 .have ei:i=items.length:=by omega
  subst ei;rw[Jq,K9]at e2;cases e2;exact .inl ⟨(ok H2 B2 st2).2,qn rfl rfl σ2 H2 S2⟩
def T8 {body:List LJ}{wi:TI}{g:TG}{tb:TS}{mi:DE->M (List Ac)}{bd:Ac->DE->Option DE}{mb:DE->M Out}(hc:X.calm=true)(hi:Ei K X tg iter wi mi)(hg:Eg K X tg g bd)(hb:Sss K X body tb mb)(hp:PassesOwn (model X.prog X.w) X.A X.env X.xe:=by exact PassesOwn.never)
  (hs:∀x,Ma iter X.env x=pure x:=by intro _;rfl):Ss K X (.For tg iter body [] pos) (rM wi g tb) (bE mi bd mb):=⟨sG hp hc hi.pi hg.pg hb.ps hs,Bq hi.ok hg.ok hb.ok⟩
structure Ef (K:Fg) (X:Cx) (e:LK) (te:TE) (m:DE->M (List Ac)):Prop where
 pe:PE X e te
 ok:TFd K te m
def jw {H:Hp}{B:List LA}{p:LA}{o:HO}(hp:H p=none):d9 (hid H B) (hid (upd H p o) (p::B)):=λb u e=>by
 by_cases hb:b∈B
 .rw[x6 hb]at e;cases e
 .rw[i4 hb]at e;have hne:=f9 e hp;rw[i4 (by simp[hne,hb]),d7 hne];exact e
def aH (a:DE->M (List Ac)):DE->M (List Ac):=λE F=>(a E F).bind λp=>if p.1.length<=LM then some (p.1,p.2) else none
def N3 {t:TA}{ms:DE->M (List Ac)}(h:Ea K X es t ms):Ef K X (.List es pos) (ou t) (aH ms):=⟨bL h.pa,λG B E F σ H Q d F' I e q=>by
 obtain⟨⟨x,F1⟩,e1,e⟩:=bS9 e;split at e
 .rename_i hl;cases e;refine h.ok G B E F σ H _ x F1 I e1 λvs H1 k1 f1 h1=>⟨by rw[h1.length];exact hl,λp hp=>?_⟩
  have hnf:p ∉ j8 K G:=λz=>(w4 I.bk k1 f1).nin hp (I.fB p z)
  exact q p vs _ (k1.none hp hnf) f8 (k1.trans<|Kp.upd hp) (f1.same<|d9.upd hp) (h1.same<|jw hp)
 .cases e⟩
def eC (i:Nat)(a:DE->M (List Ac)):DE->M Out:=λE F=>(a E F).bind λp=>if i<E.length then some (.nx<|E.set i<|some<|.own p.1,p.2) else none
def Be {i:Nat}{mf:DE->M (List Ac)}(he:TFd K te mf):TSd K (X3 te<|E9 i) (eC i mf):=λG B0 H0 E F σ H D r F' S e q=>by
 obtain⟨⟨ds,F1⟩,e1,e⟩:=bS9 e;split at e
 .rename_i hl;cases e;obtain⟨B,s,sn,I⟩:=S.ex;refine he G B E F σ H _ ds _ I e1 λa vs H1 hn ha k1 f1 h1=>?_
  have I1:=I.step k1 f1;have hsl:i < σ.length:=by rw[<-I.ln];exact hl
  have haB:a ∉ B:=I.bk.nin hn;have haf:a ∉ j8 K G:=λz=>haB<|I.fB a z
  have h0:H0 a=none:=S.kp.none hn haf;have sm:d9 (hid H B) (hid H1 (a::B)):=λb o eb=>by
   by_cases hb:b∈B
   .rw[x6 hb]at eb;cases eb
   .rw[i4 hb]at eb;have hne:=f9 eb hn;rw[i4<|by simp[hne,hb]];exact k1 b o eb λz=>hb<|I.fB b z
  refine q _ H1 ⟨⟨a::B,λb hb=>Gq _<|s b hb,λb hb=>?_,⟨f1,λb hb=>Gq _<|I.fB b hb,λb hb=>?_,by rw[Hn,Hn];exact I.ln,λj x ej=>?_⟩⟩,S.fB,S.kp.trans k1,λj es a' ej sj=>?_,λj k es es' a' ej ek sj sk=>?_,S.dic.set nofun⟩
  .rcases GK.1 hb with rfl | hb
   .exact .inr h0
   .exact sn b hb
  .rcases GK.1 hb with rfl | hb
   .exact⟨_,ha⟩
   .exact I1.bk b hb
  .by_cases hj:i=j
   .subst hj;rw[GA hl]at ej;cases ej;exact⟨.ref a,by rw[GA hsl],a,vs,rfl,Gx,haf,ha,h1⟩
   .rw[Gu hj]at ej;obtain⟨v,v1,v2⟩:=I.loc j x ej;refine⟨v,by rw[Gu hj];exact v1,?_⟩;cases x with
    | dat d=>exact b7.same (show b7 K (hid H B) d v from v2) sm
    | feed=>exact v2
    | fn _=>exact v2
    | adr _=>exact v2
    | own es =>
     obtain⟨a',xs',rfl,hB',hf',ha',hd'⟩:=v2;exact⟨a',xs',rfl,Gq _ hB',hf',k1 _ _ ha' hf',hd'.same sm⟩
    | dic w c ps =>
     obtain⟨a',xs',rfl,hB',hf',ha',hn',hd'⟩:=v2;exact⟨a',xs',rfl,Gq _ hB',hf',k1 _ _ ha' hf',hn',hd'.same sm⟩
  .by_cases hj:i=j
   .subst hj;rw[GA hsl]at sj;cases sj;exact⟨h0,λz=>haB<|s a z⟩
   .rw[Gu hj]at ej sj;exact S.own j es a' ej sj
  .have other:∀(j:Nat) (es:List Ac),i≠j->E[j]? = some (some<|DV.own es)->σ[j]? ≠ some (some<|V.ref a):=λj es _ ej z=>by
    obtain⟨v,v1,a',xs',rfl,hB',_⟩:=I.loc j _ ej;rw[v1]at z;cases z;exact haB hB'
   by_cases hj:i=j
   .by_cases hk:i=k
    .exact hj.symm.trans hk
    .subst hj;rw[GA hsl]at sj;cases sj;rw[Gu hk]at ek sk;exact absurd sk<|other k es' hk ek
   .rw[Gu hj]at ej sj;by_cases hk:i=k
    .subst hk;rw[GA hsl]at sk;cases sk;exact absurd sj<|other j es hj ej
    .rw[Gu hk]at ek sk;exact S.inj j k es es' a' ej ek sj sk
 .cases e
def aI (i:Nat){x:Str}{mf:DE->M (List Ac)}(hN:X.N.Nodup)(he:Ef K X e te mf)(hi:X.N[i]? = some x:=by rfl)(hx:Loc X.env.scope x:=by first | exact Or.inl rfl | exact Or.inr rfl)(hs:LX e (some<|.Name x pos') pos.line X.env=pure false:=by rfl)(hf:X.fn x=true\/X.env.scope.names.lookup x=some .local:=by first | exact .inl rfl | exact .inr rfl | assumption) :
  Ss K X (.Assign [.Name x pos'] e pos) (X3 te<|E9 i) (eC i mf):=⟨Y0 hN hi hx he.pe hs hf,Be he.ok⟩
end
end
section
section
variable [Feeds]{K:Fg}{X:Cx}{a b c e tg iter:LK}{es:List LK}{st:LJ}{sts rest:List LJ}{ta tb te:TE}{ma mb m:DE->M Ac}{t u:TS}{mt mu:DE->M Out}{pos pos' p p2:Pos}
section
variable {G:GF}{B0 B:List LA}{H0:Hp}{E:DE}{F:FS}{σ:St}{H:Hp}
def Sit.write {i:Nat}{ds ds':List Ac}{x:LA}{vs':List V}(S:Sit K G B0 H0 E F σ H)(s:∀b∈B0,b∈B)(sn:∀b∈B,b∈B0\/H0 b=none)(I:SitE K G B E F σ H)(ei:E[i]? = some (some<|DV.own ds))(si:σ[i]? = some (some<|V.ref x))
  (hd:a8 K (hid H B) ds' vs'):Sit K G B0 H0 (E.set i<|some<|.own ds') F σ (upd H x<|.lst vs'):=by
 have hl:i<E.length:=(GE.1 ei).1;obtain⟨v,v1,x',xs,rfl,hB,hf,hx,_⟩:=I.loc i _ ei;rw[si]at v1;cases v1;have e1:hid (upd H x<|.lst vs') B=hid H B:=aL hB;obtain⟨n1,n2⟩:=S.own i ds x ei si;refine⟨⟨B,s,sn,⟨I.fd.congr λb hb=>d7 (λz=>hb.elim (λhb=>hf<|z▸hb) λ⟨φ,q⟩=>by rw[z,hx]at q;cases q),I.fB,λb hb=>?_,by rw[Hn];exact I.ln,λj y ej=>?_⟩⟩,S.fB,λb o eb nb=>?_,λj es a' ej sj=>?_,λj k es es' a' ej ek sj sk=>?_,S.dic.set1 nofun⟩
 .by_cases h:b=x
  .subst h;exact⟨_,f8⟩
  .rw[d7 h];exact I.bk b hb
 .by_cases hj:i=j
  .subst hj;rw[GA hl]at ej;cases ej;exact⟨.ref x,si,x,vs',rfl,hB,hf,f8,by rw[e1];exact hd⟩
  .rw[Gu hj]at ej;obtain⟨w,w1,w2⟩:=I.loc j y ej;refine⟨w,w1,?_⟩;cases y with
   | dat d=>show b7 K (hid (upd H x<|.lst vs') B) d w;rw[e1];exact w2
   | feed=>exact w2
   | fn _=>exact w2
   | adr _=>exact w2
   | own es =>
    obtain⟨a',xs',rfl,hB',hf',ha',hd'⟩:=w2;have hne:a'≠x:=λz=>hj<|S.inj i j ds es x ei ej si<|z▸w1
    exact⟨a',xs',rfl,hB',hf',by rw[d7 hne];exact ha',by rw[e1];exact hd'⟩
   | dic w c ps =>
    obtain⟨a',xs',rfl,hB',hf',ha',hn',hd'⟩:=w2;have hne:a'≠x:=λz=>by rw[z,hx]at ha';cases ha'
    exact⟨a',xs',rfl,hB',hf',by rw[d7 hne];exact ha',hn',by rw[e1];exact hd'⟩
 .rw[d7]
  .exact S.kp b o eb nb
  .intro z;subst z;rw[n1]at eb;cases eb
 .by_cases hj:i=j
  .subst hj;exact S.own i ds a' ei sj
  .rw[Gu hj]at ej;exact S.own j es a' ej sj
 .have back:∀(j:Nat) (es:List Ac),(E.set i<|some<|.own ds')[j]? = some (some<|DV.own es)->∃es,E[j]? = some (some<|DV.own es):=λj es ej=>by
   by_cases hj:i=j
   .subst hj;exact⟨ds,ei⟩
   .rw[Gu hj]at ej;exact⟨es,ej⟩
  obtain⟨f1,ej'⟩:=back j es ej;obtain⟨f2,ek'⟩:=back k es' ek;exact S.inj j k f1 f2 a' ej' ek' sj sk
end
def V2 (E:DE)(i:Nat):Option (List Ac):=match E[i]? with
 | some (some<|.own ds)=>some ds
 | _=>none
def O9 {E:DE}{i:Nat}{ds:List Ac}(h:V2 E i=some ds):E[i]? = some (some<|DV.own ds):=by
 unfold V2 at h;split at h
 .rename_i q;cases h;exact q
 .cases h
noncomputable def vT (i:Nat)(v k:DE->M Ac):DE->M Out:=λE F=>(v E F).bind λp=>(k E p.2).bind λq=>(C1 q.1).bind λn=>(V2 E i).bind λds=>(ixN ds.length n).bind λj=>some (.nx<|E.set i<|some<|.own<|ds.set j p.1,q.2)
theorem a8.set {H:Hp}:∀{ds:List Ac} {xs:List V} {d:Ac} {v:V} (j:Nat),a8 K H ds xs->b7 K H d v->a8 K H (ds.set j d) (xs.set j v)
 | [],xs,d,v,j,h,h'=>by simp only[a8]at h;subst h;simp[a8]
 | e::ds,xs,d,v,0,h,h'=>by
  simp only[a8]at h;obtain⟨y,r,rfl,h1,h2⟩:=h;simp only[List.set_cons_zero,a8];exact⟨v,r,rfl,h',h2⟩
 | e::ds,xs,d,v,j+1,h,h'=>by
  simp only[a8]at h;obtain⟨y,r,rfl,h1,h2⟩:=h;simp only[List.set_cons_succ,a8];exact⟨y,r.set j v,rfl,h1,a8.set j h2 h'⟩
def zS (i:Nat){x:Str}{px:Pos}(hv:Ev K X e te m)(hk:Ev K X b tb mb)(hN:X.N[i]? = some x:=by rfl)(hvis:Vis X.env.scope x:=by first | exact Or.inl rfl | exact Or.inr (Or.inl rfl) | exact Or.inr<|Or.inr rfl)(hd:(x == ("__debug__":Str))=false:=by decide)(hcd:(x == ("__classdict__":Str))=false:=by decide)
  (ha:∀v,assign (.Subscript (.Name x px) b p) X.env v=(do
   let ov <-holding [v] (eval (.Name x px) X.env)
   let iv <-holding [v,ov] (eval b X.env)
   standAt p
   holding [v,ov,iv] (setItem ov iv v)
   release [v,ov,iv] []):=by intro _;rfl)
  (hs:swapsWithSole [.Subscript (.Name x px) b p] e pos.line X.env=pure false:=by rfl) (hw:swappedStores [.Subscript (.Name x px) b p] e X.env=pure none:=by rfl)
  (h1:(Mb [.Subscript (.Name x px) b p] X.env).map (·.2)=[assign (.Subscript (.Name x px) b p) X.env]:=by rfl) :
  Ss K X (.Assign [.Subscript (.Name x px) b p] e pos) (X3 te<|BW (W0 i) tb yh) (vT i m mb) :=
 ⟨cx hv.pe (ia (Q3 hN hvis hd hcd) hk.pe aM ha) hs hw h1,λG B0 H0 E F σ H D r F' S e q=>by
  obtain⟨⟨d,F1⟩,e1,e⟩:=bS9 e;obtain⟨⟨n,F2⟩,e2,e⟩:=bS9 e;obtain⟨k,e3,e⟩:=bS9 e;obtain⟨ds,e4,e⟩:=bS9 e;obtain⟨j,e5,e⟩:=bS9 e;cases e;obtain⟨B,s,sn,I⟩:=S.ex;have eo:=O9 e4;refine hv.ok G B E F σ H _ d F1 I e1 λv H1 k1 f1 h1=>?_
  have I1:=I.step k1 f1;obtain⟨w,w1,a,xs,rfl,hB,hf,hx,hdx⟩:=I1.loc i _ eo;refine⟨_,w1,hk.ok G B E F1 σ H1 _ n _ I1 e2 λu H2 k2 f2 h2=>?_⟩;have:=U2 e3;simp only at this;subst this;simp only[b7]at h2;subst h2;have I2:=I1.step k2 f2;have S2:=S.step (k1.trans k2) f2;have hd2:=hdx.same<|k2.hid I.fB;refine⟨a,xs,k,j,rfl,rfl,k2 a _ hx hf,by rw[hd2.length];exact e5,q σ _<|S2.write s sn I2 eo w1<|a8.set j hd2<|h1.same<|k2.hid I.fB⟩⟩
noncomputable def bF (i:Nat)(v:DE->M Ac):DE->M Out:=λE F=>(v E F).bind λp=>(V2 E i).bind λds=>if ds.length<LM then some (.nx<|E.set i<|some<|.own<|ds++[p.1],p.2) else none
def Bx {i:Nat}(hv:TEd K te m):TSd K (eR<|tBM K "list" aS (W0 i)<|u8 te N4) (bF i m):=λG B0 H0 E F σ H D r F' S e q=>by
 obtain⟨⟨d,F1⟩,e1,e⟩:=bS9 e;obtain⟨ds,e4,e⟩:=bS9 e;split at e
 .rename_i hl;cases e;obtain⟨B,s,sn,I⟩:=S.ex;have eo:=O9 e4;obtain⟨w,w1,a,xs,rfl,hB,hf,hx,hdx⟩:=I.loc i _ eo;refine⟨_,w1,.inl ⟨rfl,xs,SqL.of hx⟩,hv G B E F σ H _ d _ I e1 λu H2 k2 f2 h2=>?_⟩;have hd2:=hdx.same<|k2.hid I.fB;exact⟨a,xs,u,rfl,rfl,k2 a _ hx hf,by rw[hdx.length];exact hl,q σ _<|(S.step k2 f2).write s sn (I.step k2 f2) eo w1<|hd2.snoc h2⟩
 .cases e
def jq (K:Fg)(G:GF)(B:List LA)(H:Hp):List DV->List V->Prop
 | [],vs=>vs=[]
 | x::xs,vs=>∃v r,vs=v::r/\x.ow=false/\DVr K G B H x v/\jq K G B H xs r
def spD (K:Fg)(n:Nat)(f:List DV->M Ac):Sp:=λvs H Q _=>∃G B F args d F',vs.length=n/\(∀b∈j8 K G,b∈B)/\BOk H B/\FAt K G H F/\jq K G B H args vs/\f args F=some (d,F') /\
 ∀v H',Kp (j8 K G) H H'->FAt K G H' F'->b7 K (hid H' B) d v->Q v H'
def v5 (N:List Str)(args:List DV):DE:=args.map some++List.replicate (N.length-args.length) none
noncomputable def S4 (N:List Str)(m:DE->M Out):List DV->M Ac:=λargs F=>(m (v5 N args) F).bind λp=>match p.1 with
 | .rt d=>some (d,p.2)
 | .nx _=>some (.none,p.2)
 | _=>none
theorem jq.length {G:GF}{B:List LA}{H:Hp}:∀{args:List DV} {vs:List V},jq K G B H args vs->vs.length=args.length
 | [],vs,h=>by cases h;rfl
 | x::xs,vs,⟨v,r,e,_,_,h⟩=>by subst e;rw[GM,GM,h.length]
theorem jq.get {G:GF}{B:List LA}{H:Hp}:∀{args:List DV} {vs:List V} {i:Nat} {x:DV},jq K G B H args vs->args[i]? = some x->∃v,vs[i]? = some v/\x.ow=false/\DVr K G B H x v
 | [],vs,i,x,h,e=>by simp at e
 | y::xs,vs,i,x,⟨v,r,e1,h1,h2,h3⟩,e=>by
  subst e1;cases i with
  | zero=>simp at e;subst e;exact⟨v,rfl,h1,h2⟩
  | succ i=>simpa using h3.get (i:=i) (by simpa using e)
def bM {N:List Str}{args:List DV}{i:Nat}{x:DV}(h:(v5 N args)[i]? = some (some x)):args[i]? = some x:=by
 unfold v5 at h;by_cases hi:i<args.length
 .rw[ID (by simpa using hi),GC]at h;obtain⟨y,e1,e2⟩:=Hd.1 h;cases e2;exact e1
 .rw[HV (by simpa using hi),HW]at h;split at h <;> simp at h
def gf {G:GF}{B:List LA}{F:FS}{H:Hp}{N:List Str}{args:List DV}{vs:List V}(fB:∀b∈j8 K G,b∈B)(bk:BOk H B)(f:FAt K G H F)(h:jq K G B H args vs):Sit K G B H (v5 N args) F (L2.P1 N vs) H:=by
 have noown:∀(i:Nat) (ds:List Ac),(v5 N args)[i]? ≠ some (some<|DV.own ds):=λi ds e=>by
  obtain⟨v,_,n,_⟩:=h.get<|bM e;cases n
 refine⟨⟨B,λ_ z=>z,λb hb=>.inl hb,⟨f,fB,bk,by simp[v5,L2.P1,h.length],λi x e=>?_⟩⟩,fB,Kp.refl,λi ds a e _=>absurd e<|noown i ds,λi j ds es a e _ _ _=>absurd e<|noown i ds,λi c ps a e _=>by obtain⟨v,_,n,_⟩:=h.get<|bM e;cases n⟩;obtain⟨v,v1,_,v2⟩:=h.get<|bM e;refine⟨v,?_,v2⟩;have hi:i<vs.length:=(GE.1 v1).1;unfold L2.P1;rw[ID (by simpa using hi),GC,v1];rfl
variable {P:LD}{w:LF}{mg:Str->Option Lz}{base:LL}
def K4 {x qual:Str}{f:LA}{fd:LI}{N ps:List Str}{k:Nat}{m:DE->M Out}(Fn:Fun K x qual st f fd)(S:FnScope N ps (defScope st))
  (hbody:∀(cdv:Lz) (A:LG) (outer:List LQ) (s:LC) (H:Hp) (E:XK),Room k (A.deeper<|envOfC qual (defScope st) s.heap.objs.size f cdv) ->
   ∃ts,Sss K (Q9 CX0 P w K mg base N qual (defScope st) f cdv A outer s H E).nox (defBody st) ts m):FnOk P w K mg base CX0 (k+1) f fd ps (spD K ps.length<|S4 N m):=by
 refine Fn.ok S (λvs H Q E h=>?_) (λcdv A outer s H vs Q E hr h=>?_)
 .obtain⟨G,B,F,args,d,F',hl,_⟩:=h;exact hl
 .obtain⟨G,B,F,args,d,F',hl,fB,bk,fa,ha,hm,q⟩:=h;obtain⟨ts,hts⟩:=hbody cdv A outer s H E hr;refine⟨ts,hts.ps,?_⟩;obtain⟨⟨o,F1⟩,e1,e⟩:=bS9 hm;refine hts.ok G B H (v5 N args) F (L2.P1 N vs) H _ o F1 (gf fB bk fa ha) e1 ?_;cases o with
  | rt d'=>cases e;exact λv H' k1 f1 h1=>q v H' k1 f1 h1
  | nx E'=>cases e;exact λσ' H' S'=>q _ H' S'.kp (by obtain⟨B,_,_,I⟩:=S'.ex;exact I.fd) b7.non
  | bk E'=>cases e
  | ct E'=>cases e
def TVd (K:Fg)(ta:TA)(m:DE->M (List DV)):Prop:=∀(G:GF) (B:List LA) (E:DE) (F:FS) (σ:St) (H:Hp) (Q:List V->Hp->Prop) (ds:List DV) (F':FS),SitE K G B E F σ H->m E F=some (ds,F') ->
 (∀vs H',Kp (j8 K G) H H'->FAt K G H' F'->jq K G B H' ds vs->Q vs H')->ta σ H Q
structure Evs (K:Fg) (X:Cx) (es:List LK) (ta:TA) (m:DE->M (List DV)):Prop where
 pa:PA X es ta
 ok:TVd K ta m
def A9:DE->M (List DV):=λ_ F=>some ([],F)
def vD (a:DE->M Ac)(r:DE->M (List DV)):DE->M (List DV):=λE F=>(a E F).bind λp=>(r E p.2).bind λq=>some (.dat p.1::q.1,q.2)
noncomputable def vF (i:Nat)(r:DE->M (List DV)):DE->M (List DV):=λE F=>match E[i]? with
 | some (some .feed)=>(r E F).bind λq=>some (.feed::q.1,q.2)
 | _=>none
def l8:Evs K X [] N4 A9:=⟨v6,λG B E F σ H Q ds F' I e q=>by cases e;exact q [] H Kp.refl I.fd rfl⟩
def l6 {tl:TA}{ms:DE->M (List DV)}(ha:Ev K X e te m)(hr:Evs K X es tl ms)(hs:LN (e::es) X.env=(false,eval e X.env)::LN es X.env:=by rfl):Evs K X (e::es) (u8 te tl) (vD m ms) :=
 ⟨k9 ha.pe hr.pa hs,λG B E F σ H Q ds F' I e q=>by
  obtain⟨⟨x,F1⟩,e1,e⟩:=bS9 e;obtain⟨⟨ys,F2⟩,e2,e⟩:=bS9 e;cases e;refine ha.ok G B E F σ H _ x F1 I e1 λv H1 k1 f1 h1=>?_
  refine hr.ok G B E F1 σ H1 _ ys _ (I.step k1 f1) e2 λvs H2 k2 f2 h2=>q _ H2 (k1.trans k2) f2 ⟨v,vs,rfl,rfl,h1.same<|k2.hid I.fB,h2⟩⟩
def jU (i:Nat){x:Str}{tl:TA}{ms:DE->M (List DV)}(hr:Evs K X es tl ms)(hN:X.N[i]? = some x:=by rfl)(hv:Vis X.env.scope x:=by first | exact Or.inl rfl | exact Or.inr (Or.inl rfl) | exact Or.inr<|Or.inr rfl)(hd:(x == ("__debug__":Str))=false:=by decide)
  (hcd:(x == ("__classdict__":Str))=false:=by decide) (hs:LN (.Name x p::es) X.env=(false,eval (.Name x p) X.env)::LN es X.env:=by rfl):Evs K X (.Name x p::es) (u8 (W0 i) tl) (vF i ms) :=
 ⟨k9 (Q3 hN hv hd hcd) hr.pa hs,λG B E F σ H Q ds F' I e q=>by
  unfold vF at e;split at e
  .rename_i hx;obtain⟨⟨ys,F2⟩,e2,e⟩:=bS9 e;cases e;obtain⟨v,v1,v2⟩:=I.loc i _ hx;refine⟨v,v1,hr.ok G B E F σ H _ ys _ I e2 λvs H2 k2 f2 h2=>q _ H2 k2 f2 ⟨v,vs,rfl,rfl,v2.step k2 I.fB,h2⟩⟩
  .cases e⟩
def l9 (f:List DV->M Ac)(ms:DE->M (List DV)):DE->M Ac:=λE F=>(ms E F).bind λp=>f p.1 p.2
def zO {n:Nat}{f:List DV->M Ac}{ta:TA}{ms:DE->M (List DV)}(h:TVd K ta ms)(hn:∀E F args F',ms E F=some (args,F')->args.length=n):TEd K (gk (spD K n f) [] E0 ta) (l9 f ms):=λG B E F σ H Q d F' I e q=>by
 obtain⟨⟨args,F1⟩,e1,e⟩:=bS9 e;refine h G B E F σ H _ args F1 I e1 λvs H1 k1 f1 h1=>?_
 rw[HE];exact⟨G,B,F1,args,d,F',by rw[h1.length];exact hn _ _ _ _ e1,I.fB,w4 I.bk k1 f1,f1,h1,e,λv H2 k2 f2 h2=>q v H2 (k1.trans k2) f2 h2⟩
def ze:∀E F args F',A9 E F=some (args,F')->args.length=0:=λE F args F' e=>by cases e;rfl
def CG {n:Nat}{ms:DE->M (List DV)}(h:∀E F args F',ms E F=some (args,F')->args.length=n):∀E F args F',vD m ms E F=some (args,F')->args.length=n+1:=λE F args F' e=>by
 obtain⟨⟨x,F1⟩,e1,e⟩:=bS9 e;obtain⟨⟨ys,F2⟩,e2,e⟩:=bS9 e;cases e;rw[GM,h _ _ _ _ e2]
def CH {n i:Nat}{ms:DE->M (List DV)}(h:∀E F args F',ms E F=some (args,F')->args.length=n):∀E F args F',vF i ms E F=some (args,F')->args.length=n+1:=λE F args F' e=>by
 unfold vF at e;split at e
 .obtain⟨⟨ys,F2⟩,e2,e⟩:=bS9 e;cases e;rw[GM,h _ _ _ _ e2]
 .cases e
def wt {x:Str}{k n:Nat}{ps:List Str}{f:List DV->M Ac}{tl:TA}{ms:DE->M (List DV)}(C:l4 X.prog X.w X.K X.mg X.base x k ps (spD K n f))(hr:Room k X.A)(ha:Evs K X (e::es) tl ms)(hn:∀E F args F',ms E F=some (args,F')->args.length=n)(hg:Gl X x:=by rfl)
  (hdb:(x == ("__debug__":Str))=false:=by decide) (he:LN (e::es) X.env=(false,eval e X.env)::LN es X.env:=by rfl) (hpl:(LR pos<|LN es X.env).any (·.1)=false:=by rfl) :
  Ev K X (.Call (.Name x p) (e::es) [] pos) (gk (spD K n f) [] E0 tl) (l9 f ms):=⟨fY C hr hg ha.pa hdb he hpl,zO ha.ok hn⟩
end
end
section
structure FdS where
 ns:List Int
 a:Int
 l:Int
 t:Int
class Fam where
 At:LA->LA->Hp->FdS->Prop
 some1:∀{d c H F},At d c H F->∃o,H d=some o/\NoT o
 some2:∀{d c H F},At d c H F->∃o,H c=some o/\NoT o
 congr:∀{d c H H' F},At d c H F->H' d=H d->H' c=H c->At d c H' F
 lam:List Str
 drawF:Int->FdS->Option (Int×FdS)
 draw_some:∀{m:Int} {F:FdS},0<m->m<1073741824->F.t<199999->∃r F',drawF m F=some (r,F')/\0<=r/\r<m/\F'.t=F.t+1
instance fdI [Fam]:Feeds where
 S:=FdS
 At:=Fam.At
 some1:=Fam.some1
 some2:=Fam.some2
 congr:=Fam.congr
 lam:=Fam.lam
def FdS.cell (F:FdS):Int:=if F.ns=[] then 11 else(F.ns[(F.a % (F.ns.length:Int)).toNat]?).getD 0
def R0 [Fam]:List DV->M Ac
 | [.feed,.dat<|.int m]=>λF=>(Fam.drawF m F).bind λp=>some (.int p.1,p.2)
 | _=>λ_=>none
def lQ {x m:Int}(h:0<m):0<=x % m/\x % m<m:=⟨Int.emod_nonneg _ (by omega),Int.emod_lt_of_pos _ h⟩
def vR {F:FdS}(h0:¬F.ns=[]):atI (F.ns.map V.int) (F.a % ((F.ns.map V.int).length:Int))=some (.int F.cell):=by
 have hp:0<F.ns.length:=KS.2 h0;rw[Gi];obtain⟨q1,q2⟩:=lQ (x:=F.a) (m:=(F.ns.length:Int)) (by omega);obtain⟨j,hj⟩:∃j:Nat,F.a % (F.ns.length:Int)=j:=⟨(F.a % (F.ns.length:Int)).toNat,by omega⟩;have hjl:j<F.ns.length:=by omega
 unfold FdS.cell;rw[Gr h0,hj];refine dE ?_;rw[GC];simp[hjl]
def FdS.cellL (F:FdS):Int:=if F.ns=[] then 0 else(F.ns[(F.a % (F.ns.length:Int)).toNat]?).getD 0
def rP {F:FdS}(h0:¬F.ns=[]):atI (F.ns.map V.int) (F.a % ((F.ns.map V.int).length:Int))=some (.int F.cellL):=by
 have e:F.cellL=F.cell:=by unfold FdS.cellL FdS.cell;rw[Gr h0,Gr h0]
 rw[e];exact vR h0
def lV (ns:List Int):FdS:=⟨ns,0,0,0⟩
end
section
def cC:Const->Option Ac
 | .int i=>some<|.int i
 | .bool b=>some<|.bool b
 | .none=>some .none
 | .str x=>some<|.str x
 | _=>none
def cI:LK->Option Int
 | .Constant c _ _=>match c with
  | .int i=>some i
  | _=>none
 | _=>none
def cU:UnaryOp->Bool
 | .USub=>true
 | _=>false
def cP:Operator->Bool
 | .Pow=>true
 | _=>false
mutual
def ay:LK->Option Ac
 | .Constant c _ _=>cC c
 | .UnaryOp o e _=>if cU o=true then(cI e).map λi=>.int (-i) else none
 | .BinOp a o b _=>if cP o=true then(cI a).bind λi=>(cI b).bind λj=>if vp i j then some (.int<|i ^ j.toNat) else none else none
 | .Tuple es _ _=>(Y8 es).bind λds=>if ds.length<=10000 then some (.tuple ds) else none
 | .List es _=>(Y8 es).bind λds=>if ds.length<=10000 then some (.list ds) else none
 | _=>none
def Y8:List LK->Option (List Ac)
 | []=>some []
 | e::es=>(ay e).bind λd=>(Y8 es).bind λds=>some (d::ds)
end
mutual
def N5:Ac->TE
 | .int i=>tC<|.int i
 | .bool b=>tC<|.bl b
 | .none=>tC .non
 | .str x=>tC<|.str x
 | .tuple ds=>xt<|Z6 ds
 | .list ds=>ou<|Z6 ds
 | .dict _=>λ_ _ _=>False
def Z6:List Ac->TA
 | []=>N4
 | d::ds=>u8 (N5 d)<|Z6 ds
end
def gX {e:LK}{i:Int}(h:cI e=some i):∃k p,e = .Constant (.int i) k p:=by
 unfold cI at h;split at h
 .split at h
  .cases h;exact⟨_,_,rfl⟩
  .cases h
 .cases h
def lN {e:LK}{es:List LK}{env:LQ}{d:Ac}(h:ay e=some d):LN (e::es) env=(false,eval e env)::LN es env:=by
 unfold ay at h;split at h
 .rfl
 .rfl
 .rfl
 .rfl
 .rfl
 .cases h
section
variable [Feeds]{K:Fg}{X:Cx}
def qd:∀n:Nat,(∀(e:LK) (d:Ac),sizeOf e<n->ay e=some d->Ev K X e (N5 d) (sC d))/\(∀(es:List LK) (ds:List Ac),sizeOf es<n->Y8 es=some ds->Ea K X es (Z6 ds) (λ_ F=>some (ds,F))):=by
 intro n;induction n with
 | zero=>exact⟨λ_ _ h=>absurd h<|JY _,λ_ _ h=>absurd h<|JY _⟩
 | succ n ih =>
  refine⟨λe d hn h=>?_,λes ds hn h=>?_⟩
  .unfold ay at h;split at h
   .unfold cC at h;split at h
    .cases h;simp only[N5];exact l5
    .cases h;simp only[N5];exact xF
    .cases h;simp only[N5];exact bV
    .cases h;simp only[N5];exact U5
    .cases h
   .rename_i o e1 p1;split at h
    .rename_i ho;obtain⟨i,e2,h2⟩:=Hd.1 h;clear h;obtain⟨k,p,rfl⟩:=gX e2;have:o = .USub:=by cases o <;> first | rfl | (exact absurd ho<|by decide)
     subst this h2;simp only[N5];have hp:PE X (.UnaryOp .USub (.Constant (.int i) k p) p1) (tUn (rU λi=>.int (-i))<|tC<|.int i):=sH kJ k4;exact⟨λpins s σ H Q I h=>hp pins s σ H Q I ⟨i,rfl,h⟩,λG B E F σ H Q d F' I e q=>by cases e;exact q _ H Kp.refl I.fd b7.int⟩
    .cases h
   .rename_i a o b p1;split at h
    .rename_i ho;obtain⟨i,e2,h2⟩:=bS9 h;clear h;obtain⟨j,e3,h⟩:=bS9 h2;clear h2;obtain⟨k,p,rfl⟩:=gX e2;obtain⟨k',p',rfl⟩:=gX e3;have:o = .Pow:=by cases o <;> first | rfl | (exact absurd ho<|by decide)
     subst this;split at h
     .rename_i hc;cases h;simp only[N5];have hp:PE X (.BinOp (.Constant (.int i) k p) .Pow (.Constant (.int j) k' p') p1) (tOp (rI vp λi j=>.int<|i ^ j.toNat) (tC<|.int i)<|tC<|.int j):=y4 qJ k4 k4;exact⟨λpins s σ H Q I h=>hp pins s σ H Q I ⟨i,j,rfl,rfl,hc,h⟩,λG B E F σ H Q d F' I e q=>by cases e;exact q _ H Kp.refl I.fd b7.int⟩
     .cases h
    .cases h
   .rename_i es k p;obtain⟨ds,e1,h⟩:=bS9 h;split at h
    .rename_i hl;cases h;simp only[N5];have hh:=ih.2 es ds (by simp at hn;omega) e1;exact⟨mj hh.pa,λG B E F σ H Q d F' I e q=>by
      cases e;refine hh.ok G B E F σ H _ ds _ I rfl λvs H1 k1 f1 h1=>⟨?_,λp hp=>q _ _ (k1.trans<|Kp.upd hp) (f1.same<|d9.upd hp)<|P5 (w4 I.bk k1 f1) hp h1⟩
      rw[h1.length];exact He hl (by rw[Hl];decide)⟩
    .cases h
   .rename_i es p;obtain⟨ds,e1,h⟩:=bS9 h;split at h
    .rename_i hl;cases h;simp only[N5];have hh:=ih.2 es ds (by simp at hn;omega) e1;exact⟨bL hh.pa,λG B E F σ H Q d F' I e q=>by
      cases e;refine hh.ok G B E F σ H _ ds _ I rfl λvs H1 k1 f1 h1=>⟨?_,λp hp=>q _ _ (k1.trans<|Kp.upd hp) (f1.same<|d9.upd hp)<|J8 (w4 I.bk k1 f1) hp h1⟩
      rw[h1.length];exact He hl (by rw[Hl];decide)⟩
    .cases h
   .cases h
  .cases es with
   | nil=>simp only[Y8]at h;cases h;simp only[Z6];exact j5
   | cons e es =>
    simp only[Y8]at h
    obtain⟨d,e1,h⟩:=bS9 h
    obtain⟨ds',e2,h⟩:=bS9 h
    cases h
    simp only[Z6]
    exact d5 (ih.1 e d (by simp at hn;omega) e1) (ih.2 es ds' (by simp at hn;omega) e2)<|lN e1
def qI (e:LK)(d:Ac)(h:ay e=some d):Ev K X e (N5 d) (sC d):=(qd<|sizeOf e+1).1 e d (Jr _) h
def eX (d:Ac){e:LK}(h:ay e=some d):Ev K X e (N5 d) (sC d):=qI e d h
end
end
end L3
namespace L3
open PySem
def L5:LZ "len" = some (.builtin "len"):=by decide +kernel
def yW:LZ "sum" = some (.builtin "sum"):=by decide +kernel
def fX:LZ "sorted" = some (.builtin "sorted"):=by decide +kernel
def uf:LZ "max" = some (.builtin "max"):=by decide +kernel
def u7:LZ "tuple" = some (.type "tuple"):=by decide +kernel
def iG:LZ "list" = some (.type "list"):=by decide +kernel
end L3
namespace L3
open PySem PySem.Spec PyProof.Rows L2
section
section
variable [Feeds]{K:Fg}{X:Cx}{a b c e tg iter:LK}{es:List LK}{ta tb tc te:TE}{ma mb mc m:DE->M Ac}{pos pos' p p2:Pos}
def V1 (i:Nat){x:Str}{px ap cp:Pos}(hK:X.K=K)(hv:Ev K X e te m)(hN:X.N[i]? = some x:=by rfl)(hvis:Vis X.env.scope x:=by first | exact Or.inl rfl | exact Or.inr (Or.inl rfl) | exact Or.inr<|Or.inr rfl)(hd:(x == ("__debug__":Str))=false:=by decide)(hcd:(x == ("__classdict__":Str))=false:=by decide)
  (hbase:LY (.Name x px) "append" X.env (eval (.Name x px) X.env)=eval (.Name x px) X.env:=by rfl)
  (hfew:((LR cp<|LN [e] X.env).all (λx=>!x.1)&&(Mf cp<|Mg [] X.env).all (λx=>x.1.isSome)
   && decide ([e].length+([]:List LS).length+(if ([]:List LS).isEmpty then 0 else 1)<30))=true:=by rfl)
  (hline:(ap.endLine == cp.line)=true:=by rfl) (hst:LN [e] X.env=(false,eval e X.env)::LN [] X.env:=by rfl) (hplain:(LR cp<|LN [] X.env).any (·.1)=false:=by rfl)
  (hs:LX (.Call (.Attribute (.Name x px) "append" ap) [e] [] cp) none pos.line X.env=pure false:=by rfl) :
  Ss K X (.Expr (.Call (.Attribute (.Name x px) "append" ap) [e] [] cp) pos) (eR<|tBM K "list" aS (W0 i)<|u8 te N4) (bF i m):=by
 subst hK;exact⟨il (qQ Kn PySem.F.slot_list_append PySem.F.type_list_append R7 (Q3 hN hvis hd hcd) (k9 hv.pe v6 hst) hbase hfew hline hst hplain) hs,Bx hv.ok⟩
end
end
section
section
variable [Feeds]{K:Fg}{X:Cx}{a b c e tg iter:LK}{es:List LK}{ta tb tc te:TE}{ma mb mc m:DE->M Ac}{pos pos' p p2:Pos}{P:LD}{w:LF}{mg:Str->Option Lz}{base:LL}
def GD (K:Fg)(mg:Str->Option Lz)(x:Str)(d:Ac):Prop:=∃a,mg x=some (.ref a)/\∀H,b7 K H d<|.ref a
def Cs {x:Str}{d:Ac}(h:GD K X.mg x d)(hg:Gl X x:=by rfl)(hd:(x == ("__debug__":Str))=false:=by decide):Ev K X (.Name x p) (tC<|.ref h.choose) (sC d) :=
 ⟨wU hg h.choose_spec.1 rfl hd,λG B E F σ H Q d F' I e q=>by
  cases e;exact q _ H Kp.refl I.fd<|h.choose_spec.2 _⟩
def strsOf:List Lz->Option (List Str)
 | []=>some []
 | .str x _::r=>(strsOf r).map (x :: ·)
 | _=>none
theorem fO:∀{us:List Lz} {ss:List Str},strsOf us=some ss->j6 (ss.map V.str) us/\∀H,a8 K H (ss.map .str) (ss.map V.str)
 | [],ss,h=>by cases h;exact⟨.nil,λH=>a8.nil⟩
 | u::r,ss,h=>by
  cases u with
  | str x t =>
   obtain⟨ss',e1,rfl⟩:=Hd.1 (show(strsOf r).map (x :: ·)=some ss from h);obtain⟨h1,h2⟩:=fO e1;exact⟨.cons ⟨t,rfl⟩ h1,λH=>⟨_,_,rfl,rfl,h2 H⟩⟩
  | _=>cases h
def gd_mk {h:LL}{x:Str}{t:LA}{its:Array Lz}{n:Nat}{dd:Option LA}{sl:Array (Option Lz)}{ss:List Str}(X:K.In h)(G:h.Ns LV mg)(hn:PySem.W.nsIn K LV x=some (some<|.ref t))(hl:K.lookup t=some ⟨.type "tuple",dd,.seq its n,sl⟩)(hs:strsOf its.toList=some ss)(hz:ss.length<=1000):GD K mg x (.tuple<|ss.map .str):=by
 obtain⟨h1,h2⟩:=fO (K:=K) hs;refine⟨t,Kx X G hn,λH=>⟨t,ss.map V.str,rfl,.inr ⟨_,its,n,hl,rfl,rfl,?_,h1⟩,h2 H⟩⟩;have:=h1.length;rw[Gi]at this;have e:its.size=ss.length:=by rw[this];simp
 rw[e];exact He hz (by rw[Hl];decide)
end
end
section
section
variable {prog:LD}{w:LF}{A:LG}{E:Lz->LC->Prop}{s:LC}
def Q0 {it l:LA}{i:Nat}{items}{x:Lz}{Q:Lz->LC->Prop}(hit:s.heap.IsTupleIter it l i)
  (hl:s.heap.IsTuple l items) (hx:items[i]? = some x)
  (hQ:∀h',h'.IsTupleIter it l (i+1)->LL.SameBut it s.heap h'->Q x { s with heap:=h' }) :
  LU (model prog w) A (Builtin.SmallTypes.nextOf<|.ref it) Q E s:=by
 obtain⟨o,ho,hc,hd⟩:=id hit;obtain⟨ol,hol,_,nl,hdl⟩:=hl;unfold Builtin.SmallTypes.nextOf;refine Gh (HX (name:=Str.ofString "__next__") hit.typeIs IQ
  (HK IQ hit.typeIs Kv ?_<|Ks _))
 show LU _ _ (field (.ref it) 0 >>= _) _ _ s;refine Gh<|Hy ho hd (x:=.ref l) rfl ?_;show LU _ _ (if (Lz.ref l == Lz.none)=true then _ else _) _ _ s;rw[Gr<|show ¬((Lz.ref l == Lz.none)=true) from GQ];show LU _ _ (field (.ref it) 1 >>= _) _ _ s;refine Gh<|Hy ho hd (x:=.int i 0) rfl ?_;show LU _ _ (seqItems? (.ref l) >>= _) _ _ s;refine Gh<|HL hol hdl ?_;simp only[HG,hx];refine Gh (wpAny_setField ho hd (by simp)<|Gk ⟨x,rfl,Gk<|hQ _ ?_<|IK ..⟩);exact⟨_,JH _ ho<|LO.isFreed_of_fields<|LO.data_mapFields hd _,(LO.cls_mapFields ..).trans hc,by
  rw[LO.data_mapFields hd];simp[rawInt]⟩
def S8 {it l:LA}{i:Nat}{items}{Q:Lz->LC->Prop}(hh:A.handled=none)
  (hit:s.heap.IsTupleIter it l i) (hl:s.heap.IsTuple l items) (hx:items[i]? = none)
  (hE:∀h' e,LL.ExtBut it s.heap h'->(∃o,h'.get? e=some o/\o.cls = .type "StopIteration")->E (.ref e) { s with heap:=h' }) :
  LU (model prog w) A (Builtin.SmallTypes.nextOf<|.ref it) Q E s:=by
 obtain⟨o,ho,hc,hd⟩:=id hit;obtain⟨ol,hol,_,nl,hdl⟩:=hl;unfold Builtin.SmallTypes.nextOf;refine Gh (HX (name:=Str.ofString "__next__") hit.typeIs IQ
  (HK IQ hit.typeIs Kv ?_<|Ks _))
 show LU _ _ (field (.ref it) 0 >>= _) _ _ s;refine Gh<|Hy ho hd (x:=.ref l) rfl ?_;show LU _ _ (if (Lz.ref l == Lz.none)=true then _ else _) _ _ s;rw[Gr<|show ¬((Lz.ref l == Lz.none)=true) from GQ];show LU _ _ (field (.ref it) 1 >>= _) _ _ s;refine Gh<|Hy ho hd (x:=.int i 0) rfl ?_;show LU _ _ (seqItems? (.ref l) >>= _) _ _ s;refine Gh<|HL hol hdl ?_;simp only[HG,hx];refine Gh (Iw<|Gh<|wpAny_setField ho hd (by simp) ?_);show LU _ _ (newExc (.type "StopIteration") [] >>= _) _ _ _;refine Gh ?_;simp only[newExc,newTuple];refine Gh (Hr ?_<|by size_fits);refine Gh (m:=firstArgMember _ _) (wpAny_of_eq (a:=Lz.none) (by first | rfl | (simp only[firstArgMember];rfl)) ?_);refine Hr ?_ (by size_fits);simp only[raiseNew];refine Gh<|wpAny_handled ?_;first | rw[show A.in1.handled=none from hh] | rw[hh]
 refine Gh<|Gk<|wpAny_throw ?_;exact hE _ _ (((IK ..).extBut.push _).push _) ⟨_,GN _ rfl,rfl⟩
end
def x4 (b:Bool)(h:LL)(it l:LA)(i:Nat):Prop:=if b then h.IsListIter it l i else h.IsTupleIter it l i
def G2 (b:Bool)(h:LL)(l:LA)(items:Array Lz):Prop:=if b then h.IsList l items else h.IsTuple l items
def x4.at {b:Bool}{h h':LL}{it l:LA}{i:Nat}(x:x4 b h it l i)(k:∀o,h.get? it=some o->h'.get? it=some o):x4 b h' it l i:=by
 cases b
 .exact LL.IsTupleIter.at (show h.IsTupleIter it l i from x) k
 .exact LL.IsListIter.at (show h.IsListIter it l i from x) k
def G2.at {b:Bool}{h h':LL}{l:LA}{items:Array Lz}(x:G2 b h l items)(k:∀o,h.get? l=some o->h'.get? l=some o):G2 b h' l items:=by
 cases b
 .obtain⟨o,ho,r⟩:=(show h.IsTuple l items from x);exact⟨o,k o ho,r⟩
 .exact LL.IsList.at (show h.IsList l items from x) k
def x4.obj {b:Bool}{h:LL}{it l:LA}{i:Nat}(x:x4 b h it l i):∃o,h.get? it=some o/\∀v,o.data ≠ .cell v:=by
 cases b
 .obtain⟨o,e,c,d⟩:=(show h.IsTupleIter it l i from x);exact⟨o,e,λv z=>by rw[d]at z;cases z⟩
 .obtain⟨o,e,c,d⟩:=(show h.IsListIter it l i from x);exact⟨o,e,λv z=>by rw[d]at z;cases z⟩
def ja {prog:LD}{w:LF}{A:LG}(b:Bool)(hh:A.handled=none)(it l:LA)(hne:l≠it)(items:Array Lz) :
  Draws prog w A it [it,l] items.size (λi v=>items[i]? = some v) (λi h=>x4 b h it l i/\G2 b h l items) where
 live:=λ_ _ st=>let ⟨o,ho,_⟩:=st.1.obj;⟨o,ho⟩
 frame:=λ_ _ _ st hk=>⟨st.1.at λo e=>hk it (by simp) o e,st.2.at λo e=>hk l (by simp) o e⟩
 item:=λi s Q E hi st hQ=>by
  cases b
  .refine Q0 (show s.heap.IsTupleIter it l i from st.1) (show s.heap.IsTuple l items from st.2) (x:=items[i]) (by simp[hi]) λh' hit' hs'=>?_
   exact hQ _ h' s.toks (by simp[hi]) ⟨hit',st.2.at λo e=>hs'.extBut l o hne e⟩ hs'
  .refine wpAny_nextOf_list_item (show s.heap.IsListIter it l i from st.1) (show s.heap.IsList l items from st.2) (x:=items[i]) (by simp[hi]) λh' hit' hs'=>?_
   exact hQ _ h' s.toks (by simp[hi]) ⟨hit',st.2.at λo e=>hs'.extBut l o hne e⟩ hs'
 done:=λs Q E st hE=>by
  cases b
  .exact S8 hh (show s.heap.IsTupleIter it l items.size from st.1) (show s.heap.IsTuple l items from st.2) (by simp) hE
  .exact wpAny_nextOf_list_end hh (show s.heap.IsListIter it l items.size from st.1) (show s.heap.IsList l items from st.2) (by simp) hE
open AutoSeq1 (wpAny_loadPart') in
def Y5 (l:LA)(items:Array Lz)(n:Nat)(dct:Option LA)(sl:Array (Option Lz)) :
  Meets (Builtin.«enumerate.__new__» ⟨[.type "enumerate",.ref l],[]⟩) (λ_ R s=>s.heap.get? l=some { cls:=.type "tuple",dict:=dct,data:=.seq items n,slots:=sl } /\
   R (.ok<|.ret<|.ref (s.heap.push { cls:=.type "tuple_iterator",data:=.fields #[.ref l,.int 0 0] }).objs.size)
    { s with heap:=(s.heap.push { cls:=.type "tuple_iterator",data:=.fields #[.ref l,.int 0 0] }).push { cls:=.type "enumerate",data:=.fields #[.none,.bool false,.ref s.heap.objs.size,rawInt 0,.none,.none] } }) :=
 .of_wp λprog w A R s h=>by
  obtain⟨hp,g,d,tk,os⟩:=s;obtain⟨hl,h⟩:=h;have hsub:=sub_enumerate;have hL:LL.IsTuple (LC.heap ⟨hp,g,d,tk,os⟩) l items:=⟨_,hl,rfl,n,rfl⟩;wp_walk using wpAny_loadPart' hl;refine wpAny_stack_any λst=>Gk ?_
  split
  .rename_i c _ _ _ _ _;cases(c == Lz.type "enumerate")
   .wp_walk using wpAny_loadPart' hl,Jh hL;exact⟨_,rfl,h⟩
   .wp_walk using wpAny_loadPart' hl,Jh hL;exact⟨_,rfl,h⟩
  .wp_walk using wpAny_loadPart' hl,Jh hL;exact⟨_,rfl,h⟩
section
variable {prog:LD}{w:LF}{A:LG}{E:Lz->LC->Prop}{s:LC}
def W1 {l:LA}{items:Array Lz}{Q:Lz->LC->Prop}(hL:s.heap.IsTuple l items)
  (h:∀h',IsEnum h' (s.heap.objs.size+1) s.heap.objs.size 0 .none->h'.IsTupleIter s.heap.objs.size l 0->h'.objs.size=s.heap.objs.size+2 ->
   (∀b o,s.heap.get? b=some o->h'.get? b=some o)->Q (.ref<|s.heap.objs.size+1) { s with heap:=h' }) :
  LU (model prog w) A (call (.type "enumerate") [.ref l]) Q E s:=by
 obtain⟨⟨c,dct,dt,sl⟩,hl,hc,n,hd⟩:=hL;replace hc:c = .type "tuple":=hc;replace hd:dt = .seq items n:=hd;subst hc hd;refine callType_new PySem.F.called_enumerate (by decide) (PySem.F.typeCall_enumerate_1 _) (PySem.F.newCall_enumerate_1 _) (λobj=>PySem.F.args_object_init_2 obj _) PySem.F.entry_enumerate_new
  (Y5 l items n dct sl) ⟨hl,?_⟩
 have hz:(s.heap.push { cls:=.type "tuple_iterator",data:=.fields #[.ref l,.int 0 0] }).objs.size=s.heap.objs.size+1:=Io ..;show _/\_;rw[hz];have he:IsEnum ((s.heap.push { cls:=.type "tuple_iterator",data:=.fields #[.ref l,.int 0 0] }).push
   { cls:=.type "enumerate",data:=.fields #[.none,.bool false,.ref s.heap.objs.size,rawInt 0,.none,.none] }) (s.heap.objs.size+1) s.heap.objs.size 0 .none:=by
  have:=GN (s.heap.push { cls:=.type "tuple_iterator",data:=.fields #[.ref l,.int 0 0] })
   (o:={ cls:=.type "enumerate",data:=.fields #[.none,.bool false,.ref s.heap.objs.size,rawInt 0,.none,.none] }) rfl
  rw[hz]at this;exact this
 refine⟨⟨_,he,rfl⟩,h _ he ⟨_,Gj _<|GN _ rfl,rfl,rfl⟩ (by rw[Io,hz]) λb o x=>Gj _<|Gj _ x⟩
def oC {b:Bool}{l:LA}{items:Array Lz}{Q:Lz->LC->Prop}(hL:G2 b s.heap l items)
  (h:∀h',IsEnum h' (s.heap.objs.size+1) s.heap.objs.size 0 .none->x4 b h' s.heap.objs.size l 0->h'.objs.size=s.heap.objs.size+2 ->
   (∀b o,s.heap.get? b=some o->h'.get? b=some o)->Q (.ref<|s.heap.objs.size+1) { s with heap:=h' }) :
  LU (model prog w) A (call (.type "enumerate") [.ref l]) Q E s:=by
 cases b
 .exact W1 (show s.heap.IsTuple l items from hL) h
 .exact call_enumerate_list (show s.heap.IsList l items from hL) h
end
def SqA (b:Bool)(K:Fg)(H:Hp)(a:LA)(xs:List V):Prop:=if b then SqL K H a xs else SqT K H a xs
def Ite (b:Bool)(K:Fg)(a:LA):It :=
 ⟨λi H=>∃xs x,SqA b K H a xs/\xs[i]? = some x,λi H v H'=>∃t x,v = .ref t/\H t=none/\H'=upd H t (.tup [.int i,x])/\∀xs,SqA b K H a xs->xs[i]? = some x,λi H=>∃xs,SqA b K H a xs/\xs.length=i⟩
def SqA.get {b:Bool}{X:Cx}{pins:List (LA×LO)}{σ:St}{H:Hp}{s:LC}{a:LA}{xs:List V}(I:Inv X pins σ H s)(h:SqA b X.K H a xs):∃its:List Lz,j6 xs its/\G2 b s.heap a its.toArray:=by
 cases b
 .obtain⟨its,rv,p,_⟩:=I.tuple (show SqT X.K H a xs from h);exact⟨its,rv,p⟩
 .obtain⟨its,rv,p,_⟩:=I.list (show SqL X.K H a xs from h);exact⟨its,rv,p.isList⟩
def SqA.inj {b:Bool}{X:Cx}{pins:List (LA×LO)}{σ:St}{H:Hp}{s:LC}{a:LA}{xs ys:List V}(I:Inv X pins σ H s)(h:SqA b X.K H a xs)(h':SqA b X.K H a ys):ys=xs:=by
 cases b
 .exact I.tuple_inj (show SqT X.K H a ys from h') (show SqT X.K H a xs from h)
 .exact I.list_inj (show SqL X.K H a ys from h') (show SqL X.K H a xs from h)
end
section
def sS {h:LL}{c:LA}{o o':LO}(hl:c<h.objs.size)(e:(h.push o).get? c=some o'):h.get? c=some o':=by
 obtain⟨e1,e2⟩:=LL.get?_some_iff.1 e;refine LL.get?_some_iff.2 ⟨?_,e2⟩;have:=GR hl;cases h;simpa [LL.push,Array.getElem?_push,this] using e1
def eN {X:Cx}{pins:List (LA×LO)}{σ:St}{H:Hp}{s:LC}{h':LL}{t':Nat}{fp:List LA}(I:Inv X pins σ H s)(hf:∀b∈fp,aC X pins H b)(k:∀b o,b ∉ fp->s.heap.get? b=some o->h'.get? b=some o):Inv X pins σ H { s with heap:=h',toks:=t' }:=by
 have nit:∀b u,H b=some u->b ∉ fp:=λb u e z=>by rw[(hf b z).1]at e;cases e
 refine I.step (g':=s.gens) (d':=s.drawn) (ch:=fp) (λb hb=>?_) (λb o _ _ hc e _=>k b o hc e) (λb o _ _ hc e _=>⟨o.slots,k b o hc e⟩) (λ_ _ _ _ n=>n)
  (λb o hc e=>⟨o,k b o hc e⟩) (λ_ _ e=>e) (λ_ _ _ e=>e) (λb ps e=>⟨#[],by rw[e];simp⟩) (λm hm=>?_) (λb u e=>?_) I.bare
 .obtain⟨_,f1,f2,f3,f4,f5⟩:=hf b hb;exact⟨f3,f1,f4,f5⟩
 .obtain⟨o,es,ep,ho,r⟩:=hm;exact⟨o,es,ep,k _ o (λz=>(hf _ z).2.1 rfl) ho,r⟩
 .refine(I.hok b u e).stay (λc v hc q=>k c v ?_ q) (λ_ q=>q) λ_ _ q=>q
  rcases hc with z | z
  .rw[z];exact nit b u e
  .exact nit c _ z
def pX {P:LD}{w:LF}{K:Fg}{es:List LK}{k:Nat}{pos:Pos}(b:Bool)(a e it:LA):Turn P w K (.Tuple es k pos) (Ite b K a) [e,it] e (λi h=>(e≠it/\a≠e/\a≠it)/\(∃old,IsEnum h e it i old)/\x4 b h it a i) where
 mem:=by simp
 obj:=λi h st c hb=>by
  obtain⟨_,⟨old,he⟩,hit⟩:=st;rcases GK.1 hb with rfl | hb
  .exact⟨_,he,λv z=>by cases(show Data.fields _=Data.cell v from z)⟩
  .rw[HQ.1 hb];exact hit.obj
 keep:=λi h h' st kk=>by
  obtain⟨n,⟨old,he⟩,hit⟩:=st;exact⟨n,⟨old,kk e (by simp) _ he⟩,hit.at λo z=>kk it (by simp) o z⟩
 item:=by
  intro X hP hw hK hc i pins s σ H E I hf st hg;subst hP hw hK;obtain⟨⟨n1,n2,n3⟩,⟨old,he⟩,hit⟩:=st;obtain⟨xs,x,hq,hx⟩:=hg;obtain⟨its,rv,p⟩:=SqA.get I hq;obtain⟨u,hu,ru⟩:=rv.get hx;have hlt:i<its.toArray.size:=by
   have:=(GE.1 hu).1;simpa using this
  have hel:e<s.heap.objs.size:=Gv he;have hil:it<s.heap.objs.size:=by obtain⟨o,z,_⟩:=hit.obj;exact Gv z
  refine wpAny_pyNext_enum_itemD (ja b (A:=X.A.in1) (I.ok.hd hc) it a n3 its.toArray) he ⟨hit,p⟩ hlt n1 (by simp[n1,Ie n2]) λy h' tk hy ho hst' ht hz hk=>?_
  have hyu:y=u:=by
   have hy:its.toArray[i]? = some y:=hy;rw[List.getElem?_toArray,hu]at hy;exact(Gy hy).symm
  subst hyu;refine⟨_,rfl,wpAny_letOwnedTupleGo_enum ho λh2 he2 hs2=>?_⟩;have hs2:LL.SameBut e h' h2:=hs2;have hf0:H s.heap.objs.size=none:=I.hok.fresh<|Gs _;have I1:Inv X pins σ (upd H s.heap.objs.size<|.tup [.int i,x]) { s with heap:=s.heap.push { cls:=.type "tuple",data:=.seq #[.int i tk,y] },toks:=tk }:=by
   refine I.laid (t':=tk) (λb u e=>Gj _ e) (Gs _) ?_;exact⟨He (show 2<=10000 by decide) (by rw[Hl];decide),[.int i tk,y],.cons ⟨tk,rfl⟩<|.cons ru .nil,⟨_,GN _ rfl,rfl,_,rfl⟩⟩
  have hfp:∀c∈[e,it],aC X pins (upd H s.heap.objs.size<|.tup [.int i,x]) c:=λc hcm=>by
   obtain⟨f0,f⟩:=hf c hcm;have hne:c≠s.heap.objs.size:=by
    rcases GK.1 hcm with rfl | hcm
    .exact GR hel
    .rw[HQ.1 hcm];exact GR hil
   exact⟨by rw[d7 hne];exact f0,f⟩
  have hT2:h2.get? s.heap.objs.size=some { cls:=.type "tuple",data:=.seq #[.int i tk,y] }:=hs2.extBut _ _ (IL hel) ht;have I2:Inv X pins σ (upd H s.heap.objs.size<|.tup [.int i,x]) { s with heap:=h2,toks:=tk+1 }:=by
   refine eN (s:={ s with heap:=s.heap.push { cls:=.type "tuple",data:=.seq #[.int i tk,y] },toks:=tk }) I1 hfp λc o hcn ec=>?_
   have c1:c≠e:=λz=>hcn (by simp[z])
   have c2:c≠it:=λz=>hcn (by simp[z])
   by_cases hcT:c=s.heap.objs.size
   .subst hcT;have:(s.heap.push { cls:=.type "tuple",data:=.seq #[.int i tk,y] }).get? s.heap.objs.size=some o:=ec;rw[GN _ rfl]at this;rw[hT2];exact this
   .have hlc:c<s.heap.objs.size:=by
     have h1:c<(s.heap.push { cls:=.type "tuple",data:=.seq #[.int i tk,y] }).objs.size:=Gv ec;rw[Io]at h1;exact Nat.lt_of_le_of_ne (Nat.le_of_lt_succ h1) hcT
    have ec':s.heap.get? c=some o:=by
     have ec:(s.heap.push { cls:=.type "tuple",data:=.seq #[.int i tk,y] }).get? c=some o:=ec;exact sS hlc ec
    exact hs2.extBut c o c1<|hk c o c1 c2 ec'
  refine⟨.ref s.heap.objs.size,upd H s.heap.objs.size<|.tup [.int i,x],I2,rfl,⟨_,x,rfl,hf0,rfl,λys hy=>by rw[SqA.inj I hq hy];exact hx⟩,⟨⟨n1,n2,n3⟩,⟨y,by simpa using he2⟩,hst'.1.at λo z=>hs2.extBut it o (Ie n1) z⟩,λc hcm=>(hfp c hcm).1⟩
 done:=by
  intro X hP hw hK hc i pins s σ H E I hf st hg;subst hP hw hK;obtain⟨⟨n1,n2,n3⟩,⟨old,he⟩,hit⟩:=st;obtain⟨xs,hq,hx⟩:=hg;obtain⟨its,rv,p⟩:=SqA.get I hq;have hl:its.toArray.size=i:=by rw[Gw,<-rv.length];exact hx
  refine wpAny_pyNext_enum_endD (ja b (A:=X.A.in1) (I.ok.hd hc) it a n3 its.toArray) he (by rw[hl];exact⟨hit,p⟩) λh' eb=>⟨rfl,eN (t':=s.toks) I hf λc o hc ec=>eb c o (λz=>hc<|by simp[z]) ec⟩
 self:=λ_ _ _ _ _ st h=>by
  obtain⟨_,⟨old,he⟩,_⟩:=st;exact wpAny_pyIter_enum he h
section
variable [Feeds]{K:Fg}{X:Cx}{tg iter e:LK}{te:TE}{m:DE->M Ac}{pos p tp:Pos}{es:List LK}{tk:Nat}
def C5:Nat->List Ac->List Ac
 | _,[]=>[]
 | k,d::r=>.tuple [.int k,d]::C5 (k+1) r
theorem fK:∀{ds:List Ac} {k:Nat},(C5 k ds).length=ds.length
 | [],k=>rfl
 | d::r,k=>by rw[C5,GM,GM,fK]
theorem gm:∀{ds:List Ac} {k i:Nat} {z:Ac},(C5 k ds)[i]? = some z->∃d,ds[i]? = some d/\z = .tuple [.int<|(k+i:Nat),d]
 | [],k,i,z,h=>by simp[C5]at h
 | d::r,k,0,z,h=>by simp[C5]at h;exact⟨d,by simp,by simp[h]⟩
 | d::r,k,i+1,z,h=>by
  rw[C5,IZ]at h;obtain⟨d',h1,h2⟩:=gm h;refine⟨d',by simpa using h1,?_⟩;rw[h2,show k+1+i=k+(i+1) by omega]
def X6 (a:DE->M Ac):DE->M (List Ac):=λE F=>(a E F).bind λp=>(dX p.1).bind λds=>some (C5 0 ds,p.2)
def ug (K:Fg)(tl:TA):TI:=λσ H R=>tl σ H λxs H1=>∃a,xs=[.ref a]/\∃b ys,SqA b K H1 a ys/\R (Ite b K a) H1
def nE {l:LK}{tl:TA}(hK:X.K=K)(hg:Gl X "enumerate")(hm:X.mg "enumerate" = none)(ha:PA X [l] tl)(hs:LN [l] X.env=[(false,eval l X.env)]:=by rfl):PI X (.Tuple es tk tp) (.Call (.Name "enumerate" p) [l] [] pos) (ug K tl):=by
 subst hK;intro pins s σ H R I h;refine Call_ (Q5 I hg hm boot_enumerate<|Ik (thn (ha pos pins s σ H _ I h) λus s1 ⟨vs,H1,I1,r1,q1⟩=>?_) hs rfl);obtain⟨a,e,b,ys,hq,q⟩:=q1;subst e;cases r1 with
 | cons r rr =>
  cases rr;cases r;obtain⟨its,rv,p⟩:=SqA.get I1 hq;refine oC p λh' he hit hz hk=>?_
  have I2:Inv X pins σ H1 { s1 with heap:=h' }:=I1.kept (t':=s1.toks) hk;have hal:a<s1.heap.objs.size:=by
   cases b
   .obtain⟨o,z,_⟩:=(show s1.heap.IsTuple a its.toArray from p);exact Gv z
   .obtain⟨o,z,_⟩:=(show s1.heap.IsList a its.toArray from p);exact Gv z
  refine wpAny_pyIter_enum he ⟨s1.heap.objs.size+1,[s1.heap.objs.size+1,s1.heap.objs.size],_,_,H1,rfl,I2,pX b a _ _,⟨⟨Nat.succ_ne_self _,GR<|IW hal,GR hal⟩,⟨_,he⟩,hit⟩,λc hc=>?_,q⟩;have hle:s1.heap.objs.size<=c:=by
   rcases GK.1 hc with rfl | hc
   .exact Jz _
   .rw[HQ.1 hc];exact Gs _
  exact I1.fpOk hle<|I1.hok.fresh hle
def dB {P:Hp->List LA->Prop}{b:Bool}{a:LA}{ds:List Ac}{xs:List V}(h:∀H B,P H B->SqA b K H a xs/\a8 K (hid H B) ds xs):cn K P (Ite b K a) (C5 0 ds):=λH B hp=>by
 obtain⟨h1,h2⟩:=h H B hp;refine⟨λi d e=>?_,⟨xs,h1,by rw[fK,h2.length]⟩⟩;obtain⟨d',hd',rfl⟩:=gm e;obtain⟨v,e1,e2⟩:=a8.item h2 hd';refine⟨⟨xs,v,h1,e1⟩,λx H2 y=>?_⟩;obtain⟨t,x',rfl,ht,rfl,y⟩:=y;have:=y xs h1;rw[e1]at this;cases this;refine⟨d9.upd ht,λbk=>?_⟩;rw[Hq];exact P5 bk ht ⟨_,_,rfl,b7.int,_,_,rfl,e2,rfl⟩
def ib (h:Ev K X e te m)(hm:X.mg "enumerate" = none)(hK:X.K=K:=by rfl)(hg:Gl X "enumerate":=by rfl)(hs:LN [e] X.env=[(false,eval e X.env)]:=by rfl):Ei K X (.Tuple es tk tp) (.Call (.Name "enumerate" p) [e] [] pos) (ug K<|u8 te N4) (X6 m):=⟨nE hK hg hm (k9 h.pe v6 hs) hs,λG B E F σ H R ds F' I e q=>by
 obtain⟨⟨y,F1⟩,e1,e⟩:=bS9 e;obtain⟨z,e2,e⟩:=bS9 e;cases e;refine h.ok G B E F σ H _ y F1 I e1 λv H1 k1 f1 h1=>?_
 cases y with
 | list ys =>
  cases e2;simp only[b7]at h1;obtain⟨a,xs,rfl,ha,hd⟩:=h1;exact⟨a,rfl,true,xs,SqL.of<|d4 _ _ ha,q _ H1 k1 f1<|dB λH2 B2 s=>⟨SqL.of<|d4 _ _<|s _ _ ha,hd.same s⟩⟩
 | tuple ys =>
  cases e2;simp only[b7]at h1;obtain⟨a,xs,rfl,ha,hd⟩:=h1;exact⟨a,rfl,false,xs,ha.same d4,q _ H1 k1 f1<|dB λH2 B2 s=>⟨(ha.same s).same d4,hd.same s⟩⟩
 | _=>cases e2⟩
def jO (h:Eb K X e te m)(hm:X.mg "enumerate" = none)(hK:X.K=K:=by rfl)(hg:Gl X "enumerate":=by rfl)(hs:LN [e] X.env=[(false,eval e X.env)]:=by rfl):Eib K X (.Tuple es tk tp) (.Call (.Name "enumerate" p) [e] [] pos) (ug K<|u8 te N4) (X6 m):=⟨nE hK hg hm (k9 h.pe v6 hs) hs,λG B E F σ H R ds F' I e q=>by
 obtain⟨⟨y,F1⟩,e1,e⟩:=bS9 e;obtain⟨z,e2,e⟩:=bS9 e;cases e;refine h.ok G B E F σ H _ y F1 I e1 λv H1 k1 f1 h1=>?_
 cases y with
 | list ys =>
  cases e2;obtain⟨a,xs,rfl,ha,hd⟩:=h1;exact⟨a,rfl,true,xs,SqL.of<|d4 _ _ ha,q _ H1 k1 f1<|dB λH2 B2 k=>⟨SqL.of<|d4 _ _<|k.1.hid (B:=j8 K G) (λ_ z=>z) _ _ ha,hd.same k.2⟩⟩
 | tuple ys =>
  cases e2;obtain⟨a,xs,rfl,ha,hd⟩:=h1;exact⟨a,rfl,false,xs,ha.same d4,q _ H1 k1 f1<|dB λH2 B2 k=>⟨(ha.same k.2).same d4,hd.same k.2⟩⟩
 | _=>cases e2⟩
end
end
section
section
variable [Feeds]{K:Fg}{X:Cx}{a b c e tg iter:LK}{es:List LK}{ta tb tc te:TE}{ma mb mc m:DE->M Ac}{pos pos' p p2:Pos}{t u:TS}{mt mu:DE->M Out}
noncomputable def aU (c:DE->M Bool)(b:DE->M Out):Nat->DE->M Out
 | 0,_,_=>none
 | n+1,E,F=>(c E F).bind λp=>if p.1=true then(b E p.2).bind λq=>match q.1 with
  | .nx E2=>aU c b n E2 q.2
  | .ct E2=>aU c b n E2 q.2
  | .bk E2=>some (.nx E2,q.2)
  | .rt d=>some (.rt d,q.2)
  else some (.nx E,p.2)
theorem Y7 {c:DE->M Bool}{b:DE->M Out}:∀{n m:Nat} {E:DE} {F:FS} {r:Out×FS},n<=m->aU c b n E F=some r->aU c b m E F=some r
 | 0,m,E,F,r,_,h=>by cases h
 | n+1,0,E,F,r,hl,h=>absurd hl (by omega)
 | n+1,m+1,E,F,r,hl,h=>by
  rw[aU]at h ⊢;obtain⟨⟨x,F1⟩,e1,h⟩:=bS9 h;rw[e1,GV];dsimp only at h ⊢;cases x with
  | false=>exact h
  | true =>
   rw[Gp rfl]at h ⊢;obtain⟨⟨o,F2⟩,e2,h⟩:=bS9 h;rw[e2,GV];cases o with
   | nx E2=>exact Y7 (n:=n) (m:=m) (by omega) h
   | ct E2=>exact Y7 (n:=n) (m:=m) (by omega) h
   | bk E2=>exact h
   | rt d=>exact h
open Classical in
def mWh (c:DE->M Bool)(b:DE->M Out):DE->M Out:=λE F=>if h:∃n r,aU c b n E F=some r then some (Classical.choose<|Jj h) else none
def yq {c:DE->M Bool}{b:DE->M Out}{n:Nat}{E:DE}{F:FS}{r:Out×FS}(h:aU c b n E F=some r):mWh c b E F=some r:=by
 unfold mWh;have hx:∃n r,aU c b n E F=some r:=⟨n,r,h⟩;rw[dif_pos hx];have h2:=Jj<|Jj hx;have a1:=Y7 (Nat.le_max_left n<|Classical.choose hx) h;have a2:=Y7 (Nat.le_max_right n<|Classical.choose hx) h2;rw[a1]at a2;exact a2.symm
def zd {c:DE->M Bool}{b:DE->M Out}{E:DE}{F:FS}{r:Out×FS}(h:mWh c b E F=some r):∃n,aU c b n E F=some r:=by
 unfold mWh at h;split at h
 .rename_i hx;cases h;exact⟨_,Jj<|Jj hx⟩
 .cases h
def xq {tt:TT}{tb:TS}{mc:DE->M Bool}{mb:DE->M Out}(hc:TTd K tt mc)(hb:TSd K tb mb):TSd K (lO tt tb) (mWh mc mb):=λG B0 H0 E F σ H D r F' S e q=>by
 obtain⟨n,e⟩:=zd e;refine⟨λm σ H=>∃E F,Sit K G B0 H0 E F σ H/\aU mc mb m E F=some (r,F'),⟨n,E,F,S,e⟩,?_⟩;rintro m σ2 H2 ⟨E2,F2,S2,e2⟩;cases m with
 | zero=>cases e2
 | succ m =>
  rw[aU]at e2;obtain⟨⟨x,F3⟩,e3,e2⟩:=bS9 e2;obtain⟨B,s,sn,I⟩:=S2.ex;refine hc G B E2 F2 σ2 H2 _ x F3 I e3 λH3 k3 f3=>?_
  have S3:=S2.step k3 f3;cases x with
  | false =>
   rw[Gr GQ];cases e2;exact q σ2 H3 S3
  | true =>
   rw[Gp rfl];rw[Gp rfl]at e2;obtain⟨⟨o,F4⟩,e4,e2⟩:=bS9 e2;refine⟨λσ' H'=>∃E F,Sit K G B0 H0 E F σ' H'/\aU mc mb m E F=some (r,F'),λσ' H' h=>⟨m,Jr _,h⟩,?_⟩;refine hb G B0 H0 E2 F3 σ2 H3 _ o F4 S3 e4 ?_;cases o with
   | nx E6=>exact λσ6 H6 S6=>⟨E6,F4,S6,e2⟩
   | ct E6=>exact λσ6 H6 S6=>⟨E6,F4,S6,e2⟩
   | bk E6=>cases e2;exact λσ6 H6 S6=>q σ6 H6 S6
   | rt d=>cases e2;exact λv H6 k6 f6 h6=>q v H6 k6 f6 h6
def sL {body:List LJ}{tt:TT}{tb:TS}{mc:DE->M Bool}{mb:DE->M Out}(hc:Et K X c tt mc)(hb:Sss K X body tb mb)(hp:PassesOwn (model X.prog X.w) X.A X.env X.xe:=by exact PassesOwn.never):Ss K X (.While c body [] pos) (lO tt tb) (mWh mc mb) :=
 ⟨tw hp hc.pt hb.ps,xq hc.ok hb.ok⟩
noncomputable def kO (f:Int->Int->Int)(i:Nat)(a:DE->M Ac):DE->M Out:=λE F=>match E[i]? with
 | some (some<|.dat<|.int x)=>(a E F).bind λp=>(C1 p.1).bind λy=>(bN i (.int<|f x y) E).bind λE1=>some (.nx E1,p.2)
 | _=>none
def Bu {f:Int->Int->Int}{i:Nat}(he:TEd K te m):TSd K (qY i te<|ipI f) (kO f i m):=λG B0 H0 E F σ H D r F' S e q=>by
 unfold kO at e;split at e
 .rename_i x hx;obtain⟨⟨d,F1⟩,e1,e⟩:=bS9 e;obtain⟨y,e2,e⟩:=bS9 e;obtain⟨E1,e3,e⟩:=bS9 e;cases e;obtain⟨B,s,sn,I⟩:=S.ex;obtain⟨v,v1,v2⟩:=I.loc i _ hx;have v2:b7 K (hid H B) (.int x) v:=v2;simp only[b7]at v2;subst v2;refine⟨_,v1,he G B E F σ H _ d F1 I e1 λv H1 k1 f1 h1=>?_⟩;have:=U2 e2;simp only at this;subst this;simp only[b7]at h1;subst h1;refine⟨x,y,rfl,rfl,?_⟩;have S1:=S.step k1 f1;exact ik i G B E F1 σ H1 (.int<|f x y) _ E1 (λσ' H'=>D.nx σ' H') (I.step k1 f1) b7.int e3 λσ' I' fr=>q σ' H1<|S1.bind s sn I' fr
 .cases e
def nL (i:Nat){x:Str}(hN:X.N.Nodup)(he:Ev K X e te m)(hi:X.N[i]? = some x:=by rfl)(hx:Loc X.env.scope x:=by first | exact Or.inl rfl | exact Or.inr rfl)(hf:X.fn x=true\/X.env.scope.names.lookup x=some .local:=by first | exact .inl rfl | exact .inr rfl | assumption) :
  Ss K X (.AugAssign (.Name x pos') .Add e pos) (qY i te<|ipI λi j=>i+j) (kO (λi j=>i+j) i m):=⟨qP hN hi hx he.pe yH hf,Bu he.ok⟩
noncomputable def ie (i:Nat)(v:DE->M Ac):DE->M Out:=λE F=>(v E F).bind λp=>(V2 E i).bind λds=>match p.1 with
 | .list zs=>if ds.length+zs.length<=LM then some (.nx<|E.set i<|some<|.own<|ds++zs,p.2) else none
 | _=>none
def BU {i:Nat}(hv:TEs K te m):TSd K (eR<|tBM K "list" gP (W0 i)<|u8 te N4) (ie i m):=λG B0 H0 E F σ H D r F' S e q=>by
 obtain⟨⟨d,F1⟩,e1,e⟩:=bS9 e;obtain⟨ds,e4,e⟩:=bS9 e;dsimp only at e;split at e
 .split at e
  .rename_i hl;cases e;obtain⟨B,s,sn,I⟩:=S.ex;have eo:=O9 e4;obtain⟨w,w1,a,xs,rfl,hB,hf,hx,hdx⟩:=I.loc i _ eo;refine⟨_,w1,.inl ⟨rfl,xs,SqL.of hx⟩,hv G B E F σ H _ (.list _) _ I e1 λu H2 k2 f2 h2=>?_⟩;obtain⟨b,ys,rfl,hb,hdb⟩:=h2;have hd2:=hdx.same<|k2.hid I.fB;exact⟨a,b,xs,ys,rfl,rfl,k2 a _ hx hf,d4 _ _ hb,by rw[hdx.length,hdb.length];exact hl,q σ _<|(S.step k2 f2).write s sn (I.step k2 f2) eo w1<|a8.append hdb hd2⟩
  .cases e
 .cases e
def yN (i:Nat){x:Str}{px ap cp:Pos}(hK:X.K=K)(hv:Eb K X e te m)(hN:X.N[i]? = some x:=by rfl)(hvis:Vis X.env.scope x:=by first | exact Or.inl rfl | exact Or.inr (Or.inl rfl) | exact Or.inr<|Or.inr rfl)(hd:(x == ("__debug__":Str))=false:=by decide)(hcd:(x == ("__classdict__":Str))=false:=by decide)
  (hbase:LY (.Name x px) "extend" X.env (eval (.Name x px) X.env)=eval (.Name x px) X.env:=by rfl)
  (hfew:((LR cp<|LN [e] X.env).all (λx=>!x.1)&&(Mf cp<|Mg [] X.env).all (λx=>x.1.isSome)
   && decide ([e].length+([]:List LS).length+(if ([]:List LS).isEmpty then 0 else 1)<30))=true:=by rfl)
  (hline:(ap.endLine == cp.line)=true:=by rfl) (hst:LN [e] X.env=(false,eval e X.env)::LN [] X.env:=by rfl) (hplain:(LR cp<|LN [] X.env).any (·.1)=false:=by rfl)
  (hs:LX (.Call (.Attribute (.Name x px) "extend" ap) [e] [] cp) none pos.line X.env=pure false:=by rfl) :
  Ss K X (.Expr (.Call (.Attribute (.Name x px) "extend" ap) [e] [] cp) pos) (eR<|tBM K "list" gP (W0 i)<|u8 te N4) (ie i m):=by
 subst hK;exact⟨il (qQ Kn PySem.F.slot_list_extend PySem.F.type_list_extend pk (Q3 hN hvis hd hcd) (k9 hv.pe v6 hst) hbase hfew hline hst hplain) hs,BU hv.ok⟩
end
end
section
section
variable [Feeds]{K:Fg}{X:Cx}{a b c e tg iter:LK}{es:List LK}{ta tb tc te:TE}{ma mb mc m:DE->M Ac}{pos pos' p p2 pos2:Pos}
def xB (ta:TA):TE:=λσ H Q=>ta σ H λvs H1=>∃i j:Int,vs=[.int i,.int j]/\∀p,H1 p=none->Q (.ref p) (upd H1 p<|.rng i j)
def pM {ta:TA}(hg:Gl X "range")(hm:X.mg "range" = none)(ha:PA X [a,b] ta)(hs:LN [a,b] X.env=[(false,eval a X.env),(false,eval b X.env)]:=by rfl)(hs2:LN [b] X.env=[(false,eval b X.env)]:=by rfl):PE X (.Call (.Name "range" p) [a,b] [] pos) (xB ta):=by
 intro pins s σ H Q I h;refine Call_ (Q5 I hg hm boot_range<|Ik (thn (ha pos pins s σ H _ I h) λus s1 ⟨vs,H1,I1,r1,q1⟩=>?_) (by rw[hs,hs2]) (by rw[hs2];rfl));obtain⟨i,j,e,q⟩:=q1;subst e;cases r1 with
 | cons r rr =>
  cases rr with
  | cons r2 rr =>
   cases rr;obtain⟨t,rfl⟩:=r;obtain⟨t2,rfl⟩:=r2;refine call_range_2 ?_;exact⟨.ref s1.heap.objs.size,_,I1.laid (a:=s1.heap.objs.size) (o:=.rng i j) (λb o e=>Gj _ e) (Gs _) ⟨_,_,_,GN _ rfl⟩,rfl,q _<|I1.hok.fresh<|Gs _⟩
def pj {lo:Int}{n:Nat}{acc:Array Lz}(h:ItemsOf (λi v=>∃t,v=Lz.int (lo+i*1) t) acc n):j6 ((List.range n).map λ(i:Nat)=>V.int<|lo+(i:Int)) acc.toList:=by
 obtain⟨h1,h2⟩:=h;refine P7 (by rw[Gi,GB,IA,h1]) λi x u hx hu=>?_
 rw[GC]at hx;obtain⟨j,hj,rfl⟩:=Hd.1 hx;obtain⟨hlt,e⟩:=GE.1 hj;rw[IT]at e;subst e;obtain⟨t,rfl⟩:=h2 i u (by rw[<-HH];exact hu);exact⟨t,by congr 1;omega⟩
def qV:List V->Hp->VK->Prop:=λxs H Q=>∃(p:LA) (i j:Int),xs=[.ref p]/\H p=some (.rng i j) /\ -(2 ^ 62)<=i/\i<2 ^ 62 /\ -(2 ^ 62)<=j/\j<2 ^ 62/\(j-i).toNat<=1000/\∀l,H l=none->Q (.ref l) (upd H l<|.lst<|(List.range (j-i).toNat).map λ(k:Nat)=>V.int<|i+(k:Int))
def X8 (hc:X.calm=true):E7 X (.type "list") qV:=by
 intro pins s σ H xs us Q I r h;obtain⟨p,i,j,rfl,hp,i0,i1,j0,j1,hz,q⟩:=h;obtain⟨u,rfl,ru⟩:=Y6 r;cases ru;obtain⟨t,u,v,hr⟩:=(show D7 X.prog X.w H s.heap p (.rng i j) from I.hok p _ hp);have hn:Builtin.Range.rangeSize i j 1=((j-i).toNat:Int):=by rw[rangeSize_one];split <;> omega
 refine call_list_range (n:=(j-i).toNat) (I.ok.hd hc) hr (small_one (by omega) (by omega) (by omega)<|by omega) hn (by omega) λh' tk acc c' hk hS hit=>?_
 have I1:Inv X pins σ (upd H s.heap.objs.size<|.lst<|(List.range (j-i).toNat).map λ(k:Nat)=>V.int<|i+(k:Int)) { s with heap:=h',toks:=tk } :=
  I.laid (a:=s.heap.objs.size) hk (Gs _) ⟨by rw[Gi,GB];exact Ii<|R1<|by omega,acc.toList,c',pj hit,by rw[hS]⟩
 exact⟨.ref s.heap.objs.size,_,I1,rfl,q _<|I.hok.fresh<|Gs _⟩
theorem eJ {H:Hp}{lo:Int}:∀{ns:List Nat},a8 K H (ns.map λ(i:Nat)=>Ac.int<|lo+i) (ns.map λ(k:Nat)=>V.int<|lo+(k:Int))
 | []=>a8.nil
 | n::r=>⟨_,_,rfl,b7.int,eJ (ns:=r)⟩
def iB (a:DE->M (List Ac)):DE->M Ac:=λE F=>(a E F).bind λp=>(U4 p.1).bind λds=>if ds.length<=1000 then some (.list ds,p.2) else none
def gv (a:DE->M (List Ac)):DE->M Ac:=λE F=>(a E F).bind λp=>(iz p.1).bind λds=>if ds.length<=1000 then some (.list ds,p.2) else none
def sD {ta:TA}{ms:DE->M (List Ac)}(h:Ea K X [a] ta ms)(hc:X.calm=true)(hm:X.mg "range" = none)(hml:X.mg "list" = none)(hbt:LZ "list" = some (.type "list"))(hg:Gl X "range":=by rfl)(hgl:Gl X "list":=by rfl)(hs:LN [a] X.env=[(false,eval a X.env)]:=by rfl)
  (he:LN [.Call (.Name "range" p2) [a] [] pos2] X.env=(false,eval (.Call (.Name "range" p2) [a] [] pos2) X.env)::LN [] X.env:=by rfl) (hpl:(LR pos<|LN [] X.env).any (·.1)=false:=by rfl) :
  Ev K X (.Call (.Name "list" p) [.Call (.Name "range" p2) [a] [] pos2] [] pos) (tCB qV<|u8 (Cd ta) N4) (iB ms) :=
 ⟨Z4 (X8 hc) hgl hml hbt (k9 (sA hg hm h.pa hs) v6 he) (by decide) (by decide) he hpl,λG B E F σ H Q d F' I e q=>by
  obtain⟨⟨ys,F1⟩,e1,e⟩:=bS9 e;obtain⟨z,e2,e⟩:=bS9 e;split at e
  .rename_i hz;cases e;refine h.ok G B E F σ H _ ys F1 I e1 λvs H1 k1 f1 h1=>?_
   unfold U4 at e2;split at e2
   .rename_i j hj;split at e2
    .rename_i hc;cases e2;have hj:ys=[.int j]:=hj;subst hj;simp only[a8]at h1;obtain⟨x,r,rfl,h2,rfl⟩:=h1;simp only[b7]at h2;subst h2;have hz:(V9 0 j.toNat).length<=1000:=hz;simp[V9]at hz;refine⟨j,rfl,λp hp=>⟨p,0,j,rfl,f8,by omega,by omega,hc.1,hc.2,by omega,λl hl=>?_⟩⟩;have bk1:=w4 I.bk k1 f1;have bk2:BOk (upd H1 p<|.rng 0 j) B:=λb hb=>by
      obtain⟨o,eo⟩:=bk1 b hb;exact⟨o,by rw[d7<|f9 eo hp];exact eo⟩
     rw[Int.sub_zero];exact q _ _ ((k1.trans<|Kp.upd hp).trans<|Kp.upd hl) ((f1.same<|d9.upd hp).same<|d9.upd hl) (J8 bk2 hl eJ)
    .cases e2
   .cases e2
  .cases e⟩
def rW {ta:TA}{ms:DE->M (List Ac)}(h:Ea K X [a,b] ta ms)(hc:X.calm=true)(hm:X.mg "range" = none)(hml:X.mg "list" = none)(hbt:LZ "list" = some (.type "list"))(hg:Gl X "range":=by rfl)(hgl:Gl X "list":=by rfl)(hs:LN [a,b] X.env=[(false,eval a X.env),(false,eval b X.env)]:=by rfl)(hs2:LN [b] X.env=[(false,eval b X.env)]:=by rfl)
  (he:LN [.Call (.Name "range" p2) [a,b] [] pos2] X.env=(false,eval (.Call (.Name "range" p2) [a,b] [] pos2) X.env)::LN [] X.env:=by rfl) (hpl:(LR pos<|LN [] X.env).any (·.1)=false:=by rfl) :
  Ev K X (.Call (.Name "list" p) [.Call (.Name "range" p2) [a,b] [] pos2] [] pos) (tCB qV<|u8 (xB ta) N4) (gv ms) :=
 ⟨Z4 (X8 hc) hgl hml hbt (k9 (pM hg hm h.pa hs hs2) v6 he) (by decide) (by decide) he hpl,λG B E F σ H Q d F' I e q=>by
  obtain⟨⟨ys,F1⟩,e1,e⟩:=bS9 e;obtain⟨z,e2,e⟩:=bS9 e;split at e
  .rename_i hz;cases e;refine h.ok G B E F σ H _ ys F1 I e1 λvs H1 k1 f1 h1=>?_
   unfold iz at e2;split at e2
   .rename_i i j hj;split at e2
    .rename_i hc;cases e2;have hj:ys=[.int i,.int j]:=hj;subst hj;simp only[a8]at h1;obtain⟨x,r,rfl,h2,y,r2,rfl,h3,rfl⟩:=h1;simp only[b7]at h2 h3;subst h2 h3;have hz:(V9 i (j-i).toNat).length<=1000:=hz;simp[V9]at hz;refine⟨i,j,rfl,λp hp=>⟨p,i,j,rfl,f8,by omega,by omega,by omega,by omega,by omega,λl hl=>?_⟩⟩;have bk1:=w4 I.bk k1 f1;have bk2:BOk (upd H1 p<|.rng i j) B:=λb hb=>by
      obtain⟨o,eo⟩:=bk1 b hb;exact⟨o,by rw[d7<|f9 eo hp];exact eo⟩
     exact q _ _ ((k1.trans<|Kp.upd hp).trans<|Kp.upd hl) ((f1.same<|d9.upd hp).same<|d9.upd hl) (J8 bk2 hl eJ)
    .cases e2
   .cases e2
  .cases e⟩
end
end
section
section
variable {prog:LD}{w:LF}{A:LG}{E:Lz->LC->Prop}{s:LC}
def BA {a:LA}{o:LO}{Q:Option LO->LC->Prop}(ho:s.heap.get? a=some o)(h:Q (some o) s):LU (model prog w) A (loadIfAlive a) Q E s:=by
 have h':Q (s.heap.get? a) s:=by rw[ho];exact h
 exact λ_ _ _=>h'
end
section
variable {X:Cx}{K:Fg}{p p2 pos pos2:Pos}
def jv {xs:List V}{us:List Lz}(h:j6 xs us):us.length=xs.length:=by
 induction h with
 | nil=>rfl
 | cons _ _ ih=>simp[ih]
end
section
variable {prog:LD}{w:LF}{A:LG}{E:Lz->LC->Prop}{s:LC}
def ij {l:LA}{xs:Array (Int×Tok)}{Q:Lz->LC->Prop}(hh:A.handled=none)(hl:s.heap.IsTuple l (intItems xs))
  (h:∀h' tk t',(∀b o,s.heap.get? b=some o->h'.get? b=some o)->Q (.int (preSum (numAt xs) xs.size) t') { s with heap:=h',toks:=tk }) :
  LU (model prog w) A (call (.builtin "sum") [.ref l]) Q E s:=by
 have hlt:l<s.heap.objs.size:=by obtain⟨_,e,_⟩:=hl;exact Gv e
 refine call_sum_walkG<|Jh hl ?_;refine⟨s.heap.objs.size,[s.heap.objs.size,l],[s.heap.objs.size],_,_,_,numAt xs,rfl,Walks.tuple (A:=A.in1) hh _ l (GR hlt)<|intItems xs,⟨⟨_,GN _ rfl,rfl,rfl⟩,hl.push _⟩,λb hb=>?_,(λ_ _=>intItems_at),λh' tk t' hk=>?_⟩
 .show b<(s.heap.push _).objs.size;rw[Io];rcases GK.1 hb with rfl | hb
  .exact Jr _
  .rw[HQ.1 hb];exact IW hlt
 .have:=h h' tk t' λb o e=>hk b o (λhm=>by rw[HQ.1 hm]at e;exact absurd (Gv e)<|Im _)<|Gj _ e
  simpa [intItems] using this
end
section
variable {X:Cx}{K:Fg}{p p2 pos pos2:Pos}
def oZ (hc:X.calm=true):E7 X (.builtin "sum") (λxs H Q=>∃(a:LA) (ns:List Int),xs=[.ref a]/\SqT X.K H a (ns.map V.int)/\Q (.int ns.sum) H):=by
 intro pins s σ H xs us Q I r h;obtain⟨a,ns,rfl,hq,q⟩:=h;obtain⟨u,rfl,ru⟩:=Y6 r;cases ru;obtain⟨its,rv,p,hz⟩:=I.tuple hq;have hi:=U9 rv;obtain⟨zs,hzs⟩:=hi.allInts.items;have hl:s.heap.IsTuple a (intItems zs):=hzs▸p;refine ij (I.ok.hd hc) hl λh' tk t' hk=>⟨.int ns.sum,H,I.kept hk,⟨t',?_⟩,q⟩
 have hn:=hi.numsOf;have e:numsOf (intItems zs).toList=ns:=by rw[<-hzs];exact hn
 rw[nums_intItems]at e;rw[preSum_eq,HD (by simp),e]
def jD:List Ac->Option Ac
 | [.list ds]=>(G5 ds).map λns=>.int ns.sum
 | [.tuple ds]=>(G5 ds).map λns=>.int ns.sum
 | _=>none
def xi (hK:X.K=K)(hc:X.calm=true):E7 X (.builtin "sum") (rDN K jD):=by
 subst hK;intro pins s σ H xs us Q I r h;obtain⟨fp,B,ds,z,bk,h1,hf,q⟩:=h;unfold jD at hf;split at hf <;> try cases hf
 .obtain⟨ns,e,rfl⟩:=Hd.1 hf;cases J3 e;obtain⟨v,rfl,a,xs,rfl,ha,hd⟩:=hZ h1 rfl;cases bR hd;exact uL hc pins s σ H _ us Q I r ⟨a,ns,rfl,SqL.of<|d4 _ _ ha,q _ H (d9.refl H) b7.int⟩
 .obtain⟨ns,e,rfl⟩:=Hd.1 hf;cases J3 e;obtain⟨v,rfl,a,xs,rfl,ha,hd⟩:=hZ h1 rfl;cases bR hd;exact oZ hc pins s σ H _ us Q I r ⟨a,ns,rfl,ha.same d4,q _ H (d9.refl H) b7.int⟩
variable [Feeds]
end
end
section
section
variable {X:Cx}{K:Fg}
def bQ:List Int->Int
 | []=>0
 | [x]=>x
 | x::y::r=>max x<|bQ (y::r)
theorem iw:∀{ns:List Int} {n:Int},n∈ns->n<=bQ ns
 | [],n,h=>by cases h
 | [x],n,h=>by simp at h;subst h;exact Ja _
 | x::y::r,n,h=>by
  rw[bQ];rcases GK.1 h with rfl | h
  .omega
  .have:=iw (ns:=y::r) h;omega
theorem eO:∀{ns:List Int},ns≠[]->bQ ns∈ns
 | [],h=>absurd rfl h
 | [x],_=>by simp[bQ]
 | x::y::r,_=>by
  have:=eO (ns:=y::r) (by simp);rw[bQ];rcases Int.le_total x (bQ (y::r)) with z | z
  .rw[Int.max_eq_right z];exact Gq _ this
  .rw[Int.max_eq_left z];exact Gx
variable {mg:Str->Option Lz}
end
section
variable [Feeds]{X:Cx}{K:Fg}
def jj (i:Nat)(m:DE->M Out):DE->M Out:=λE F=>(V2 E i).bind λds=>m (E.set i<|some<|.dat<|.list ds) F
def AG {i:Nat}{ts:TS}{m:DE->M Out}(h:TSd K ts m):TSd K ts (jj i m):=λG B0 H0 E F σ H D r F' S e q=>by
 obtain⟨ds,e4,e⟩:=bS9 e;obtain⟨B,s,sn,I⟩:=S.ex;have eo:=O9 e4;have hil:i<E.length:=(GE.1 eo).1;obtain⟨w,w1,a,xs,rfl,hB,hf,hx,hdx⟩:=I.loc i _ eo;have ha:=S.own i ds a eo w1;have sub:∀b∈B.filter (λb=>decide (b≠a)),b∈B:=λb hb=>(GU.1 hb).1
 have inB:∀b∈B,b≠a->b∈B.filter (λb=>decide (b≠a)):=λb hb hn=>GU.2 ⟨hb,GX hn⟩
 have ng:a ∉ B.filter (λb=>decide (b≠a)):=λhb=>absurd rfl<|Hf (GU.1 hb).2
 have sm:d9 (hid H B) (hid H<|B.filter<|λb=>decide (b≠a)):=N8 sub;have get:∀j,j≠i->(E.set i<|some<|.dat<|.list ds)[j]? = E[j]?:=λj hj=>by rw[Gu<|Ie hj]
 have geti:(E.set i<|some<|.dat<|.list ds)[i]? = some (some<|.dat<|.list ds):=by rw[GA hil]
 refine h G B0 H0 (E.set i<|some<|.dat<|.list ds) F σ H D r F' ⟨⟨_,λb hb=>inB b (s b hb) λz=>ha.2<|z▸hb,λb hb=>sn b<|sub b hb,⟨I.fd,λb hb=>inB b (I.fB b hb) λz=>hf<|z▸hb,λb hb=>I.bk b<|sub b hb,by rw[Hn];exact I.ln,λj x ej=>?_⟩⟩,S.fB,S.kp,λj es b ej=>?_,λj k es fs b ej ek=>?_,S.dic.set1 nofun⟩ e q
 .by_cases hj:j=i
  .subst hj;rw[geti]at ej;cases ej;refine⟨_,w1,b7.lst (by rw[i4 ng];exact hx)<|hdx.same sm⟩
  .rw[get j hj]at ej;obtain⟨v,v1,hv⟩:=I.loc j x ej;refine⟨v,v1,?_⟩;cases x with
   | dat d=>exact b7.same (hv:b7 _ _ _ _) sm
   | feed=>exact hv
   | fn _=>exact hv
   | adr _=>exact hv
   | own es =>
    obtain⟨b,ys,e1,hb1,hb2,hb3,hb4⟩:=hv;subst e1;exact⟨b,ys,rfl,inB b hb1 λz=>hj<|S.inj j i es ds a ej eo (z▸v1) w1,hb2,hb3,hb4.same sm⟩
   | dic w c ps =>
    obtain⟨b,ys,e1,hb1,hb2,hb3,hn,hb4⟩:=hv;subst e1;exact⟨b,ys,rfl,inB b hb1 λz=>(by rw[z,hx]at hb3;cases hb3),hb2,hb3,hn,hb4.same sm⟩
 .by_cases hj:j=i
  .subst hj;rw[geti]at ej;cases ej
  .rw[get j hj]at ej;exact S.own j es b ej
 .by_cases hj:j=i
  .subst hj;rw[geti]at ej;cases ej
  .by_cases hk:k=i
   .subst hk;rw[geti]at ek;cases ek
   .rw[get j hj]at ej;rw[get k hk]at ek;exact S.inj j k es fs b ej ek
def sy (i:Nat){st:LJ}{ts:TS}{m:DE->M Out}(h:Ss K X st ts m):Ss K X st ts (jj i m):=⟨h.ps,AG h.ok⟩
end
end
section
def len_1 {us:List Lz}(h:us.length=1):∃a,us=[a]:=List.length_eq_one_iff.1 h
def xA {us:List Lz}{n:Nat}(h:us.length=n+1):∃a r,us=a::r/\r.length=n:=by
 cases us with
 | nil=>cases h
 | cons a r=>exact⟨a,r,rfl,Nat.succ.inj h⟩
def yf {us:List Lz}(h:us.length=2):∃a b,us=[a,b]:=by
 obtain⟨a,r,rfl,h2⟩:=xA h;obtain⟨b,rfl⟩:=len_1 h2;exact⟨a,b,rfl⟩
def Bk {us:List Lz}(h:us.length=3):∃a b c,us=[a,b,c]:=by
 obtain⟨a,r,rfl,h2⟩:=xA h;obtain⟨b,c,rfl⟩:=yf h2;exact⟨a,b,c,rfl⟩
def wo (B A:List LA):List LA:=B.filter λb=>decide (b ∉ A)
def lC {B A:List LA}{b:LA}:b∈wo B A↔b∈B/\b ∉ A:=by unfold wo;rw[GU];simp
end
section
def Ac?:Ac->Option Int
 | .int i=>some i
 | _=>none
def sJ?:Ac->Option Int
 | .bool b=>some (if b then 1 else 0)
 | _=>none
def cE (ks:List Ac):Option (List Int):=match ks.mapM Ac? with
 | some r=>some r
 | none=>ks.mapM sJ?
def vOf:Ac->V
 | .int i=>.int i
 | .bool b=>.bl b
 | _=>.non
theorem ke:∀{ks:List Ac} {ns:List Int},ks.mapM Ac? = some ns->ks=ns.map .int
 | [],ns,h=>by simp at h;subst h;rfl
 | k::ks,ns,h=>by
  rw[IS]at h;obtain⟨a,e1,h⟩:=bS9 h;obtain⟨r,e2,h⟩:=bS9 h;cases h;rw[ke e2];cases k <;> cases e1;rfl
theorem gj:∀{ks:List Ac} {ns:List Int},ks.mapM sJ? = some ns->∃bs:List Bool,ks=bs.map .bool/\ns=bs.map λb=>if b then 1 else 0
 | [],ns,h=>by simp at h;subst h;exact⟨[],rfl,rfl⟩
 | k::ks,ns,h=>by
  rw[IS]at h;obtain⟨a,e1,h⟩:=bS9 h;obtain⟨r,e2,h⟩:=bS9 h;cases h;obtain⟨bs,rfl,rfl⟩:=gj e2;cases k with
  | bool b=>cases e1;exact⟨b::bs,rfl,rfl⟩
  | _=>cases e1
def rl {ks:List Ac}{ns:List Int}(h:cE ks=some ns):cN (ks.map vOf)/\(ks.map vOf).map fG=ns/\∀k∈ks,∀(K:Fg) (H:Hp) (v:V),b7 K H k v->v=vOf k:=by
 unfold cE at h;split at h
 .rename_i r e;cases h;rw[ke e];refine⟨.inl λk hk=>?_,?_,λk hk K H v hv=>?_⟩
  .simp only[GL,GW]at hk;obtain⟨n,_,rfl⟩:=hk;exact⟨n,rfl⟩
  .rw[GL,GL];exact(GO λn _=>rfl).trans<|List.map_id _
  .obtain⟨n,_,rfl⟩:=GW.1 hk;simp only[b7]at hv;exact hv
 .obtain⟨bs,rfl,rfl⟩:=gj h;refine⟨.inr λk hk=>?_,?_,λk hk K H v hv=>?_⟩
  .simp only[GL,GW]at hk;obtain⟨n,_,rfl⟩:=hk;exact⟨n,rfl⟩
  .rw[GL,GL];exact GO λn _=>rfl
  .obtain⟨n,_,rfl⟩:=GW.1 hk;simp only[b7]at hv;exact hv
inductive Al (K:Fg) (H:Hp):List (Int×Ac)->List (Int×V)->Prop
 | nil:Al K H [] []
 | cons {k:Int} {d:Ac} {v:V} {l m}:b7 K H d v->Al K H l m->Al K H ((k,d)::l) ((k,v)::m)
theorem Al.ins {K:Fg}{H:Hp}{k:Int}{d:Ac}{v:V}(h:b7 K H d v):∀{l m},Al K H l m->Al K H (T6 (k,d) l) (T6 (k,v) m)
 | _,_,.nil=>.cons h .nil
 | _,_,.cons (k:=k') h' r=>by
  simp only[T6];split
  .exact .cons h<|.cons h' r
  .exact .cons h'<|Al.ins h r
theorem Al.sort {K:Fg}{H:Hp}:∀{l m},Al K H l m->Al K H (p7 l) (p7 m)
 | _,_,.nil=>.nil
 | _,_,.cons h r=>Al.ins h r.sort
theorem Al.dats {K:Fg}{H:Hp}:∀{l m},Al K H l m->a8 K H (l.map Prod.snd) (m.map Prod.snd)
 | _,_,.nil=>a8.nil
 | _,_,.cons h r=>a8.cons h r.dats
theorem kQ {K:Fg}{H:Hp}:∀{ns:List Int} {ds:List Ac} {xs:List V},a8 K H ds xs->Al K H (ns.zip ds) (ns.zip xs)
 | [],_,_,_=>.nil
 | n::ns,[],xs,h=>by
  have e:xs=[]:=Il.1 (by rw[h.length];rfl);subst e;exact .nil
 | n::ns,d::ds,xs,h=>by
  cases xs with
  | nil=>have:=h.length;simp at this
  | cons x xs =>
   simp only[a8]at h;obtain⟨y,ys,e,h1,h2⟩:=h;cases e;exact .cons h1<|kQ h2
section
variable [Feeds]{K:Fg}{X:Cx}
structure LamB (K:Fg) (mg:Str->Option Lz) (base:LL) (x:Str) (fd:LI) (c P:LA):Prop where
 mem:(x,c,P)∈tabsK Feeds.lam K
 code:fd.code = .ref c
 hd:PySem.W.CodeHd base c P
 bm:BMd base mg
 nd:(tabP K).Nodup
noncomputable def cJ (me:DE->M Ac)(E0:DE):List Ac->M (List Ac)
 | []=>λF=>some ([],F)
 | d::r=>λF=>(me (some (.dat d)::E0) F).bind λp=>(cJ me E0 r p.2).bind λq=>some (p.1::q.1,q.2)
def sSK (ma:DE->M (List Ac))(cap:List Nat)(me:DE->M Ac):DE->M Ac:=λE F=>(ma E F).bind λp=>match p.1 with
 | [.list ds]=>if ds.length<64 then(cJ me (cap.map λj=>(E[j]?).join) ds p.2).bind λq=>(cE q.1).bind λns=>some (.list<|(p7<|ns.zip ds).map Prod.snd,q.2) else none
 | _=>none
theorem bG {me:DE->M Ac}{E0:DE}:∀{ds:List Ac} {F:FS} {ks:List Ac} {F':FS},cJ me E0 ds F=some (ks,F')->ks.length=ds.length
 | [],F,ks,F',h=>by cases h;rfl
 | d::r,F,ks,F',h=>by
  obtain⟨p,_,h⟩:=bS9 h;obtain⟨q,e,h⟩:=bS9 h;cases h;simp[bG (F:=p.2) (ks:=q.1) (F':=q.2) e]
theorem af {α β:Type}{f:α->β}:∀{l:List α},(l.map f).Nodup->∀{a b},a∈l->b∈l->f a=f b->a=b
 | [],_,_,_,h,_,_=>by simp at h
 | x::l,h,a,b,ha,hb,e=>by
  rw[GH,IJ]at h;rcases GK.1 ha with e1 | ha1
  .rcases GK.1 hb with e2 | hb1
   .rw[e1,e2]
   .exact absurd (by rw[<-e1,e];exact IB hb1) h.1
  .rcases GK.1 hb with e2 | hb1
   .exact absurd (by rw[<-e2,<-e];exact IB ha1) h.1
   .exact af h.2 ha1 hb1 e
def vo {G:GF}{H H2:Hp}{F:FS}{x:Str}{c P:LA}(hm:(x,c,P)∈tabsK Feeds.lam K)(nd:(tabP K).Nodup)(f:FAt K G H F)(g:Ax P (jn x) H H2)(hT:fH H2 P (jn x)):Kp (j8 K G) H H2/\FAt K G H2 F:=by
 rcases g with rfl | ⟨ps,more,c',hP,hc',hcP,rfl⟩
 .exact⟨Kp.refl,f⟩
 .have hPf:P∈tabP K:=IB (f:=λt:Str×LA×LA=>t.2.2) hm;have stay:∀b o,H b=some o->b≠P->upd (upd H P<|.tbl<|ps++more) c' (cdO c'<|jn x) b=some o:=λb o e hb=>by
   rw[d7<|f9 e hc',d7 hb];exact e
  have ne:∀{b o},H b=some o->NoT o->b≠P:=λ{b o} e h z=>by
   rw[z,hP]at e;exact h.1 _ (Gy e).symm
  refine⟨λb o e hb=>stay b o e λz=>hb<|z▸iI hPf,?_,λt ht=>?_⟩
  .cases G with
   | none=>trivial
   | some p =>
    obtain⟨d,c0⟩:=p
    obtain⟨o1,a1,b1⟩:=Feeds.some1 f.1
    obtain⟨o2,a2,b2⟩:=Feeds.some2 f.1
    exact Feeds.congr f.1 (by rw[a1];exact stay _ _ a1<|ne a1 b1) (by rw[a2];exact stay _ _ a2<|ne a2 b2)
  .by_cases htP:t.2.2=P
   .have e:t=(x,c,P):=af (f:=λt:Str×LA×LA=>t.2.2) nd ht hm htP;rw[e];exact hT
   .obtain⟨qs,h1,h2,h3⟩:=f.2 t ht;refine⟨qs,stay _ _ h1 htP,h2,λpos cv q=>?_⟩;obtain⟨c2,r1,r2⟩:=h3 pos cv q;exact⟨c2,r1,stay _ _ r2 λz=>by rw[z,hP]at r2;cases r2⟩
def sr {G:GF}{H:Hp}{F:FS}{c:LA}{q:Str}(f:FAt K G H F)(h:H c=some (cdO c q)):c ∉ j8 K G:=λz=>by
 have tb:c∈tabP K->False:=λz=>by
  obtain⟨t,ht,e⟩:=GW.1 z;obtain⟨ps,h1,_⟩:=f.2 t ht;rw[e,h]at h1;cases h1
 cases G with
 | none=>exact tb z
 | some p =>
  obtain⟨d,c0⟩:=p;simp only[j8,GK]at z;rcases z with rfl | rfl | z
  .obtain⟨o,e,hn⟩:=Feeds.some1 f.1;rw[h]at e;exact hn.2 _ (Gy e).symm
  .obtain⟨o,e,hn⟩:=Feeds.some2 f.1;rw[h]at e;exact hn.2 _ (Gy e).symm
  .exact tb z
def SitE.lamS {G:GF}{B:List LA}{E:DE}{F F':FS}{σ:St}{H H':Hp}{d:Ac}{v:V}(I:SitE K G B E F σ H)(k:Kp (j8 K G) H H')(f:FAt K G H' F')(h:b7 K (hid H' B) d v)(cap:List Nat) :
  SitE K G B (some (.dat d)::cap.map λj=>(E[j]?).join) F' (aD v cap σ) H':=by
 have J:=(I.step k f).cap 0 cap;refine⟨f,I.fB,J.bk,by simp[aD],λi x e=>?_⟩;cases i with
 | zero =>
  have e:some (some<|DV.dat d)=some (some x):=e;cases e;exact⟨v,rfl,h⟩
 | succ i=>exact J.loc i x e
def uq {e:LK}{params:Arguments}{body:LK}{scope osc:LH}{p pos lpos kp:Pos}{c P:LA}{x y:Str}{N:List Str}{cap:List Nat}{ta:TA}{ma:DE->M (List Ac)}{te:TE}{me:DE->M Ac}{k:Nat}{fd:LI}
  (LB:LamB K X.mg X.base x fd c P) (hK:X.K=K) (hm:X.mg "sorted" = none) (hr:Room k X.A) (hc:X.calm=true) (ha:Ea K X [e] ta ma) (hosc:X.env.scope=osc) (L:LamOk X.N osc y N cap scope)
  (hcode:X.env.code = .ref c) (hq:X.env.qual ++ "<lambda>" = jn x)
  (hE:∀cl f c' Y s H,Ev K (cxL X N (jn x) scope cl f c' Y s H) body te me)
  (hdef:defaultsOf params X.env=([],[]):=by rfl)
  (hbind:∀(cl:List (Str×LA)) (pm:Lz) (c':LA) (ctv u:Lz),bindArgs (PySem.W.kla_fn "<lambda>" (jn x) params body scope cl pm (.ref c') ctv) ⟨[u],[]⟩=pure [(y,u)]:=by intros;rfl)
  (hg:Gl X "sorted":=by rfl) (hs:LN [e] X.env=[(false,eval e X.env)]:=by rfl) :
  Ev K X (.Call (.Name "sorted" p) [e] [⟨some "key",.Lambda params body scope lpos,kp⟩] pos) (tSK K P (jn x) cap ta te) (sSK ma cap me):=by
 subst hK;refine⟨BO hg hm hr hc ha.pa hdef hosc L hcode LB.hd LB.bm hq hbind (λcl f c' Y s H=>(hE cl f c' Y s H).pe) hs,λG B E F σ H Q d F' I e q=>?_⟩;obtain⟨⟨as,F1⟩,e1,e⟩:=bS9 e;refine ha.ok G B E F σ H _ as F1 I e1 λvs H1 k1 f1 h1=>?_
 dsimp only at e;split at e;case h_2=>cases e
 rename_i ds;split at e;case isFalse=>cases e
 rename_i h64;obtain⟨⟨kds,F2⟩,e2,e⟩:=bS9 e;obtain⟨ns,e3,e⟩:=bS9 e;cases e;obtain⟨hko,hnum,hv⟩:=rl e3;obtain⟨l,xs,rfl,hl,hd⟩:∃l xs,vs=[.ref l]/\hid H1 B l=some (.lst xs)/\a8 X.K (hid H1 B) ds xs:=by
  simp only[a8]at h1;obtain⟨v,r,rfl,h2,rfl⟩:=h1;simp only[b7]at h2;obtain⟨l,xs,rfl,h3,h4⟩:=h2;exact⟨l,xs,rfl,h3,h4⟩
 have xl:=hd.length;refine⟨l,xs,rfl,SqL.of<|d4 _ _ hl,by omega,f1.2 _ LB.mem,λH2 gr hT2 c' hc'=>?_⟩;obtain⟨k2,f2⟩:=vo LB.mem LB.nd f1 gr hT2;have hlB:l ∉ j8 X.K G:=λz=>by
  rw[x6<|I.fB l z]at hl;cases hl
 refine⟨λi H'=>∃Fi rest,Kp (j8 X.K G) H2 H'/\FAt X.K G H' Fi/\cJ me (cap.map λj=>(E[j]?).join) (ds.drop i) Fi=some (rest,F2)/\kds.drop i=rest,kds.map vOf,by rw[Gi,bG e2,xl],hko,
  SqL.of (k2 l _ (d4 _ _ hl) hlB),⟨F1,kds,Kp.refl,f2,e2,rfl⟩,λi H' ⟨Fi,rest,a1,a2,_⟩=>a1 _ _ hc'<|sr f2 hc',λi v H' hx ⟨Fi,rest,a1,a2,a3,a4⟩=>?_,λa H' ys ⟨Fi,rest,a1,a2,a3,a4⟩ Ha o=>?_⟩
 .have hd':=hd.same<|(k2.trans a1).hid I.fB;obtain⟨dd,hdd,hdv⟩:=hd'.get hx;have edr:ds.drop i=dd::ds.drop (i+1):=by
   have hi:=(GE.1 hdd);obtain⟨hi,e⟩:=hi;rw[IF hi,e]
  rw[edr]at a3;obtain⟨⟨kk,Fk⟩,g1,g⟩:=bS9 a3;obtain⟨⟨kr,Fr'⟩,g2,g⟩:=bS9 g;cases g;have hki:kds[i]? = some kk:=by
   have:=HJ (λl=>l[0]?) a4;simpa using this
  refine(hE [] 0 0 X.A X.s₀ H').ok G B _ Fi _ H' _ kk Fk (I.lamS ((k1.trans k2).trans a1) a2 hdv cap) g1 λw H3 k3 f3 h3=>?_
  refine⟨?_,Fk,kr,a1.trans k3,f3,g2,?_⟩
  .rw[GC,hki,hv kk (HF hki) _ _ _ h3];rfl
  .have:=HJ List.tail a4;simpa using this
 .have hend:cJ me (cap.map λj=>(E[j]?).join) (ds.drop xs.length) Fi=some ([],Fi):=by rw[xl,Jq];rfl
  rw[hend]at a3;cases a3;have ey:=ky o (by rw[Gi,bG e2,xl]);rw[hnum]at ey;subst ey;have bk':=w4 I.bk ((k1.trans k2).trans a1) a2;have hdz:=(kQ (ns:=ns)<|hd.same<|(k2.trans a1).hid I.fB).sort.dats;exact q _ _ (((k1.trans k2).trans a1).trans<|Kp.upd Ha) (a2.same<|d9.upd Ha)<|J8 bk' Ha hdz
end
end
section
def lS (p:Int):List Int->List Int
 | []=>[p]
 | q::r=>if p<=q then p::q::r else q::lS p r
def kf:List Int->List Int
 | []=>[]
 | p::r=>lS p<|kf r
theorem cf (p:Int):∀l:List Int,(lS p l).Perm (p::l)
 | []=>.refl _
 | q::r=>by
  rw[lS];split
  .exact .refl _
  .exact((cf p r).cons q).trans<|.swap p q r
theorem aw:∀l:List Int,(kf l).Perm l
 | []=>.refl _
 | p::r=>(cf p _).trans<|(aw r).cons p
theorem nU {p:Int}:∀{l:List Int},l.Pairwise (· <= ·)->(lS p l).Pairwise (· <= ·)
 | [],_=>by simp[lS]
 | q::r,h=>by
  rw[GZ]at h;rw[lS];split
  .rename_i hle;refine GZ.2 ⟨λz hz=>?_,GZ.2 h⟩;rcases GK.1 hz with rfl | hz
   .exact hle
   .have:=h.1 z hz;omega
  .rename_i hgt;refine GZ.2 ⟨λz hz=>?_,nU h.2⟩;rcases GK.1 ((cf p r).mem_iff.mp hz) with rfl | hz
   .omega
   .exact h.1 z hz
theorem eE:∀l:List Int,(kf l).Pairwise (· <= ·)
 | []=>.nil
 | p::r=>nU<|eE r
theorem bZ:∀{l₁ l₂:List Int},l₁.Perm l₂->l₁.Pairwise (· <= ·)->l₂.Pairwise (· <= ·)->l₁=l₂
 | [],l₂,p,_,_=>p.nil_eq
 | a::r,[],p,_,_=>by have:=p.length_eq;simp at this
 | a::r,b::t,p,h1,h2=>by
  rw[GZ]at h1 h2;have ab:a=b:=by
   rcases GK.1 (p.mem_iff.1<|Gx (a:=a) (l:=r)) with e | e
   .exact e
   .rcases GK.1 (p.mem_iff.2<|Gx (a:=b) (l:=t)) with e2 | e2
    .exact e2.symm
    .have q1:=h2.1 a e;have q2:=h1.1 b e2;omega
  subst ab;rw[bZ (p.cons_inv) h1.2 h2.2]
def ip:Ac->Option Int
 | .tuple (.int n::_)=>some n
 | _=>none
def bj:List Ac->Option Ac
 | [.list ds]=>match G5 ds with
  | some ns=>if ns.length<64 then some (.list<|(kf ns).map .int) else none
  | none=>(ds.mapM ip).bind λns=>if ns.Nodup/\ns.length<64 then some (.list<|(p7<|ns.zip ds).map Prod.snd) else none
 | _=>none
theorem nN {K:Fg}{H H':Hp}(s:d9 H H'):∀{ds:List Ac} {ns:List Int} {zs:List V},ds.mapM ip=some ns->a8 K H ds zs->iU K H' ns zs
 | [],ns,zs,e,h=>by
  simp at e;subst e;exact Il.1 (by rw[h.length];rfl)
 | d::ds,ns,zs,e,h=>by
  rw[IS]at e;obtain⟨n,e1,e⟩:=bS9 e;obtain⟨ns',e2,e⟩:=bS9 e;cases e;simp only[a8]at h;obtain⟨z,zs',rfl,h1,h2⟩:=h;unfold ip at e1;split at e1
  .cases e1;obtain⟨t,xs,rfl,hq,hd⟩:=h1.ofTup;simp only[a8]at hd;obtain⟨v,r,rfl,hv,_⟩:=hd;simp only[b7]at hv;subst hv;exact⟨t,r,zs',rfl,hq.same s,nN s e2 h2⟩
  .cases e1
theorem ko {α β:Type}{f:α->Option β}:∀{l:List α} {m:List β},l.mapM f=some m->m.length=l.length
 | [],m,e=>by simp at e;subst e;rfl
 | a::l,m,e=>by
  rw[IS]at e;obtain⟨b,_,e⟩:=bS9 e;obtain⟨m',e2,e⟩:=bS9 e;cases e;simp[ko e2]
theorem fV {K:Fg}{H:Hp}:∀ns:List Int,a8 K H (ns.map .int) (ns.map V.int)
 | []=>a8.nil
 | n::ns=>a8.cons b7.int<|fV ns
section
variable [Feeds]{K:Fg}{X:Cx}
def gg (hK:X.K=K):E7 X (.builtin "sorted") (rDN K bj):=by
 intro pins s σ H xs us Q I r h;obtain⟨fp,B,ds,z,bk,h1,hf,q⟩:=h;unfold bj at hf;split at hf <;> try cases hf
 split at hf
 .rename_i ns e;split at hf;case isFalse=>cases hf
  rename_i h64;cases hf;cases J3 e;obtain⟨v,rfl,a,xs,rfl,ha,hd⟩:=hZ h1 rfl;cases bR hd;refine jd hK pins s σ H _ us Q I r ⟨a,ns,rfl,SqL.of<|d4 _ _ ha,h64,λp ns' hp pm pw=>?_⟩;cases bZ (pm.trans (aw ns).symm) pw (eE ns);exact q _ _ (d9.upd hp)<|J8 bk hp<|fV _
 .obtain⟨ns,e,hf⟩:=bS9 hf;split at hf;case isFalse=>cases hf
  rename_i hc;cases hf;obtain⟨v,rfl,a,xs,rfl,ha,hd⟩:=hZ h1 rfl;refine my hK pins s σ H _ us Q I r ⟨a,xs,ns,rfl,SqL.of<|d4 _ _ ha,nN d4 e hd,hc.1,hc.2,λp ys hp o=>?_⟩;have ey:=ky o (by rw[Gi,ko e,hd.length]);rw[GL,show(fG ∘ V.int)=id from rfl,List.map_id]at ey;subst ey;exact q _ _ (d9.upd hp)<|J8 bk hp (kQ (ns:=ns) hd).sort.dats
end
end
end L3
namespace L2
open PySem PySem.Spec PyProof.Rows
section
variable {P:LD}{w:LF}{K:Fg}{mg:Str->Option Lz}{base:LL}
def Fun.okC {x qual:Str}{st:LJ}{f:LA}{fd:LI}{N ps:List Str}{k:Nat}{sp:Sp}(F:Fun K x qual st f fd)(S:FnScope N ps (defScope st))(len:∀vs H Q E,sp vs H Q E->vs.length=ps.length)
  (hbody:∀(cdv:Lz) (A:LG) (outer:List LQ) (s:LC) (H:Hp) (vs:List V) (Q:VK) (E:XK),fd.code=cdv->Room k (A.deeper<|envOfC qual (defScope st) s.heap.objs.size f cdv)->sp vs H Q E ->
   ∃t,PSs (Q9 CX0 P w K mg base N qual (defScope st) f cdv A outer s H E).nox (defBody st) t/\t { nx:=λ_ H'=>Q .non H',rt:=Q } (P1 N vs) H):FnOk P w K mg base CX0 (k+1) f fd ps sp:=by
 obtain⟨oc,od,kV,doc,pm,an,cdv,ct,osl,rfl,lk,hcd⟩:=F.ex;refine xT lk hcd S len λA outer s H vs Q E hr hsp=>?_
 obtain⟨t,h,q⟩:=hbody cdv A outer s H vs Q E rfl hr hsp;exact⟨t,h.nox,q⟩
end
end L2
namespace L3
open PySem PySem.Spec PyProof.Rows L2
section
section
variable [Feeds]{P:LD}{w:LF}{K:Fg}{mg:Str->Option Lz}{base:LL}
def mS {x qual:Str}{st:LJ}{f:LA}{fd:LI}{N ps:List Str}{k:Nat}{m:DE->M Out}(Fn:Fun K x qual st f fd)(S:FnScope N ps (defScope st))
  (hbody:∀(cdv:Lz) (A:LG) (outer:List LQ) (s:LC) (H:Hp) (E:XK),fd.code=cdv->Room k (A.deeper<|envOfC qual (defScope st) s.heap.objs.size f cdv) ->
   ∃ts,Sss K (Q9 CX0 P w K mg base N qual (defScope st) f cdv A outer s H E).nox (defBody st) ts m):FnOk P w K mg base CX0 (k+1) f fd ps (spD K ps.length<|S4 N m):=by
 refine Fn.okC S (λvs H Q E h=>?_) (λcdv A outer s H vs Q E hcd hr h=>?_)
 .obtain⟨G,B,F,args,d,F',hl,_⟩:=h;exact hl
 .obtain⟨G,B,F,args,d,F',hl,fB,bk,fa,ha,hm,q⟩:=h;obtain⟨ts,hts⟩:=hbody cdv A outer s H E hcd hr;refine⟨ts,hts.ps,?_⟩;obtain⟨⟨o,F1⟩,e1,e⟩:=bS9 hm;refine hts.ok G B H (v5 N args) F (L2.P1 N vs) H _ o F1 (gf fB bk fa ha) e1 ?_;cases o with
  | rt d'=>cases e;exact λv H' k1 f1 h1=>q v H' k1 f1 h1
  | nx E'=>cases e;exact λσ' H' S'=>q _ H' S'.kp (by obtain⟨B,_,_,I⟩:=S'.ex;exact I.fd) b7.non
  | bk E'=>cases e
  | ct E'=>cases e
end
end
section
abbrev AY:=List<|Str×LA×LA
def yy (ts:AY)(h:LL):Prop:=∀t∈ts,PySem.W.CodeHd h t.2.1 t.2.2/\h.get? t.2.2=some (PySem.W.tabObj #[])
def oS {P:LD}{w:LF}{K:Fg}{mg mb:Str->Option Lz}{CX:CXT}{k:Nat}{fa a:LA}{fd:LI}{x:Str}{sp:Sp}{s₁:LC}{vs:List Lz}{ns:List Int}{ts:AY}
  (KX:K.In s₁.heap) (hns:s₁.heap.Ns LV mg) (hb:s₁.heap.Ns builtinsNs mb) (hbb:∀x:Str,x ≠ "__name__"->mb x=LZ x) (hlim:s₁.heap.NoLimit) (hg:s₁.gens = #[])
  (ha:s₁.heap.get? a=some { cls:=.type "list",data:=.seq vs.toArray }) (hi:IntsAre vs ns) (hl:ns.length<=LM) (hr:Room k callerA)
  (hT:yy ts s₁.heap) (hnt:PySem.W.noTabs K=true) (BM:BMd s₁.heap mg)
  (F:∀base:LL,K.In base->base.Ns LV mg->BMd base mg->(∀t∈ts,PySem.W.CodeHd base t.2.1 t.2.2)->FnOk P w K mg base CX k fa fd [x] sp) (hbind:∀(s:LC) (u:Lz),BindsTo s fd ⟨[u],[]⟩ [(x,u)])
  (hsp:∀H:Hp,SqL K H a (ns.map V.int)->C6 ts H->sp [.ref a] H (λv _=>v = .bl true) λ_ _ _=>False)
  (hCX:∀H e s',CX [] H s₁ (λ_ _ _=>False) e s'->False) :
  codeAny (model P w) callerA (.call (.ref fa) ⟨[.ref a],[]⟩) (λr s'=>r = .ok (.ret<|.bool true)/\OldK s₁.heap s'.heap/\s'.os=s₁.os/\AllBare s'.gens) s₁:=by
 have rv:=bP hi;have lenV:=hi.length;have aP:∀t∈ts,t.2.2≠a:=λt ht e=>by
  have:=(hT t ht).2;rw[e,ha]at this;cases this
 have core:∀H:Hp,(∀b,H b=none\/(b=a/\H b=some (.frz { cls:=.type "list",data:=.seq vs.toArray }<|.lst<|ns.map V.int))\/(b∈ts.map (·.2.2)/\H b=some (.tbl #[])))->(∀t∈ts,H t.2.2=some (.tbl #[]))->SqL K H a (ns.map V.int)->(H a≠none->K.lookup a=none) ->
   codeAny (model P w) callerA (.call (.ref fa) ⟨[.ref a],[]⟩) (λr s'=>r = .ok (.ret<|.bool true)/\OldK s₁.heap s'.heap/\s'.os=s₁.os/\AllBare s'.gens) s₁:=by
  intro H hO hTH hS hK;have tabO:∀{b:LA},b∈ts.map (·.2.2)->s₁.heap.get? b=some (PySem.W.tabObj #[]):=λ{b} hb=>by
   obtain⟨t,ht,rfl⟩:=GW.1 hb;exact(hT t ht).2
  have hok:HOk P w H s₁.heap:=λb u e=>by
   rcases hO b with z | ⟨rfl,z⟩ | ⟨hb,z⟩
   .rw[z]at e;cases e
   .rw[z]at e;cases e;exact⟨ha,by rw[Gi];exact hl,vs,_,rv,ha⟩
   .rw[z]at e;cases e;exact tabO hb
  have base_of:∀{b:LA} {o:LO},s₁.heap.get? b=some o->H b=none->(dS s₁.heap H).get? b=some o:=λe n=>uW e n
  have other:∀{b:LA} {o:LO},s₁.heap.get? b=some o->o≠{ cls:=.type "list",data:=.seq vs.toArray }->o≠PySem.W.tabObj #[]->H b=none:=λ{b o} e h1 h2=>by
   rcases hO b with z | ⟨rfl,z⟩ | ⟨hb,z⟩
   .exact z
   .rw[ha]at e;exact absurd (Gy e).symm h1
   .rw[tabO hb]at e;exact absurd (Gy e).symm h2
  have nsK:∀{b:LA} {m:Str->Option Lz},s₁.heap.Ns b m->(dS s₁.heap H).Ns b m:=λ{b m} ⟨o,es,ep,e,d,r⟩=>⟨o,es,ep,base_of e (other e (λz=>by rw[z]at d;cases d) λz=>by rw[z]at d;cases d),d,r⟩
  have hKb:K.In (dS s₁.heap H):=λb o e=>base_of (KX b o e) (by
   rcases hO b with z | ⟨rfl,z⟩ | ⟨hb,z⟩
   .exact z
   .rw[hK (by rw[z];simp)]at e;cases e
   .have e2:=KX b o e;rw[tabO hb]at e2;cases e2;have h2:=Lq.1 hnt _<|PySem.W.mem_of_lookupK e;exact absurd (show false=true from h2) GQ)
  have hM:Mod K mg (dS s₁.heap H):=⟨hKb,nsK hns,⟨mb,nsK hb,hbb⟩,let ⟨mc,h1,h2⟩:=hlim;⟨mc,nsK h1,h2⟩⟩;have hBM:BMd (dS s₁.heap H) mg:=by
   obtain⟨bm,ob,b1,b2,b3,b4,b5,b6⟩:=BM;exact⟨bm,ob,b1,b2,base_of b3 (other b3 (λz=>by rw[z]at b4;have b4:Lz.type "list" = Lz.type "module":=b4;exact absurd b4<|by decide) λz=>by rw[z]at b4;have b4:Lz.none=Lz.type "module":=b4;exact absurd b4<|by decide),b4,b5,b6⟩
  have hCd:∀t∈ts,PySem.W.CodeHd (dS s₁.heap H) t.2.1 t.2.2:=λt ht=>by
   obtain⟨o,vs',file,tf,flags,tg,inF,text,tt,e1,r1,r2⟩:=(hT t ht).1;exact⟨o,vs',file,tf,flags,tg,inF,text,tt,base_of e1 (other e1 (λz=>by rw[z]at r1;have r1:Lz.type "list" = Lz.type "code":=r1;exact absurd r1<|by decide) λz=>by rw[z]at r1;have r1:Lz.none=Lz.type "code":=r1;exact absurd r1<|by decide),r1,r2⟩
  have e0:Env0 P w K mg (dS s₁.heap H) callerA [] s₁ H:=⟨rfl,hM,λb o e=>wX e,Nat.le_of_eq<|oM _ _,trivial,λb hb=>absurd (show b∈([]:List LA) from hb) (by simp),hok,.of_eq hg⟩;have hTO:C6 ts H:=λt ht=>⟨#[],hTH t ht,trivial,λpos cv e=>by cases e⟩
  refine codeAny_mono ((F _ hKb (nsK hns) hBM hCd).run callerA [] s₁ H ⟨[.ref a],[]⟩ [.ref a] [.ref a] _ _ hr e0 (hbind s₁<|.ref a) (.cons rfl .nil)<|hsp H hS hTO) λr s' h=>?_
  cases r with
  | error e=>exact(hCX H e s' h).elim
  | ok fl =>
   cases fl with
   | next=>exact False.elim h
   | brk=>exact False.elim h
   | cont=>exact False.elim h
   | ret u =>
    obtain⟨v,H',os,bare,un,hok',r',q⟩:=h;have q':v = .bl true:=q;subst q';obtain rfl:u=Lz.bool true:=r';have kept:∀b o,s₁.heap.get? b=some o->H b=none->s'.heap.get? b=some o:=λb o e q=>un.keep b o e q (by intro z;exact absurd (show b∈([]:List LA) from z)<|by simp) (by simp)
    have scr:∀b o,s₁.heap.get? b=some o->b=a->H b=some (.frz { cls:=.type "list",data:=.seq vs.toArray }<|.lst<|ns.map V.int)->s'.heap.get? b=some o:=λb o e hb z=>by
     have z2:=un.frzs b _ _ z;obtain⟨e1,_⟩:=hok b _ z;obtain⟨e2,_⟩:=hok' b _ z2;rw[e]at e1;cases e1;exact e2
    have tab:∀b,H b=some (.tbl #[])->∃more,s'.heap.get? b=some (PySem.W.tabObj more):=λb z=>by
     obtain⟨more,z2⟩:=un.tbls b _ z;exact⟨_,hok' b _ z2⟩
    refine⟨rfl,⟨λb o e=>?_,λb o e=>?_⟩,os,bare⟩
    .rcases hO b with z | ⟨hb,z⟩ | ⟨hb,z⟩
     .exact .inl<|kept b o e z
     .exact .inl<|scr b o e hb z
     .obtain⟨more,e2⟩:=tab b z;have e3:=tabO hb;rw[e]at e3;cases e3;obtain⟨t,ht,rfl⟩:=GW.1 hb;refine .inr (.inl ⟨((hT t ht).1.tab (hT t ht).2).isCodeTable,rfl,#[],more,rfl,by rw[Array.empty_append];exact e2⟩)
    .rcases hO b with z | ⟨hb,z⟩ | ⟨hb,z⟩
     .exact⟨o,kept b o e z⟩
     .exact⟨o,scr b o e hb z⟩
     .obtain⟨more,e2⟩:=tab b z;exact⟨_,e2⟩
 cases hk:K.lookup a with
 | some o =>
  have e:=KX a o hk;rw[ha]at e;cases e;have haT:a ∉ ts.map (·.2.2):=λz=>by
   obtain⟨t,ht,e⟩:=GW.1 z;exact aP t ht e
  refine core (λb=>if b∈ts.map (·.2.2) then some (.tbl #[]) else none) (λb=>?_) (λt ht=>Gp<|IB ht) (.inr ⟨_,vs.toArray,_,hk,rfl,rfl,rfl,by rw[Gw,lenV];exact hl,by simpa using rv⟩) λz=>absurd (Gr haT) z
  by_cases hb:b∈ts.map (·.2.2)
  .exact .inr<|.inr ⟨hb,Gp hb⟩
  .exact .inl<|Gr hb
 | none =>
  refine core (λb=>if b=a then some (.frz { cls:=.type "list",data:=.seq vs.toArray }<|.lst<|ns.map V.int) else if b∈ts.map (·.2.2) then some (.tbl #[]) else none) (λb=>?_) (λt ht=>?_) (.inl<|.inr ⟨{ cls:=.type "list",data:=.seq vs.toArray },Gp rfl⟩) λ_=>hk
  .by_cases hb:b=a
   .exact .inr<|.inl ⟨hb,Gp hb⟩
   .by_cases hb2:b∈ts.map (·.2.2)
    .exact .inr (.inr ⟨hb2,by rw[Gr hb,Gp hb2]⟩)
    .exact .inl (by rw[Gr hb,Gr hb2])
  .rw[Gr<|aP t ht];exact Gp (IB (f:=λt:Str×LA×LA=>t.2.2) ht)
def walk_ofT {l:PySem.W.OpenLaw}{n k:Nat}{q:LD}{loose:List Str}{XP:(Str->Option Lz)->LL->Prop}{YP:LF->LL->Prop}{d:DefRec}{K:Params->Fg}{CX:LF->CXT}{sp:LF->Sp}{x:Str}(lam:List Str)
  (hn:l.most=some n) (hn2:n<=LM) (hdf:d.params.defaults=[]) (hr:Room k callerA)
  (hrec:(lam.all λx=>((recsOf q).find? λe=>e.name == x).isSome)=true) (hnt:∀w:LF,PySem.W.noTabs (K w.params)=true)
  (hY:∀(w:LF) (h:LL),YP w h->(K w.params).In h)
  (F:∀(w:LF) (mg:Str->Option Lz) (fa:LA) (h:LL),(K w.params).In h->h.Ns LV mg->mg d.name=some (.ref fa) ->
   ∃fd:LI,(∀(s:LC) (u:Lz),BindsTo s fd ⟨[u],[]⟩ [(x,u)]) /\
    ∀base:LL,(K w.params).In base->base.Ns LV mg->BMd base mg->(∀t∈tabsK lam (K w.params),PySem.W.CodeHd base t.2.1 t.2.2)->FnOk l.prog w (K w.params) mg base (CX w) k fa fd [x] (sp w))
  (hsp:∀(w:LF) (H:Hp) (a:LA) (ns:List Int),ns.length<=n->SqL (K w.params) H a (ns.map V.int)->C6 (tabsK lam<|K w.params) H->sp w [.ref a] H (λv _=>v = .bl true) λ_ _ _=>False)
  (hCX:∀(w:LF) (H:Hp) (s:LC) (e:Lz) (s':LC),CX w [] H s (λ_ _ _=>False) e s'->False) :
  PySem.W.WalkO q loose XP YP l.row.toRowW d [] (λf vs=>PySem.call f vs):=by
 refine Att.attach_call hn hdf λw s₀ s₁ mg mb fa o pm cd doc a vs ns G Y ho hd hcd hmg hobj hints hlen hg=>?_
 have KX:=hY w _ Y;obtain⟨fd,hb,hF⟩:=F w mg fa _ KX G.T.g hmg;refine oS (ts:=tabsK lam<|K w.params) KX G.T.g G.T.b G.T.builtins G.T.nolimit hg hobj hints (He hlen hn2) hr (λt ht=>?_) (hnt w) G.T.bmain hF hb (λH hS hT=>hsp w H a ns hlen hS hT) λH e s'=>hCX w H s₁ e s'
 obtain⟨x,hx,e⟩:=Ka.1 ht;obtain⟨⟨c,P⟩,e1,e2⟩:=Hd.1 e;cases e2;obtain⟨dr,hdr⟩:=Jo.1<|Lq.1 hrec x hx;exact PySem.W.tab_of G.T KX hdr e1
def lamB_mk [Feeds]{K:Fg}{mg:Str->Option Lz}{base:LL}{x:Str}{f:LA}{oc:Lz}{od:Option LA}{fd:LI}{osl:Array (Option Lz)}(ga:PySem.W.nsIn K LV x=some (some<|.ref f))(gl:K.lookup f=some ⟨oc,od,.func fd,osl⟩)
  (hx:x∈(Feeds.lam:List Str)) (hs:(PySem.W.tabIn K x).isSome=true) (nd:(tabP K).Nodup) (BM:BMd base mg) (hC:∀t∈tabsK Feeds.lam K,PySem.W.CodeHd base t.2.1 t.2.2):∃c P,LamB K mg base x fd c P:=by
 obtain⟨⟨c,P⟩,e⟩:=Jo.1 hs;have hm:(x,c,P)∈tabsK Feeds.lam K:=Ka.2 ⟨x,hx,by rw[e];rfl⟩;refine⟨c,P,hm,?_,hC _ hm,BM,nd⟩;unfold PySem.W.tabIn at e;rw[ga]at e;simp only[gl]at e;split at e
 .rename_i c2 hc;split at e
  .split at e
   .cases e;exact hc
   .cases e
  .cases e
 .cases e
end
section
section
variable [Feeds]{K:Fg}{X:Cx}{e a b c:LK}{te:TE}{pos:Pos}
def tJ (K:Fg)(B:List LA)(H H':Hp):DV->V->Prop
 | .dat d,v=>b7 K (hid H' B) d v
 | .own ds,v=>∃a vs,v = .ref a/\H a=none/\H' a=some (.lst vs)/\a8 K (hid H' (a::B)) ds vs
 | .feed,_=>False
 | .fn _,_=>False
 | .adr _,_=>False
 | .dic w c ps,v=>w=true/\∃a φ,v = .ref a/\H a=none/\H' a=some (.ext φ)/\pT a φ/\kg K (hid H' (a::B)) c ps a φ
def fA (B:List LA):DV->V->List LA
 | .own _,.ref a=>a::B
 | .dic _ _ _,.ref a=>a::B
 | _,_=>B
def TCd (K:Fg)(te:TE)(mc:DE->M DV):Prop:=∀(G:GF) (B:List LA) (E:DE) (F:FS) (σ:St) (H:Hp) (Q:VK) (dv:DV) (F':FS),SitE K G B E F σ H->mc E F=some (dv,F') ->
 (∀v H',Kp (j8 K G) H H'->FAt K G H' F'->tJ K B H H' dv v->Q v H')->te σ H Q
structure Ec (K:Fg) (X:Cx) (e:LK) (te:TE) (m:DE->M DV):Prop where
 pe:PE X e te
 ok:TCd K te m
def cD (m:DE->M Ac):DE->M DV:=λE F=>(m E F).bind λp=>some (.dat p.1,p.2)
def cO (m:DE->M (List Ac)):DE->M DV:=λE F=>(m E F).bind λp=>some (.own p.1,p.2)
def Cg {m:DE->M Ac}(h:Ev K X e te m):Ec K X e te (cD m):=⟨h.pe,λG B E F σ H Q dv F' I e q=>by
 obtain⟨⟨d,F1⟩,e1,e⟩:=bS9 e;cases e;exact h.ok G B E F σ H _ d F1 I e1 λv H' k f r=>q v H' k f r⟩
def pK {m:DE->M (List Ac)}(h:Ef K X e te m):Ec K X e te (cO m):=⟨h.pe,λG B E F σ H Q dv F' I e q=>by
 obtain⟨⟨d,F1⟩,e1,e⟩:=bS9 e;cases e;exact h.ok G B E F σ H _ d F1 I e1 λa vs H' h1 h2 k f r=>q _ H' k f ⟨a,vs,rfl,h1,h2,r⟩⟩
section
variable {G:GF}{B B0:List LA}{E:DE}{F F1:FS}{σ:St}{H H1 H0:Hp}{dv:DV}{v:V}{i:Nat}
def zw (I:SitE K G B E F σ H)(k1:Kp (j8 K G) H H1)(r:tJ K B H H1 dv v):d9 (hid H B) (hid H1<|fA B dv v):=by
 cases dv with
 | dat d=>exact k1.hid I.fB
 | feed=>exact r.elim
 | fn _=>exact r.elim
 | adr _=>exact r.elim
 | own ds =>
  obtain⟨a,vs,rfl,hn,ha,h1⟩:=r;intro b o eb;by_cases hb:b∈B
  .rw[x6 hb]at eb;cases eb
  .rw[i4 hb]at eb;have hne:=f9 eb hn;show hid H1 (a::B) b=some o;rw[i4<|by simp[hne,hb]];exact k1 b o eb λz=>hb<|I.fB b z
 | dic w c ps =>
  obtain⟨_,a,vs,rfl,hn,ha,_,h1⟩:=r;intro b o eb;by_cases hb:b∈B
  .rw[x6 hb]at eb;cases eb
  .rw[i4 hb]at eb;have hne:=f9 eb hn;show hid H1 (a::B) b=some o;rw[i4<|by simp[hne,hb]];exact k1 b o eb λz=>hb<|I.fB b z
def aN:∀b∈B,b∈fA B dv v:=λb hb=>by
 cases dv <;> cases v <;> first | exact hb | exact Gq _ hb
def SitE.moreC (I:SitE K G B E F σ H)(k1:Kp (j8 K G) H H1)(f1:FAt K G H1 F1)(r:tJ K B H H1 dv v):SitE K G (fA B dv v) E F1 σ H1:=by
 have sm:=zw I k1 r;refine⟨f1,λb hb=>aN b<|I.fB b hb,λb hb=>?_,I.ln,λj x ej=>?_⟩
 .have old:b∈B->∃o,H1 b=some o:=λhb=>(I.step k1 f1).bk b hb
  cases dv with
  | dat d=>cases v <;> exact old hb
  | feed=>exact r.elim
  | fn _=>exact r.elim
  | adr _=>exact r.elim
  | own ds =>
   obtain⟨a,vs,rfl,hn,ha,h1⟩:=r;rcases GK.1 hb with rfl | hb
   .exact⟨_,ha⟩
   .exact old hb
  | dic w c ps =>
   obtain⟨_,a,vs,rfl,hn,ha,h1⟩:=r;rcases GK.1 hb with rfl | hb
   .exact⟨_,ha⟩
   .exact old hb
 .obtain⟨w,v1,v2⟩:=I.loc j x ej;refine⟨w,v1,?_⟩;cases x with
  | dat d=>exact b7.same (show b7 K (hid H B) d w from v2) sm
  | feed=>exact v2
  | fn _=>exact v2
  | adr _=>exact v2
  | own es =>
   obtain⟨a',xs',rfl,hB',hf',ha',hd'⟩:=v2;exact⟨a',xs',rfl,aN _ hB',hf',k1 _ _ ha' hf',hd'.same sm⟩
  | dic w c ps =>
   obtain⟨a',xs',rfl,hB',hf',ha',hn',hd'⟩:=v2;exact⟨a',xs',rfl,aN _ hB',hf',k1 _ _ ha' hf',hn',hd'.same sm⟩
def Sit.putC (S:Sit K G B0 H0 E F σ H)(s:∀b∈B0,b∈B)(sn:∀b∈B,b∈B0\/H0 b=none)(I:SitE K G B E F σ H)(k1:Kp (j8 K G) H H1)(f1:FAt K G H1 F1)(r:tJ K B H H1 dv v)(hl:i<E.length) :
  Sit K G B0 H0 (E.set i<|some dv) F1 (σ.set i<|some v) H1/\(∀b∈B0,b∈fA B dv v)/\(∀b∈fA B dv v,b∈B0\/H0 b=none)/\SitE K G (fA B dv v) (E.set i<|some dv) F1 (σ.set i<|some v) H1:=by
 have hsl:i < σ.length:=by rw[<-I.ln];exact hl
 have s':∀b∈B0,b∈fA B dv v:=λb hb=>aN b<|s b hb
 have newB:∀ds,dv = .own ds->∃a vs,v = .ref a/\H1 a=some (.lst vs)/\a8 K (hid H1 (a::B)) ds vs/\a ∉ B/\a ∉ j8 K G/\H0 a=none:=λds e=>by
  subst e;obtain⟨a,vs,rfl,hn,ha,h1⟩:=r;have haB:a ∉ B:=I.bk.nin hn;have haf:a ∉ j8 K G:=λz=>haB<|I.fB a z
  exact⟨a,vs,rfl,ha,h1,haB,haf,S.kp.none hn haf⟩
 have newD:∀w c ps,dv = .dic w c ps->∃a φ,v = .ref a/\H1 a=some (.ext φ)/\pT a φ/\kg K (hid H1 (a::B)) c ps a φ/\a ∉ B/\a ∉ j8 K G/\H0 a=none:=λw c ps e=>by
  subst e;obtain⟨_,a,vs,rfl,hn,ha,hs,h1⟩:=r;have haB:a ∉ B:=I.bk.nin hn;have haf:a ∉ j8 K G:=λz=>haB<|I.fB a z
  exact⟨a,vs,rfl,ha,hs,h1,haB,haf,S.kp.none hn haf⟩
 have sn':∀b∈fA B dv v,b∈B0\/H0 b=none:=λb hb=>by
  cases dv with
  | dat d=>cases v <;> exact sn b hb
  | feed=>exact r.elim
  | fn _=>exact r.elim
  | adr _=>exact r.elim
  | own ds =>
   obtain⟨a,vs,rfl,ha,h1,haB,haf,h0⟩:=newB ds rfl;rcases GK.1 hb with rfl | hb
   .exact .inr h0
   .exact sn b hb
  | dic w c ps =>
   obtain⟨a,vs,rfl,ha,hs,h1,haB,haf,h0⟩:=newD w c ps rfl;rcases GK.1 hb with rfl | hb
   .exact .inr h0
   .exact sn b hb
 have IC:=I.moreC k1 f1 r;have I':SitE K G (fA B dv v) (E.set i<|some dv) F1 (σ.set i<|some v) H1:=by
  refine⟨IC.fd,IC.fB,IC.bk,by rw[Hn,Hn];exact I.ln,λj x ej=>?_⟩;by_cases hj:i=j
  .subst hj;rw[GA hl]at ej;cases ej;refine⟨v,by rw[GA hsl],?_⟩;cases dv with
   | dat d=>cases v <;> exact r
   | feed=>exact r.elim
   | fn _=>exact r.elim
   | adr _=>exact r.elim
   | own ds =>
    obtain⟨a,vs,rfl,ha,h1,haB,haf,h0⟩:=newB ds rfl;exact⟨a,vs,rfl,Gx,haf,ha,h1⟩
   | dic w c ps =>
    obtain⟨a,vs,rfl,ha,hs,h1,haB,haf,h0⟩:=newD w c ps rfl;exact⟨a,vs,rfl,Gx,haf,ha,hs,h1⟩
  .rw[Gu hj]at ej;obtain⟨w,v1,v2⟩:=IC.loc j x ej;exact⟨w,by rw[Gu hj];exact v1,v2⟩
 have other:∀(ds:List Ac) (j:Nat) (es:List Ac) (a:LA),dv = .own ds->v = .ref a->E[j]? = some (some<|DV.own es)->σ[j]? ≠ some (some<|V.ref a):=λds j es a e ev ej z=>by
  obtain⟨a1,vs,ev1,ha,h1,haB,haf,h0⟩:=newB ds e;rw[ev]at ev1;cases ev1;obtain⟨w,v1,a',xs',rfl,hB',_⟩:=I.loc j _ ej;rw[v1]at z;cases z;exact haB hB'
 refine⟨⟨⟨fA B dv v,s',sn',I'⟩,S.fB,S.kp.trans k1,λj es a' ej sj=>?_,λj k es es' a' ej ek sj sk=>?_,λj c ps a' ej sj=>?_⟩,s',sn',I'⟩;rotate_left 2
 .have otherD:∀(k:Nat) (w:Bool) (c:Nat) (ps:List (Ac×Ac)),E[k]? = some (some<|DV.dic w c ps)->σ[k]? = some (some<|V.ref a')->a'∈B:=λk w c ps ek sk=>by
   obtain⟨v9,w1,a9,xs9,rfl,hB9,_⟩:=I.loc k _ ek;rw[w1]at sk;cases sk;exact hB9
  by_cases hj:i=j
  .subst hj;rw[GA hl]at ej;rw[GA hsl]at sj;have e1:dv = .dic true c ps:=Gy<|Gy ej;have e2:v = .ref a':=Gy<|Gy sj;obtain⟨a,vs,ev,ha,hs,h1,haB,haf,h0⟩:=newD _ _ _ e1;rw[e2]at ev;cases ev;refine⟨⟨h0,λz=>haB<|s _ z⟩,λk w' c' ps' ek sk=>?_⟩;by_cases hk:i=k
   .exact hk
   .rw[Gu hk]at ek sk;exact absurd (otherD k w' c' ps' ek sk) haB
  .rw[Gu hj]at ej sj;obtain⟨h1,h2⟩:=S.dic j c ps a' ej sj;refine⟨h1,λk w' c' ps' ek sk=>?_⟩;by_cases hk:i=k
   .subst hk;rw[GA hl]at ek;rw[GA hsl]at sk;have e1:dv = .dic w' c' ps':=Gy<|Gy ek;have e2:v = .ref a':=Gy<|Gy sk;obtain⟨a,vs,ev,ha,hs,h3,haB,haf,h0⟩:=newD _ _ _ e1;rw[e2]at ev;cases ev;exact absurd (otherD j true c ps ej sj) haB
   .rw[Gu hk]at ek sk;exact h2 k w' c' ps' ek sk
 .by_cases hj:i=j
  .subst hj;rw[GA hl]at ej;rw[GA hsl]at sj;have e1:dv = .own es:=Gy<|Gy ej;have e2:v = .ref a':=Gy<|Gy sj;obtain⟨a,vs,ev,ha,h1,haB,haf,h0⟩:=newB es e1;rw[e2]at ev;cases ev;exact⟨h0,λz=>haB<|s _ z⟩
  .rw[Gu hj]at ej sj;exact S.own j es a' ej sj
 .by_cases hj:i=j
  .by_cases hk:i=k
   .rw[<-hj,<-hk]
   .subst hj;rw[GA hl]at ej;rw[GA hsl]at sj;rw[Gu hk]at ek sk;have e1:dv = .own es:=Gy<|Gy ej;have e2:v = .ref a':=Gy<|Gy sj;exact absurd sk<|other es k es' a' e1 e2 ek
  .by_cases hk:i=k
   .subst hk;rw[GA hl]at ek;rw[GA hsl]at sk;rw[Gu hj]at ej sj;have e1:dv = .own es':=Gy<|Gy ek;have e2:v = .ref a':=Gy<|Gy sk;exact absurd sj<|other es' j es a' e1 e2 ej
   .rw[Gu hj]at ej sj;rw[Gu hk]at ek sk;exact S.inj j k es es' a' ej ek sj sk
end
noncomputable def fZ (i j:Nat)(c1 c2:DE->M DV):DE->M Out:=λE F=>(c1 E F).bind λp=>(c2 E p.2).bind λq=>if i<E.length/\j<E.length then some (.nx<|(E.set i<|some p.1).set j<|some q.1,q.2) else none
def vw (i j:Nat){x y:Str}{t1 t2:TE}{c1 c2:DE->M DV}{px py pt:Pos}{kt k2 pt2}(hc:X.calm=true)(hN:X.N.Nodup)(h1:Ec K X a t1 c1)(h2:Ec K X b t2 c2)(hi:X.N[i]? = some x:=by rfl)(hj:X.N[j]? = some y:=by rfl)(hij:i≠j:=by decide)
  (hx:X.env.scope.names.lookup x=some .local:=by rfl) (hy:X.env.scope.names.lookup y=some .local:=by rfl)
  (hw:swappedStores [.Tuple [.Name x px,.Name y py] kt pt] (.Tuple [a,b] k2 pt2) X.env=pure (some [x,y]):=by rfl)
  (hs:swapsWithSole [.Tuple [.Name x px,.Name y py] kt pt] (.Tuple [a,b] k2 pt2) pos.line X.env=pure false:=by rfl)
  (hs1:LN [a,b] X.env=(false,eval a X.env)::LN [b] X.env:=by rfl) (hs2:LN [b] X.env=(false,eval b X.env)::LN [] X.env:=by rfl) :
  Ss K X (.Assign [.Tuple [.Name x px,.Name y py] kt pt] (.Tuple [a,b] k2 pt2) pos) (BX i j<|u8 t1<|u8 t2 N4) (fZ i j c1 c2):=⟨yZ hc hN hi hj hij hx hy (k9 h1.pe (k9 h2.pe v6 hs2) hs1) hw hs,λG B0 H0 E F σ H D r F' S e q=>by
 obtain⟨⟨d1,F1⟩,e1,e⟩:=bS9 e;obtain⟨⟨d2,F2⟩,e2,e⟩:=bS9 e;split at e;case isFalse=>cases e
 rename_i hl;cases e;obtain⟨B,s,sn,I⟩:=S.ex;refine h1.ok G B E F σ H _ d1 F1 I e1 λv H1 k1 f1 r1=>?_
 obtain⟨S1,s1,sn1,I1⟩:=S.putC s sn I k1 f1 r1 hl.1;refine h2.ok G _ E F1 σ H1 _ d2 F2 (I.moreC k1 f1 r1) e2 λw H2 k2' f2 r2=>?_
 obtain⟨S2,_⟩:=S1.putC s1 sn1 I1 k2' f2 r2 (i:=j) (by rw[Hn];exact hl.2);exact⟨v,w,rfl,q _ _ S2⟩⟩
noncomputable def iP (i j k:Nat)(c1 c2 c3:DE->M DV):DE->M Out:=λE F=>(c1 E F).bind λp=>(c2 E p.2).bind λq=>(c3 E q.2).bind λr=>if i<E.length/\j<E.length/\k<E.length then some (.nx<|((E.set i<|some p.1).set j<|some q.1).set k<|some r.1,r.2) else none
def sP (i j k:Nat){x y z:Str}{t1 t2 t3:TE}{c1 c2 c3:DE->M DV}{px py pz pt:Pos}{kt k2 pt2}(hc:X.calm=true)(hN:X.N.Nodup)(h1:Ec K X a t1 c1)(h2:Ec K X b t2 c2)(h3:Ec K X c t3 c3)(hi:X.N[i]? = some x:=by rfl)(hj:X.N[j]? = some y:=by rfl)(hk:X.N[k]? = some z:=by rfl)(hij:i≠j:=by decide)(hik:i≠k:=by decide)(hjk:j≠k:=by decide)
  (hx:X.env.scope.names.lookup x=some .local:=by rfl) (hy:X.env.scope.names.lookup y=some .local:=by rfl) (hz:X.env.scope.names.lookup z=some .local:=by rfl)
  (hw:swappedStores [.Tuple [.Name x px,.Name y py,.Name z pz] kt pt] (.Tuple [a,b,c] k2 pt2) X.env=pure (some [x,y,z]):=by rfl)
  (hs:swapsWithSole [.Tuple [.Name x px,.Name y py,.Name z pz] kt pt] (.Tuple [a,b,c] k2 pt2) pos.line X.env=pure false:=by rfl)
  (hs1:LN [a,b,c] X.env=(false,eval a X.env)::LN [b,c] X.env:=by rfl) (hs2:LN [b,c] X.env=(false,eval b X.env)::LN [c] X.env:=by rfl) (hs3:LN [c] X.env=(false,eval c X.env)::LN [] X.env:=by rfl) :
  Ss K X (.Assign [.Tuple [.Name x px,.Name y py,.Name z pz] kt pt] (.Tuple [a,b,c] k2 pt2) pos) (yi i j k<|u8 t1<|u8 t2<|u8 t3 N4) (iP i j k c1 c2 c3):=⟨vA hc hN hi hj hk hij hik hjk hx hy hz (k9 h1.pe (k9 h2.pe (k9 h3.pe v6 hs3) hs2) hs1) hw hs,λG B0 H0 E F σ H D r F' S e q=>by
 obtain⟨⟨d1,F1⟩,e1,e⟩:=bS9 e;obtain⟨⟨d2,F2⟩,e2,e⟩:=bS9 e;obtain⟨⟨d3,F3⟩,e3,e⟩:=bS9 e;split at e;case isFalse=>cases e
 rename_i hl;cases e;obtain⟨B,s,sn,I⟩:=S.ex;refine h1.ok G B E F σ H _ d1 F1 I e1 λv H1 k1 f1 r1=>?_
 obtain⟨S1,s1,sn1,I1⟩:=S.putC s sn I k1 f1 r1 hl.1;refine h2.ok G _ E F1 σ H1 _ d2 F2 (I.moreC k1 f1 r1) e2 λw H2 k2' f2 r2=>?_
 obtain⟨S2,s2,sn2,I2⟩:=S1.putC s1 sn1 I1 k2' f2 r2 (i:=j) (by rw[Hn];exact hl.2.1);refine h3.ok G _ E F2 σ H2 _ d3 F3 ((I.moreC k1 f1 r1).moreC k2' f2 r2) e3 λu H3 k3 f3 r3=>?_
 obtain⟨S3,_⟩:=S2.putC s2 sn2 I2 k3 f3 r3 (i:=k) (by rw[Hn,Hn];exact hl.2.2);exact⟨v,w,u,rfl,q _ _ S3⟩⟩
end
end
section
section
variable {K:Fg}{X0:Cx}{tg iter:LK}{te:TE}{pos:Pos}
def eV {env:LQ}:∀{names:List (Str×Me)} {x:Str},names.lookup x=some .cell\/names.lookup x=some .free ->
  (names.map λ(n,k)=>if (k == Me.free&&env.scope.kind == .function&&env.kindOf n == some .cell) then(n,Me.cell) else(n,k)).lookup x=some .cell\/(names.map λ(n,k)=>if (k == Me.free&&env.scope.kind == .function&&env.kindOf n == some .cell) then(n,Me.cell) else(n,k)).lookup x=some .free
 | [],_,h=>by simp at h
 | (n,k)::r,x,h=>by
  have ih:=@eV env r x;show List.lookup x ((if (k == Me.free&&env.scope.kind == .function&&env.kindOf n == some .cell)=true then(n,Me.cell) else(n,k))::_)=_\/List.lookup x ((if (k == Me.free&&env.scope.kind == .function&&env.kindOf n == some .cell)=true then(n,Me.cell) else(n,k))::_)=_;cases hx:x == n with
  | true =>
   simp only[Hi,hx]at h;by_cases hc:(k == Me.free&&env.scope.kind == .function&&env.kindOf n == some .cell)=true
   .rw[Gp hc];simp[Hi,hx]
   .rw[Gr hc];simpa [Hi,hx] using h
  | false =>
   simp only[Hi,hx]at h;by_cases hc:(k == Me.free&&env.scope.kind == .function&&env.kindOf n == some .cell)=true
   .rw[Gp hc];simp only[Hi,hx];exact ih h
   .rw[Gr hc];simp only[Hi,hx];exact ih h
def ux [Feeds]{elt:LK}{ifs:List LK}{scope0 scope:LH}{N0:List Str}(N:List Str){cl0 C0 ex0 pins0 s0 H0}{k:Nat}{cap:List Nat}{wi:TI}{g:TG}{tt:TT}{mi:DE->M (List Ac)}{bd:Ac->DE->Option DE}{mt:DE->M Bool}{me:DE->M Ac}
  (hi:Eib K (cxC X0 N0 scope0 cl0 C0 ex0 pins0 s0 H0) tg iter wi mi)
  (hg:∀{cl C ex pins s H},Eg K (cxC (cxC X0 N0 scope0 cl0 C0 ex0 pins0 s0 H0) N scope cl C ex pins s H) tg g bd)
  (ht:∀{cl C ex pins s H},Ets K (cxC (cxC X0 N0 scope0 cl0 C0 ex0 pins0 s0 H0) N scope cl C ex pins s H) ifs tt mt)
  (he:∀{cl C ex pins s H},Ev K (cxC (cxC X0 N0 scope0 cl0 C0 ex0 pins0 s0 H0) N scope cl C ex pins s H) elt te me)
  (hc:(cxC X0 N0 scope0 cl0 C0 ex0 pins0 s0 H0).calm=true:=by rfl) (hcap:Caps N0 scope0 N k cap scope:=by exact {})
  (hs:∀x,Ma iter (cxC X0 N0 scope0 cl0 C0 ex0 pins0 s0 H0).env x=pure x:=by intro _;rfl) :
  Ev K (cxC X0 N0 scope0 cl0 C0 ex0 pins0 s0 H0) (.ListComp elt [⟨tg,iter,ifs,0⟩] scope pos) (tLC wi k cap g tt te) (sLC mi k cap bd mt me) :=
 cA (relabel scope0 X0.env) N hi hg ht he hc rfl ⟨hcap.kind,hcap.cell,hcap.loc,λy hy e=>eV<|hcap.free y hy e,hcap.len,hcap.capx,hcap.capf⟩ hs
end
section
variable {K:Fg}{X:Cx}[Feeds]
def ji:List Ac->Option Ac
 | [.int i,.int j]=>some (.int<|if j > i then j else i)
 | _=>none
def nh (hK:X.K=K)(hc:X.calm=true):E7 X (.builtin "max") (rDN K ji):=by
 intro pins s σ H xs us Q I r h;obtain⟨fp,B,ds,z,bk,h1,hf,q⟩:=h;unfold ji at hf;split at hf <;> try cases hf
 rename_i i j;obtain⟨v,w,rfl,hv,hw⟩:=Cc h1 rfl;cases(show v = .int i from hv);cases(show w = .int j from hw);exact qf hc pins s σ H _ us Q I r ⟨i,j,rfl,q _ H (d9.refl H) b7.int⟩
end
def FdS.fstN (F:FdS):Int:=(F.cellL % 1000003+37*F.a*F.a+13*F.a+5)*48271 % 999983
def FdS.mixN (F:FdS):Int:=((F.fstN*F.fstN+7919*F.a+11) % 2097143)*69621 % 2147483629 / 7
def cS (m:Int)(F:FdS):Option (Int×FdS):=if 0<m/\m<1073741824/\F.t<199999 then
  some (if 0<F.l then(F.l % m,⟨F.ns,F.a,F.l / m,F.t+1⟩)
   else if 10 ^ 18<=F.cellL/\F.a<F.ns.length then(F.cellL % m,⟨F.ns,F.a+1,F.cellL / m,F.t+1⟩)
   else(F.mixN % m,⟨F.ns,F.a+1,F.l,F.t+1⟩))
 else none
def ly {m:Int}{F:FdS}(h0:0<m)(h1:m<1073741824)(h2:F.t<199999):∃r F',cS m F=some (r,F')/\0<=r/\r<m/\F'.t=F.t+1:=by
 have b:∀x:Int,0<=x % m/\x % m<m:=λx=>⟨Int.emod_nonneg _ (by omega),Int.emod_lt_of_pos _ h0⟩
 unfold cS;rw[Gp ⟨h0,h1,h2⟩];by_cases hl:0<F.l
 .rw[Gp hl];exact⟨_,_,rfl,(b _).1,(b _).2,rfl⟩
 .rw[Gr hl];by_cases hc:10 ^ 18<=F.cellL/\F.a<F.ns.length
  .rw[Gp hc];exact⟨_,_,rfl,(b _).1,(b _).2,rfl⟩
  .rw[Gr hc];exact⟨_,_,rfl,(b _).1,(b _).2,rfl⟩
@[reducible] def CA (l:List Str):Fam where
 At:=λd c H F=>H d=some (.lst [.ref c,.int F.a,.int F.l])/\H c=some (.lst<|F.ns.map V.int)/\F.ns.length<=63/\0<=F.a/\F.a<=F.t/\d≠c
 some1:=λh=>⟨_,h.1,⟨λ_ z=>(by cases z),λ_ z=>(by cases z)⟩⟩
 some2:=λh=>⟨_,h.2.1,⟨λ_ z=>(by cases z),λ_ z=>(by cases z)⟩⟩
 lam:=l
 congr:=λh e1 e2=>⟨e1.trans h.1,e2.trans h.2.1,h.2.2⟩
 drawF:=cS
 draw_some:=ly
end
section
section
variable {M:Lang}{A:LG}{E:Lz->LC->Prop}{s:LC}
def fy:seqSlot? (.type "list") (dunderI "add")=pure (some<|.builtin "list.__iadd__"):=PySem.seqSlot_of Kw.lookup (by decide +kernel)
def eT:fillsInplaceSlot (.type "list") "add" (Operator.Add == .Add)=pure false:=by
 unfold fillsInplaceSlot;show(typeLookup (.type "list") (dunderI "add") >>= λfi=>pure<|fi.isSome && !isSeqSlot fi)=pure false;rw[Kw.lookup];show(pure ((some<|Lz.builtin "list.__iadd__").isSome && !isSeqSlotId "list.__iadd__"):Sem Bool)=pure false;have:isSeqSlotId "list.__iadd__" = true:=by decide +kernel
 rw[this];rfl
end
section
variable {prog:LD}{w:LF}{A:LG}{E:Lz->LC->Prop}{s:LC}
def pO {a b:Lz}{Q:Lz->LC->Prop}(ha:s.TypeIs a "list")(hb:s.TypeIs b "list")(hc:LU (model prog w) A (call (.builtin "list.__iadd__") [a,b]) Q E s):LU (model prog w) A (inplaceOp .Add a b) Q E s:=by
 unfold inplaceOp;refine HB ?_;refine Gh<|JG ha<|Gh<|wpAny_of_eq eT ?_;show LU _ A (if false=true then _ else _) Q E s;rw[Gr GQ];refine Gh<|binaryOp1_none (nm:="add") ha hb noFill_list_add ?_;refine Gh<|wpAny_of_eq fy ?_;exact Gh<|Iw hc
end
section
variable {K:Fg}{X:Cx}[Feeds]
def ipE:TIp:=λx y H Q=>∃l b xs zs,x = .ref l/\y = .ref b/\H l=some (.lst xs)/\H b=some (.lst zs)/\xs.length+zs.length<=LM/\Q (.ref l) (upd H l<|.lst<|xs++zs)
def zM:PIp X .Add ipE:=by
 intro pins s σ H x y v u Q I rx ry h;obtain⟨l,b,xs,zs,rfl,rfl,hH,hB,hz,q⟩:=h;cases rx;cases ry;obtain⟨z,its,n,r,hl,e⟩:=I.lstM hH;obtain⟨z2,its2,n2,r2,hl2,e2⟩:=I.lstM hB;have hsz:its.toArray.size+its2.toArray.size<=LM:=by rw[Gw,Gw];omega
 have hlong:¬(!its.toArray.isEmpty&&Builtin.List.listTooLong (its.toArray.size+its2.toArray.size))=true:=by
  rw[eu hsz,Bool.and_false];exact GQ
 refine pO ⟨_,e,rfl⟩ ⟨_,e2,rfl⟩ ?_;refine Jm Kw ⟨_,e,rfl⟩ PySem.F.entry_list_iadd (PySem.F.args_list_iadd_2 _ _)
  (AutoSeq1.list___iadd___list_list_0 l its.toArray n b its2.toArray n2 hlong (by rw[Gw];omega)<|by omega) ⟨e,e2,?_⟩
 refine⟨.ref l,_,I.lset (its':=its++its2) hH e (by simp) (r.append r2) ?_,rfl,q⟩;rw[Hm];omega
def uc {v w:V}:[v,w].length<=LM:=by show 2<=LM;rw[Hl];decide
theorem jb {α:Type}:∀{l:List α} {i:Nat} {a:α},l[i]? = some a->l.set i a=l
 | [],_,_,h=>by simp at h
 | x::l,0,a,h=>by simp at h;simp[h]
 | x::l,i+1,a,h=>by simp at h;simp[jb h]
variable {e:LK}{te:TE}{m:DE->M Ac}{pos:Pos}
def Ah {i:Nat}(hv:TEs K te m):TSd K (qY i te ipE) (ie i m):=λG B0 H0 E F σ H D r F' S e q=>by
 obtain⟨⟨d,F1⟩,e1,e⟩:=bS9 e;obtain⟨ds,e4,e⟩:=bS9 e;dsimp only at e;split at e
 .split at e
  .rename_i hl;cases e;obtain⟨B,s,sn,I⟩:=S.ex;have eo:=O9 e4;obtain⟨w,w1,a,xs,rfl,hB,hf,hx,hdx⟩:=I.loc i _ eo;refine⟨_,w1,hv G B E F σ H _ (.list _) _ I e1 λu H2 k2 f2 h2=>?_⟩;obtain⟨b,ys,rfl,hb,hdb⟩:=h2;have hd2:=hdx.same<|k2.hid I.fB;refine⟨a,b,xs,ys,rfl,rfl,k2 a _ hx hf,d4 _ _ hb,by rw[hdx.length,hdb.length];exact hl,?_⟩;show D.nx (List.set σ i<|some<|V.ref a) _;rw[jb w1];exact q σ _<|(S.step k2 f2).write s sn (I.step k2 f2) eo w1<|a8.append hdb hd2
  .cases e
 .cases e
def mO (i:Nat){x:Str}{pos':Pos}(hN:X.N.Nodup)(he:Eb K X e te m)(hi:X.N[i]? = some x:=by rfl)(hx:Loc X.env.scope x:=by first | exact Or.inl rfl | exact Or.inr rfl)(hf:X.fn x=true\/X.env.scope.names.lookup x=some .local:=by first | exact .inl rfl | exact .inr rfl | assumption) :
  Ss K X (.AugAssign (.Name x pos') .Add e pos) (qY i te ipE) (ie i m):=⟨qP hN hi hx he.pe zM hf,Ah he.ok⟩
variable {a b:LK}
def ub (i j:Nat){x y:Str}{t1 t2:TE}{c1 c2:DE->M DV}{px py pt:Pos}{kt k2 pt2}(hK:X.K=K)(hc:X.calm=true)(hN:X.N.Nodup)(h1:Ec K X a t1 c1)(h2:Ec K X b t2 c2)(hi:X.N[i]? = some x:=by rfl)(hj:X.N[j]? = some y:=by rfl)
  (hx:Loc X.env.scope x:=by first | exact Or.inl rfl | exact Or.inr rfl) (hy:Loc X.env.scope y:=by first | exact Or.inl rfl | exact Or.inr rfl)
  (hfx:X.fn x=true\/X.env.scope.names.lookup x=some .local:=by first | exact .inl rfl | exact .inr rfl | assumption) (hfy:X.fn y=true\/X.env.scope.names.lookup y=some .local:=by first | exact .inl rfl | exact .inr rfl | assumption)
  (hw:swappedStores [.Tuple [.Name x px,.Name y py] kt pt] (.Tuple [a,b] k2 pt2) X.env=pure none:=by rfl)
  (hs:swapsWithSole [.Tuple [.Name x px,.Name y py] kt pt] (.Tuple [a,b] k2 pt2) pos.line X.env=pure false:=by rfl)
  (ha1:(Mb [.Tuple [.Name x px,.Name y py] kt pt] X.env).map (·.2)=[assign (.Tuple [.Name x px,.Name y py] kt pt) X.env]:=by rfl)
  (hs1:LN [a,b] X.env=(false,eval a X.env)::LN [b] X.env:=by rfl) (hs2:LN [b] X.env=(false,eval b X.env)::LN [] X.env:=by rfl) :
  Ss K X (.Assign [.Tuple [.Name x px,.Name y py] kt pt] (.Tuple [a,b] k2 pt2) pos) (X3 (xt<|u8 t1<|u8 t2 N4)<|vV K 2<|nX (E9 i)<|nX (E9 j) zN) (fZ i j c1 c2) :=
 ⟨cx (mj<|k9 h1.pe (k9 h2.pe v6 hs2) hs1) (mU hK hc<|dG (iC hN hi hx hfx)<|dG (iC hN hj hy hfy) ni) hs hw ha1,λG B0 H0 E F σ H D r F' S e q=>by
 obtain⟨⟨d1,F1⟩,e1,e⟩:=bS9 e
 obtain⟨⟨d2,F2⟩,e2,e⟩:=bS9 e
 split at e
 case isFalse=>cases e
 rename_i hl
 cases e
 obtain⟨B,s,sn,I⟩:=S.ex
 refine h1.ok G B E F σ H _ d1 F1 I e1 λv H1 k1 f1 r1=>?_
 obtain⟨S1,s1,sn1,I1⟩:=S.putC s sn I k1 f1 r1 hl.1
 refine h2.ok G _ E F1 σ H1 _ d2 F2 (I.moreC k1 f1 r1) e2 λw H2 k2' f2 r2=>?_
 obtain⟨S2,_⟩:=S1.putC s1 sn1 I1 k2' f2 r2 (i:=j) (by rw[Hn];exact hl.2)
 refine⟨uc,λp hp=>⟨p,[v,w],rfl,SqT.of f8,rfl,v,[w],rfl,w,[],rfl,rfl,?_⟩⟩
 exact q _ _<|S2.step (Kp.upd hp)<|f2.same<|d9.upd hp⟩
def BL {tg iter elt:LK}{ifs:List LK}{scope:LH}(osc:LH)(N:List Str){k:Nat}{cap:List Nat}{wi:TI}{g:TG}{tt:TT}{mi:DE->M (List Ac)}{bd:Ac->DE->Option DE}{mt:DE->M Bool}{me:DE->M Ac}
  (hi:Eib K X tg iter wi mi)
  (hg:∀{cl C ex pins s H},Eg K (cxC X N scope cl C ex pins s H) tg g bd)
  (ht:∀{cl C ex pins s H},Ets K (cxC X N scope cl C ex pins s H) ifs tt mt)
  (he:∀{cl C ex pins s H},Ev K (cxC X N scope cl C ex pins s H) elt te me)
  (hc:X.calm=true:=by rfl) (hosc:X.env.scope=osc:=by rfl) (hcap:Caps X.N osc N k cap scope:=by exact {})
  (hs:∀x,Ma iter X.env x=pure x:=by intro _;rfl) :
  Ef K X (.ListComp elt [⟨tg,iter,ifs,0⟩] scope pos) (tLC wi k cap g tt te) (fLC mi k cap bd mt me) :=
 ⟨xR hc hosc hcap hi.pi (λ_ _ _ _ _ _=>hg.pg) (λ_ _ _ _ _ _=>ht.pts) (λ_ _ _ _ _ _=>he.pe) hs,
  xV hi.ok (@hg [] 0 [] [] X.s₀ X.H₀).ok (@ht [] 0 [] [] X.s₀ X.H₀).ok (@he [] 0 [] [] X.s₀ X.H₀).ok⟩
end
end
section
section
variable {prog:LD}{w:LF}{A:LG}{E:Lz->LC->Prop}{s:LC}
def aO {b:Bool}{it l:LA}{i:Nat}{items:Array Lz}{x:Lz}{Q:Lz->LC->Prop}(hi:x4 b s.heap it l i)(hl:G2 b s.heap l items)(hx:items[i]? = some x)
  (q:∀h',x4 b h' it l (i+1)->LL.SameBut it s.heap h'->Q x { s with heap:=h' }):LU (model prog w) A (Builtin.SmallTypes.nextOf<|.ref it) Q E s:=by
 cases b
 .exact Q0 (show s.heap.IsTupleIter it l i from hi) (show s.heap.IsTuple l items from hl) hx λh' a b=>q h' a b
 .exact wpAny_nextOf_list_item (show s.heap.IsListIter it l i from hi) (show s.heap.IsList l items from hl) hx λh' a b=>q h' a b
def lB {b:Bool}{it l:LA}{i:Nat}{items:Array Lz}{Q:Lz->LC->Prop}(hh:A.handled=none)(hi:x4 b s.heap it l i)(hl:G2 b s.heap l items)(hx:items[i]? = none)
  (q:∀h' e,LL.ExtBut it s.heap h'->(∃o,h'.get? e=some o/\o.cls = .type "StopIteration")->E (.ref e) { s with heap:=h' }):LU (model prog w) A (Builtin.SmallTypes.nextOf<|.ref it) Q E s:=by
 cases b
 .exact S8 hh (show s.heap.IsTupleIter it l i from hi) (show s.heap.IsTuple l items from hl) hx q
 .exact wpAny_nextOf_list_end hh (show s.heap.IsListIter it l i from hi) (show s.heap.IsList l items from hl) hx q
def x4.but {b:Bool}{h h':LL}{it l c:LA}{i:Nat}(x:x4 b h it l i)(k:LL.ExtBut c h h')(n:it≠c):x4 b h' it l i:=x.at λo e=>k it o n e
def G2.but {b:Bool}{h h':LL}{l c:LA}{items:Array Lz}(x:G2 b h l items)(k:LL.ExtBut c h h')(n:l≠c):G2 b h' l items:=x.at λo e=>k l o n e
variable {b1 b2:Bool}{z TI TO i1 i2 l1 l2:LA}{k:Nat}{xs ys:Array Lz}{x y a b:Lz}
def wM {Q:Lz->LC->Prop}(D:ZipApart z TI TO i1 i2 l1 l2)(hz:IsZip s.heap z TI TO .none)(hTI:IsPair s.heap TI (.ref i1) (.ref i2))(hTO:IsPair s.heap TO a b)
  (h1:x4 b1 s.heap i1 l1 k) (h2:x4 b2 s.heap i2 l2 k) (hl1:G2 b1 s.heap l1 xs) (hl2:G2 b2 s.heap l2 ys) (hx:xs[k]? = some x) (hy:ys[k]? = some y)
  (q:∀h',IsZip h' z TI TO (rawInt s.heap.objs.size)->IsPair h' TO x y->x4 b1 h' i1 l1 (k+1)->x4 b2 h' i2 l2 (k+1)->IsPair h' s.heap.objs.size x y->h'.objs.size=s.heap.objs.size+1 ->
   (∀c o,c≠z->c≠TO->c≠i1->c≠i2->s.heap.get? c=some o->h'.get? c=some o)->Q (.ref s.heap.objs.size) { s with heap:=h' }) :
  LU (model prog w) A (Builtin.«zip.__next__» ⟨[.ref z],[]⟩) (λfin s'=>∃v,fin = .done (.ret v)/\Q v s') E s:=by
 show LU _ _ (field (.ref z) 2 >>= _) _ _ _;refine Gh<|Hy hz rfl (x:=.bool false) rfl ?_;show LU _ _ (field (.ref z) 3 >>= _) _ _ _;refine Gh<|Hy hz rfl (x:=.ref TI) rfl ?_;refine Gh<|HL hTI rfl ?_;show LU _ _ (Builtin.SmallTypes.ownedTupleIsFree (.ref z) >>= _) _ _ _;refine Gh ?_;unfold Builtin.SmallTypes.ownedTupleIsFree;refine Gh<|Hy hz rfl (x:=.none) rfl<|Gk ?_;simp only[Ig];refine Gh<|Iw ?_;refine Gh<|Hy hz rfl (x:=.ref TO) rfl ?_;refine Gh (IU hz (by simp) λg1 z1 s1=>?_);replace z1:IsZip g1 z TI TO .ellipsis:=z1;refine Gh ?_;simp only[List.zipIdx_cons,List.zipIdx_nil,JV,Kj];refine Gh<|Gh<|Lj ?_;show LU _ _ (Builtin.SmallTypes.nextOf (.ref i1) >>= _) _ _ _;refine Gh (aO (h1.but s1.extBut D.i1z) (hl1.but s1.extBut D.l1z) hx λg2 a2 s2=>Gk ?_);have p2:IsPair g2 TO a b:=s2.extBut _ _ D.TOi1<|s1.extBut _ _ D.TOz hTO;refine Gh<|HL p2 rfl ?_;refine Gh (KN p2 λg3 p3 s3=>?_);replace p3:IsPair g3 TO x b:=p3;refine Gh<|JA<|Gk ?_;refine Gh<|Gh<|Lj ?_;show LU _ _ (Builtin.SmallTypes.nextOf (.ref i2) >>= _) _ _ _;refine Gh (aO (((h2.but s1.extBut D.i2z).but s2.extBut D.i12.symm).but s3.extBut D.TOi2.symm) (((hl2.but s1.extBut D.l2z).but s2.extBut D.l2i1).but s3.extBut D.l2TO) hy λg4 a4 s4=>Gk ?_);have p4:IsPair g4 TO x b:=s4.extBut _ _ D.TOi2 p3;refine Gh<|HL p4 rfl ?_;refine Gh (KN p4 λg5 p5 s5=>?_);replace p5:IsPair g5 TO x y:=p5;refine Gh<|JA<|Gk<|Gk ?_;refine Gh<|HL p5 rfl ?_;refine Gh<|KZ ?_;have hsz:g5.objs.size=s.heap.objs.size:=by rw[s5.1,s4.1,s3.1,s2.1,s1.1]
 have z5:IsZip g5 z TI TO .ellipsis:=s5.extBut _ _ D.TOz.symm<|s4.extBut _ _ D.i2z.symm<|s3.extBut _ _ D.TOz.symm<|s2.extBut _ _ D.i1z.symm z1;have k5:∀c o,c≠z->c≠TO->c≠i1->c≠i2->s.heap.get? c=some o->g5.get? c=some o:=λc o c1 c2 c3 c4 e=>s5.extBut _ _ c2<|s4.extBut _ _ c4<|s3.extBut _ _ c2<|s2.extBut _ _ c3<|s1.extBut _ _ c1 e
 have a5:x4 b1 g5 i1 l1 (k+1):=((a2.but s3.extBut D.TOi1.symm).but s4.extBut D.i12).but s5.extBut D.TOi1.symm;have c5:x4 b2 g5 i2 l2 (k+1):=a4.but s5.extBut D.TOi2.symm;have zlt:z<g5.objs.size:=Gv z5;show LU _ _ (Builtin.SmallTypes.ownedTupleHandOut (.ref z) (.ref g5.objs.size) >>= _) _ _ _;refine Gh ?_;unfold Builtin.SmallTypes.ownedTupleHandOut;have z6:IsZip (g5.push { cls:=.type "tuple",data:=.seq #[x,y] }) z TI TO .ellipsis:=Gj _ z5;refine Gh (IU z6 (by simp) λg7 z7 s7=>?_);replace z7:IsZip g7 z TI TO (rawInt g5.objs.size):=z7;refine IU z7 (by simp) λg8 z8 s8=>?_
 replace z8:IsZip g8 z TI TO (rawInt g5.objs.size):=z8;have up:∀c o,c≠z->g5.get? c=some o->g8.get? c=some o:=λc o c1 e=>s8.extBut _ _ c1<|s7.extBut _ _ c1<|Gj _ e
 have t8:IsPair g8 g5.objs.size x y:=s8.extBut _ _ (IL zlt)<|s7.extBut _ _ (IL zlt)<|GN _ rfl;have n8:g8.objs.size=g5.objs.size+1:=by rw[s8.1,s7.1,Io]
 rw[hsz]at z8 t8 n8;refine Gk ⟨_,rfl,?_⟩;show Q (.ref g5.objs.size) _;rw[hsz];exact q g8 z8 (up _ _ D.TOz p5) (a5.at λo e=>up _ o D.i1z e) (c5.at λo e=>up _ o D.i2z e) t8 n8 λc o c1 c2 c3 c4 e=>up c o c1<|k5 c o c1 c2 c3 c4 e
def zW {Q:Fin->LC->Prop}(hh:A.handled=none)(D:ZipApart z TI TO i1 i2 l1 l2)(hz:IsZip s.heap z TI TO .none)(hTI:IsPair s.heap TI (.ref i1) (.ref i2))(hTO:IsPair s.heap TO a b)
  (h1:x4 b1 s.heap i1 l1 k) (h2:x4 b2 s.heap i2 l2 k) (hl1:G2 b1 s.heap l1 xs) (hl2:G2 b2 s.heap l2 ys) (he:xs[k]? = none\/ys[k]? = none)
  (q:∀h' e,(∀c o,c≠z->c≠TO->c≠i1->c≠i2->s.heap.get? c=some o->h'.get? c=some o)->(∃o,h'.get? e=some o/\o.cls = .type "StopIteration")->E (.ref e) { s with heap:=h' }) :
  LU (model prog w) A (Builtin.«zip.__next__» ⟨[.ref z],[]⟩) Q E s:=by
 show LU _ _ (field (.ref z) 2 >>= _) _ _ _;refine Gh<|Hy hz rfl (x:=.bool false) rfl ?_;show LU _ _ (field (.ref z) 3 >>= _) _ _ _;refine Gh<|Hy hz rfl (x:=.ref TI) rfl ?_;refine Gh<|HL hTI rfl ?_;show LU _ _ (Builtin.SmallTypes.ownedTupleIsFree (.ref z) >>= _) _ _ _;refine Gh ?_;unfold Builtin.SmallTypes.ownedTupleIsFree;refine Gh<|Hy hz rfl (x:=.none) rfl<|Gk ?_;simp only[Ig];refine Gh<|Iw ?_;refine Gh<|Hy hz rfl (x:=.ref TO) rfl ?_;refine Gh (IU hz (by simp) λg1 z1 s1=>?_);replace z1:IsZip g1 z TI TO .ellipsis:=z1;refine Gh ?_;simp only[List.zipIdx_cons,List.zipIdx_nil,JV,Kj];refine Gh<|Gh<|Lj ?_;show LU _ _ (Builtin.SmallTypes.nextOf (.ref i1) >>= _) _ _ _;cases hx:xs[k]? with
 | none =>
  refine Gh (lB hh (h1.but s1.extBut D.i1z) (hl1.but s1.extBut D.l1z) hx λg2 e s2 ⟨oe,ho,hc⟩=>?_);have z2:IsZip g2 z TI TO .ellipsis:=s2 _ _ D.i1z.symm z1;have ez:e≠z:=λx=>by subst x;rw[z2]at ho;cases ho;simp at hc
  exact IU z2 (by simp) λg3 _ s3=>q g3 e (λc o c1 _ c3 _ x=>s3.extBut _ _ c1<|s2 _ _ c3<|s1.extBut _ _ c1 x) ⟨oe,s3.extBut _ _ ez ho,hc⟩
 | some x =>
  have hy:ys[k]? = none:=by rcases he with h | h;rw[hx]at h;cases h;exact h
  refine Gh (aO (h1.but s1.extBut D.i1z) (hl1.but s1.extBut D.l1z) hx λg2 a2 s2=>Gk ?_);have p2:IsPair g2 TO a b:=s2.extBut _ _ D.TOi1<|s1.extBut _ _ D.TOz hTO;refine Gh<|HL p2 rfl ?_;refine Gh (KN p2 λg3 p3 s3=>?_);refine Gh<|JA<|Gk ?_;refine Gh<|Gh<|Lj ?_;show LU _ _ (Builtin.SmallTypes.nextOf (.ref i2) >>= _) _ _ _;refine Gh (lB hh (((h2.but s1.extBut D.i2z).but s2.extBut D.i12.symm).but s3.extBut D.TOi2.symm) (((hl2.but s1.extBut D.l2z).but s2.extBut D.l2i1).but s3.extBut D.l2TO) hy λg4 e s4 ⟨oe,ho,hc⟩=>?_);have z4:IsZip g4 z TI TO .ellipsis:=s4 _ _ D.i2z.symm<|s3.extBut _ _ D.TOz.symm<|s2.extBut _ _ D.i1z.symm z1;have ez:e≠z:=λx=>by subst x;rw[z4]at ho;cases ho;simp at hc
  exact IU z4 (by simp) λg5 _ s5=>q g5 e (λc o c1 c2 c3 c4 x=>s5.extBut _ _ c1<|s4 _ _ c4<|s3.extBut _ _ c2<|s2.extBut _ _ c3<|s1.extBut _ _ c1 x) ⟨oe,s5.extBut _ _ ez ho,hc⟩
def Ar {Q:Option Lz->LC->Prop}(hh:A.handled=none)(D:ZipApart z TI TO i1 i2 l1 l2)(hz:IsZip s.heap z TI TO .none)(hTI:IsPair s.heap TI (.ref i1) (.ref i2))(hTO:IsPair s.heap TO a b)
  (h1:x4 b1 s.heap i1 l1 k) (h2:x4 b2 s.heap i2 l2 k) (hl1:G2 b1 s.heap l1 xs) (hl2:G2 b2 s.heap l2 ys) (he:xs[k]? = none\/ys[k]? = none)
  (q:∀h',(∀c o,c≠z->c≠TO->c≠i1->c≠i2->s.heap.get? c=some o->h'.get? c=some o)->Q none { s with heap:=h' }):LU (model prog w) A (pyNext<|.ref z) Q E s:=by
 have hT:s.TypeIs (.ref z) "zip":=⟨_,hz,rfl⟩;unfold pyNext;refine Gh (JP<|HX (name:=Str.ofString "__next__") hT Iv<|HK Iv hT JB (zW hh D hz hTI hTO h1 h2 hl1 hl2 he λh' e hk ⟨o,ho,hc⟩=>?_)<|Ju _);exact Gh<|Kz (T:="StopIteration") (b:=true) ⟨o,ho,hc⟩ isSubtype_stop<|Gk<|q _ hk
end
end
section
abbrev itO (b:Bool)(l:LA):LO:={ cls:=.type (if b then "list_iterator" else "tuple_iterator"),data:=.fields #[.ref l,.int 0 0] }
abbrev zg1 (h:LL)(b1:Bool)(l1:LA):LL:=h.push<|itO b1 l1
abbrev zg2 (h:LL)(b1 b2:Bool)(l1 l2:LA):LL:=(zg1 h b1 l1).push<|itO b2 l2
abbrev zg3 (h:LL)(b1 b2:Bool)(l1 l2:LA):LL:=(zg2 h b1 b2 l1 l2).push { cls:=.type "tuple",data:=.seq #[.ref h.objs.size,.ref (zg1 h b1 l1).objs.size] }
abbrev zg4 (h:LL)(b1 b2:Bool)(l1 l2:LA):LL:=(zg3 h b1 b2 l1 l2).push { cls:=.type "tuple",data:=.seq #[.none,.none] }
abbrev zg5 (h:LL)(b1 b2:Bool)(l1 l2:LA):LL:=(zg4 h b1 b2 l1 l2).push { cls:=.type "zip",data:=.fields #[.none,.bool false,.bool false,.ref (zg2 h b1 b2 l1 l2).objs.size,.ref (zg3 h b1 b2 l1 l2).objs.size] }
def yA {N a1 a2:Nat}(l1:a1<N)(l2:a2<N):ZipApart (N+4) (N+2) (N+3) N (N+1) a1 a2:=by
 constructor <;> show @Ne Nat _ _ <;> omega
end
end L3
namespace L2
open PySem PySem.Spec PyProof.Rows
section
def sd (target iter:LK)(ifs:List LK)(it:Lz)(env:LQ)(act:Sem Unit)(more:Sem Fin):Sem Fin:=do
 standAt iter.pos
 match <-pyNext it with
 | none=>pure<|.done .next
 | some v =>
  letOwnedTupleGo target it v
  assign target env v
  let mut ok:=true
  for c in ifs do
   if ok then ok <-isTrue c env (eval c env)
  if ok then act
  more
def iW (e:LK)(iter1:LK)(acc:Lz)(env:LQ)(k:Sem Fin):Sem Fin:=do
 let x <-eval iter1 env
 standAt iter1.pos
 let x <-Ma iter1 env x
 let _ <-runOwn (.compStart e 1 (<-holding [x] (pyIter x)) acc env) env
 k
def jz (elt tg iter tg1 iter1:LK)(ifs ifs1:List LK)(scope:LH)(pos:Pos)(it acc:Lz)(env:LQ) :
  compTurn (.ListComp elt [⟨tg,iter,ifs,0⟩,⟨tg1,iter1,ifs1,0⟩] scope pos) 0 it acc env=nZ tg iter ifs it env (iW (.ListComp elt [⟨tg,iter,ifs,0⟩,⟨tg1,iter1,ifs1,0⟩] scope pos) iter1 acc env) (again<|.compLoop (.ListComp elt [⟨tg,iter,ifs,0⟩,⟨tg1,iter1,ifs1,0⟩] scope pos) 0 it acc env):=by rfl
def wz (elt tg iter tg1 iter1:LK)(ifs ifs1:List LK)(scope:LH)(pos:Pos)(it acc:Lz)(env:LQ) :
  compTurn (.ListComp elt [⟨tg,iter,ifs,0⟩,⟨tg1,iter1,ifs1,0⟩] scope pos) 1 it acc env=sd tg1 iter1 ifs1 it env (iY elt acc env) (again<|.compLoop (.ListComp elt [⟨tg,iter,ifs,0⟩,⟨tg1,iter1,ifs1,0⟩] scope pos) 1 it acc env):=by rfl
section
variable {prog:LD}{w:LF}{A:LG}{R:Result->LC->Prop}{s:LC}
def AM {elt:LK}{gens:List Comprehension}{scope:LH}{pos:Pos}{d:Nat}{it acc:Lz}{env:LQ}{target iter:LK}{ifs:List LK}{act:Sem Unit}(I:Nat->LC->Prop)
  (ht:compTurn (.ListComp elt gens scope pos) d it acc env=sd target iter ifs it env act (again<|.compLoop (.ListComp elt gens scope pos) d it acc env))
  (turn:∀n s,I n s->LU (model prog w) A (pyNext it) (λr s₁=>match r with
   | none=>R (.ok .next) s₁
   | some v=>LU (model prog w) A (letOwnedTupleGo target it v) (λ_ s₀=>LU (model prog w) A (assign target env v) (λ_ s₂ =>
     LU (model prog w) A (forIn ifs true λc r=>if r=true then do let ok <-isTrue c env (eval c env);pure (ForInStep.yield ok) else pure (ForInStep.yield r)) (λok s₃ =>
      if ok=true then LU (model prog w) A act (λ_ s₅=>∃m,m<n/\I m s₅) (λ_ _=>False) s₃
      else ∃m,m<n/\I m s₃) (λ_ _=>False) s₂) (λ_ _=>False) s₀) (λ_ _=>False) s₁) (λ_ _=>False) s)
  (n:Nat) (h:I n s):codeAny (model prog w) A (.compLoop (.ListComp elt gens scope pos) d it acc env) R s:=by
 refine codeAny_loop rfl I (λn s hI=>?_) n h;show LU _ A ((compTurn (.ListComp elt gens scope pos) d it acc env).onRaise (λx=>do noteFrame x env;theTreesLotGoes x)) _ _ s;refine wpAny_noted ?_;rw[ht];unfold sd;refine Gh (IM<|Gh<|Hg (turn n s hI) (λr s₁ h₁=>?_) λ_ _ h'=>h'.elim);cases r with
 | none=>exact Gk h₁
 | some v =>
  refine Gh (Hg h₁ (λ_ s₀ h₀=>?_) λ_ _ h'=>h'.elim);refine Gh (Hg h₀ (λ_ s₂ h₂=>Gh<|Hg h₂ (λok s₃ h₃=>?_) λ_ _ h'=>h'.elim) λ_ _ h'=>h'.elim);cases ok with
  | false=>exact Gk ⟨rfl,h₃⟩
  | true=>exact Gh (Hg h₃ (λ_ s₅ h₅=>Gk ⟨rfl,h₅⟩) λ_ _ h'=>h'.elim)
def se {elt:LK}{g0:Comprehension}{target iter:LK}{ifs:List LK}{rest:List Comprehension}{scope:LH}{pos:Pos}{it acc:Lz}{env:LQ}
  (h0:codeAny (model prog w) A (.compLoop (.ListComp elt (g0::⟨target,iter,ifs,0⟩::rest) scope pos) 1 it acc env) R s)
  (h:LU (model prog w) A (pyIter it) (λit' s'=>codeAny (model prog w) A (.compLoop (.ListComp elt (g0::⟨target,iter,ifs,0⟩::rest) scope pos) 1 it' acc env) R s') (notedBy (model prog w) A env λx s'=>R (.error x) s') s) :
  codeAny (model prog w) A (.compStart (.ListComp elt (g0::⟨target,iter,ifs,0⟩::rest) scope pos) 1 it acc env) R s:=by
 refine codeAny_of_tree ?_;show LU _ _ ((compStart (.ListComp elt (g0::⟨target,iter,ifs,0⟩::rest) scope pos) 1 it acc env).onRaise (λx=>do noteFrame x env;standAt theWindowsPlace)) _ _ s;refine wpAny_notedAt ?_;unfold compStart;show LU _ _ (ask >>= _) _ _ s;refine Gh<|wpAny_askSetting<|wpAny_ite ?_;split
 .first | exact Gh (Gk<|Gk<|And.intro rfl h0) | exact Gk<|And.intro rfl h0
 .first | exact Gh (Iw<|Gh<|IM<|Gh<|Hg h (λit' s' h'=>Gk<|And.intro rfl h') λ_ _ x=>x) | (refine Gh<|Iw ?_;show LU _ _ (standAt iter.pos >>= _) _ _ s;exact Gh<|IM<|Gh<|Hg h (λit' s' h'=>Gk<|And.intro rfl h') λ_ _ x=>x)
end
def tIn (wi:TI)(g:TG)(tt:TT)(te:TE)(D:LA):TM:=λσ H Q=>wi σ H λJ H1 =>
 ∃W:Nat->Nat->St->List V->Hp->Prop,(∃m acc,H1 D=some (.lst acc)/\W 0 m σ acc H1)/\∀i m σ' acc H',W i m σ' acc H' ->
  (J.stop i H'/\Q σ' H') \/
  (J.go i H'/\∀x H2,J.yld i H' x H2->g x σ' H2 λσ2 H3=>tt σ2 H3 λok H4=>if ok=true then te σ2 H4 λy H5=>H5 D=some (.lst acc)/\acc.length<LM/\∃m',m'<m/\W (i+1) m' σ2 (acc++[y]) (upd H5 D<|.lst<|acc++[y])
   else H4 D=some (.lst acc)/\∃m',m'<m/\W (i+1) m' σ2 acc H4)
def xM {Y:Cx}{elt tg iter tg1 iter1:LK}{ifs ifs1:List LK}{scope:LH}{pos:Pos}{wi:TI}{g:TG}{tt:TT}{te:TE}{D:LA}(hx:Y.xe = λ_ _=>False)(hc:Y.calm=true)(hi:PI Y tg1 iter1 wi)(hg:PG Y tg1 g)(ht:PTs Y ifs1 tt)(he:PE Y elt te)
  (hs:∀x,Ma iter1 Y.env x=pure x):PM Y (iW (.ListComp elt [⟨tg,iter,ifs,0⟩,⟨tg1,iter1,ifs1,0⟩] scope pos) iter1 (.ref D) Y.env) (tIn wi g tt te D):=by
 intro pins s σ H Q I h k R E hk;unfold iW;have hxe:∀{a b},Y.xe a b->False:=λ{a b} z=>by rw[hx]at z;exact z
 refine Gh (Hg (hi pins s σ H _ I h) (λv s1 h1=>Gh<|IM ?_) λ_ _ z=>(hxe z).elim);rw[hs];refine Gh (Gk<|Gh<|HB<|Hg h1 (λitv s2 h2=>?_) λ_ _ z=>(hxe z).elim);obtain⟨it,fp,tn,J,H2,e,I2,T,st2,f2,W,⟨m0,acc0,hD0,w0⟩,turn⟩:=h2;subst e;have stat:∀{H':Hp},(∀b∈fp,H' b=none)->∀b∈fp,aC Y pins H' b:=λhn b hb=>⟨hn b hb,(f2 b hb).2⟩
 refine Gh<|wpAny_runOwn ?_;have loop:codeAny (model Y.prog Y.w) (Y.A.mark none) (.compLoop (.ListComp elt [⟨tg,iter,ifs,0⟩,⟨tg1,iter1,ifs1,0⟩] scope pos) 1 (.ref it) (.ref D) Y.env) (λr s'=>match r with | .ok f=>LU (model Y.prog Y.w) Y.A k R E s' | .error e=>cameBackBy (model Y.prog Y.w) Y.A Y.env E e s') s2:=by
  refine AM (A:=Y.A) (λn s'=>∃i σ' acc H',Inv Y pins σ' H' s'/\tn i s'.heap/\(∀b∈fp,H' b=none)/\H' D=some (.lst acc)/\W i n σ' acc H') (wz ..) ?_ m0 ⟨0,σ,acc0,H2,I2,st2,λb hb=>(f2 b hb).1,hD0,w0⟩;rintro n s5 ⟨i,σ5,acc,H5,I5,st5,fr5,hD5,w5⟩;rcases turn i n σ5 acc H5 w5 with ⟨stop,q⟩ | ⟨go,step⟩
  .refine Hg (T.done Y rfl rfl rfl hc i pins s5 σ5 H5 _ I5 (stat fr5) st5 stop) (λr s6 ⟨hr,I6⟩=>?_) λ_ _ z=>z
   subst hr;exact hk s6 σ5 H5 I6 q
  .refine Hg (T.item Y rfl rfl rfl hc i pins s5 σ5 H5 _ I5 (stat fr5) st5 go) (λr s6 ⟨u,hr,h6⟩=>?_) λ_ _ z=>z
   subst hr;refine Hg h6 (λ_ s7 ⟨x,H7,I7,r7,y7,st7,fr7⟩=>?_) λ_ _ z=>z
   have I7':=I7.pinned (stat fr7)<|T.obj _ _ st7;have keepI:∀{s':LC} {σ':St} {H':Hp},Inv Y (pins++bT fp s7.heap) σ' H' s'->tn (i+1) s'.heap/\∀b∈fp,H' b=none:=λ{s' σ' H'} I'=>by
    refine⟨T.keep _ _ _ st7 λb hb o e=>(I'.pin (b,o)<|GG _<|GG _<|L7 hb e).1,λb hb=>?_⟩;obtain⟨o,e,d⟩:=T.obj _ _ st7 b hb;exact(I'.pin (b,o)<|GG _<|GG _<|L7 hb e).2.1
   refine Hg (hg _ s7 σ5 H7 x u _ I7' r7<|step x H7 y7) (λ_ s8 ⟨σ8,H8,I8,q8⟩=>?_) λ_ _ z=>hxe z
   refine Hg (ht _ s8 σ8 H8 _ I8 q8) (λok s9 ⟨H9,I9,q9⟩=>?_) λ_ _ z=>hxe z
   cases ok with
   | false =>
    have q9:H9 D=some (.lst acc)/\∃m',m'<n/\W (i+1) m' σ8 acc H9:=q9;obtain⟨hD9,m',hm,w9⟩:=q9;obtain⟨k1,k2⟩:=keepI I9;exact⟨m',hm,i+1,σ8,acc,H9,I9.unpinned,k1,k2,hD9,w9⟩
   | true =>
    show LU _ _ (iY elt (.ref D) Y.env) _ _ _;unfold iY;refine Gh (Hg (he _ s9 σ8 H9 _ I9 q9) (λyv s10 ⟨y,H10,I10,r10,hD10,hz,m',hm,w10⟩=>?_) λ_ _ z=>hxe z);refine Gh (Hg (R7 (X:=Y) _ s10 σ8 H10 (.ref D) [y] (.ref D) [yv] (λ_ H'=>H'=upd H10 D (.lst<|acc++[y])) I10 rfl (.cons r10 .nil) ⟨D,acc,y,rfl,rfl,hD10,hz,rfl⟩) (λ_ s11 ⟨_,H11,I11,_,e11⟩=>Gk ?_) λ_ _ z=>hxe z);subst e11;obtain⟨k1,k2⟩:=keepI I11;exact⟨m',hm,i+1,σ8,acc++[y],_,I11.unpinned,k1,k2,f8,w10⟩
 exact se loop<|T.self _ 0 _ _ _ st2 loop
end
section
def oY {X:Cx}{elt tg iter tg1 iter1:LK}{ifs ifs1:List LK}{scope osc:LH}{pos:Pos}{N:List Str}{k:Nat}{cap:List Nat}{g:TG}{tt:TT}{tm:TM}{cl:List (Str×LA)}
  {pins:List (LA×LO)} {σ:St} {H3:Hp} {s3:LC} {D it:LA} {fp:List LA} {tn:Nat->LL->Prop} {J:It} {Q:VK} {W:Nat->Nat->St->Hp->Prop} {m0:Nat}
  (hc:X.calm=true) (hosc:X.env.scope=osc) (hcap:Caps X.N osc N k cap scope)
  (hcl:∀{x:Str} {c:LA},cl.lookup x=some c->X.env.cells.lookup x=some c) (hhas:∀x,(x,Me.free)∈scope.names->∃c,cl.lookup x=some c)
  (hg:∀cl C ex pins s H,PG (cxC X N scope cl C ex pins s H) tg g)
  (ht:∀cl C ex pins s H,PTs (cxC X N scope cl C ex pins s H) ifs tt)
  (he:∀cl C ex pins s H,PM (cxC X N scope cl C ex pins s H) (iW (.ListComp elt [⟨tg,iter,ifs,0⟩,⟨tg1,iter1,ifs1,0⟩] scope pos) iter1 (.ref D) (cxC X N scope cl C ex pins s H).env) tm)
  (I3:Inv X pins σ H3 s3) (T:Turn X.prog X.w X.K tg J fp it tn) (st:tn 0 s3.heap) (f3:∀b∈fp,aC X pins H3 b) (w0:W 0 m0 (Z9 k cap σ) H3)
  (turn:∀i m σ' H',W i m σ' H'->(J.stop i H'/\Q (.ref D) H') \/
   (J.go i H'/\∀x H2,J.yld i H' x H2->g x σ' H2 λσ2 H3=>tt σ2 H3 λok H4=>if ok=true then tm σ2 H4 λσ3 H5=>∃m',m'<m/\W (i+1) m' σ3 H5 else ∃m',m'<m/\W (i+1) m' σ2 H4)) :
  LU (model X.prog X.w) X.A (newFunctionEnv scope X.env.globals cl [] X.env.qual none .none<|some X.env) (λcenv s₄ =>
   codeAny (model X.prog X.w) X.A (.compStart (.ListComp elt [⟨tg,iter,ifs,0⟩,⟨tg1,iter1,ifs1,0⟩] scope pos) 0 (.ref it) (.ref D) { cenv with scope:=relabel scope X.env }) (compPost (model X.prog X.w) X.A X.xe none (EP X pins σ Q) (.ref D) cenv.locals) s₄) X.xe s3:=by
 refine dw (P:=λC=>compPost (model X.prog X.w) X.A X.xe none (EP X pins σ Q) (.ref D) C) (Qs:=Q<|.ref D) (W:=W) (λenv=>jz ..) hc hosc hcap hcl hhas hg ht I3 T st f3 w0 (λs6 σ5 H5 I6 I7 q=>?_) λi m σ' H' w=>?_
 .obtain⟨m,hn,_⟩:=id I6.loc;refine⟨m,hn,λh' hsb=>?_⟩;obtain⟨g0,g1,g2,g3,g4,g5⟩:=I3.fpOk (H':=H5) (b:=s3.heap.objs.size) (Gs _) I6.free;exact⟨.ref D,H5,I7.turned (t':=s6.toks) (λb o hb e=>(hsb.2 b hb).trans e) g0 g1 g3 g4 g5,rfl,q⟩
 .rcases turn i m σ' H' w with h | ⟨go,step⟩
  .exact .inl h
  .exact .inr ⟨go,_,step,λσ2 H4 h=>h,λpins' s σ2 H4 I h k R E hk=>he _ _ _ _ _ _ _ s σ2 H4 _ I h k R E hk⟩
def tE (wi:TI)(k:Nat)(cap:List Nat)(g:TG)(tt:TT)(wi1:TI)(g1:TG)(tt1:TT)(te:TE):TE:=λσ H Q=>wi σ H λJ H1=>∀D,H1 D=none ->
 ∃W:Nat->Nat->St->Hp->Prop,(∃m,W 0 m (Z9 k cap σ)<|upd H1 D<|.lst [])/\∀i m σ' H',W i m σ' H' ->
  (J.stop i H'/\Q (.ref D) H') \/
  (J.go i H'/\∀x H2,J.yld i H' x H2->g x σ' H2 λσ2 H3=>tt σ2 H3 λok H4=>if ok=true then tIn wi1 g1 tt1 te D σ2 H4 λσ3 H5=>∃m',m'<m/\W (i+1) m' σ3 H5 else ∃m',m'<m/\W (i+1) m' σ2 H4)
def zx {X:Cx}{elt tg iter tg1 iter1:LK}{ifs ifs1:List LK}{scope osc:LH}{pos:Pos}{N:List Str}{k:Nat}{cap:List Nat}{wi:TI}{g:TG}{tt:TT}{wi1:TI}{g1:TG}{tt1:TT}{te:TE}
  (hc:X.calm=true) (hosc:X.env.scope=osc) (hcap:Caps X.N osc N k cap scope) (hi:PI X tg iter wi)
  (hg:∀cl C ex pins s H,PG (cxC X N scope cl C ex pins s H) tg g)
  (ht:∀cl C ex pins s H,PTs (cxC X N scope cl C ex pins s H) ifs tt)
  (hi1:∀cl C ex pins s H,PI (cxC X N scope cl C ex pins s H) tg1 iter1 wi1)
  (hg1:∀cl C ex pins s H,PG (cxC X N scope cl C ex pins s H) tg1 g1)
  (ht1:∀cl C ex pins s H,PTs (cxC X N scope cl C ex pins s H) ifs1 tt1)
  (he:∀cl C ex pins s H,PE (cxC X N scope cl C ex pins s H) elt te)
  (hs1:∀cl C ex pins s H x,Ma iter1 (cxC X N scope cl C ex pins s H).env x=pure x:=by intros;rfl)
  (hs:∀x,Ma iter X.env x=pure x:=by intro _;rfl) :
  PE X (.ListComp elt [⟨tg,iter,ifs,0⟩,⟨tg1,iter1,ifs1,0⟩] scope pos) (tE wi k cap g tt wi1 g1 tt1 te):=by
 intro pins s σ H Q I h;have hcell:∀y∈scope.names,y.2 = .free->∃c,X.env.cells.lookup y.1=some c:=λy hy hk=>I.ok.has y.1 (by
  show X.env.scope.names.lookup y.1=_\/X.env.scope.names.lookup y.1=_;rw[hosc];exact hcap.free y hy hk)
 let f:Str->LA:=λx=>(X.env.cells.lookup x).getD 0
 have hf:∀y∈scope.names,y.2 = .free->X.env.cells.lookup y.1=some (f y.1):=λy hy hk=>by
  obtain⟨c,e⟩:=hcell y hy hk;show _=some ((X.env.cells.lookup y.1).getD 0);rw[e];rfl
 have hclos:closureFor scope X.env=pure (v8 f scope.names []):=y9 λy hy hk=>by
  unfold cellOf;rw[hf y hy hk]
 have hcl:∀{x:Str} {c:LA},(v8 f scope.names []).lookup x=some c->X.env.cells.lookup x=some c:=λ{x c} e=>by
  rcases C9 _ _ e with ⟨h1,h2⟩ | h1
  .rw[h2];exact hf (x,.free) h1 rfl
  .simp at h1
 have hhas:∀x,(x,Me.free)∈scope.names->∃c,(v8 f scope.names []).lookup x=some c:=λx hx=>⟨_,O1 _ _<|.inl hx⟩
 generalize v8 f scope.names []=cl at hclos hcl hhas;rw[eval_ListComp];refine Jp (use:=none) (cl:=cl) rfl hs hclos hcap.kind hcap.loc ?_;refine thn (hi pins s σ H _ I h) λv s1 h1=>thn h1 λitv s2 h2=>?_
 obtain⟨it,fp,tn,J,H2,e,I2,T,st2,f2,q2⟩:=h2;subst e;obtain⟨W,⟨m0,w0⟩,turn⟩:=q2 s2.heap.objs.size<|I2.hok.fresh<|Gs _;refine Hr ?_;have I3:Inv X pins σ (upd H2 s2.heap.objs.size<|.lst []) { s2 with heap:=s2.heap.push { cls:=.type "list",data:=.seq ([]:List Lz).toArray } }:=I2.lnew (ys:=[]) (its:=[]) (t':=s2.toks) .nil<|HA _;have lt2:∀b∈fp,b≠s2.heap.objs.size:=λb hb=>by
  obtain⟨o,e,_⟩:=T.obj _ _ st2 b hb;exact GR<|Gv e
 exact oY hc hosc hcap hcl hhas hg ht (λcl C ex pins s H=>xM (Y:=cxC X N scope cl C ex pins s H) rfl hc (hi1 cl C ex pins s H) (hg1 cl C ex pins s H) (ht1 cl C ex pins s H) (he cl C ex pins s H)<|hs1 cl C ex pins s H) I3 T (T.keep _ _ (s2.heap.push { cls:=.type "list",data:=.seq ([]:List Lz).toArray }) st2 λb _ o e=>Gj _ e) (λb hb=>⟨by rw[d7<|lt2 b hb];exact(f2 b hb).1,(f2 b hb).2⟩) w0 turn
end
end L2
namespace L3
open PySem PySem.Spec PyProof.Rows L2
section
section
variable [Feeds]
variable {K:Fg}{X:Cx}{tg iter tg1 iter1 elt:LK}{te:TE}{pos:Pos}
noncomputable def eF (bd:Ac->DE->Option DE)(mt:DE->M Bool)(me:DE->M Ac):List Ac->DE->M (List Ac×DE)
 | [],E,F=>some (([],E),F)
 | d::r,E,F=>(bd d E).bind λE1=>(mt E1 F).bind λp=>if p.1=true then(me E1 p.2).bind λy=>(eF bd mt me r E1 y.2).bind λz=>some ((y.1::z.1.1,z.1.2),z.2) else eF bd mt me r E1 p.2
def X2 (bd:Ac->DE->Option DE)(mt:DE->M Bool)(mi1:DE->M (List Ac))(bd1:Ac->DE->Option DE)(mt1:DE->M Bool)(me:DE->M Ac):List Ac->DE->M (List Ac)
 | [],_,F=>some ([],F)
 | d::r,E,F=>(bd d E).bind λE1=>(mt E1 F).bind λp=>if p.1=true then(mi1 E1 p.2).bind λits=>(eF bd1 mt1 me its.1 E1 its.2).bind λz=>(X2 bd mt mi1 bd1 mt1 me r z.1.2 z.2).bind λw=>some (z.1.1++w.1,w.2) else X2 bd mt mi1 bd1 mt1 me r E1 p.2
def lF (mi:DE->M (List Ac))(k:Nat)(cap:List Nat)(bd:Ac->DE->Option DE)(mt:DE->M Bool)(mi1:DE->M (List Ac))(bd1:Ac->DE->Option DE)(mt1:DE->M Bool)(me:DE->M Ac):DE->M Ac:=λE F =>
 (mi E F).bind λp=>(X2 bd mt mi1 bd1 mt1 me p.1 (fC k cap E) p.2).bind λz=>if z.1.length<=LM then some (.list z.1,z.2) else none
def xH {wi wi1:TI}{mi mi1:DE->M (List Ac)}{k:Nat}{cap:List Nat}{g g1:TG}{bd bd1:Ac->DE->Option DE}{tt tt1:TT}{mt mt1:DE->M Bool}{me:DE->M Ac}(hi:TIs K wi mi)(hg:TGd K g bd)(ht:TTd K tt mt)
  (hi1:TId K wi1 mi1) (hg1:TGd K g1 bd1) (ht1:TTd K tt1 mt1) (he:TEd K te me):TEd K (tE wi k cap g tt wi1 g1 tt1 te) (lF mi k cap bd mt mi1 bd1 mt1 me):=λG B E F σ H Q d F' I e q=>by
 obtain⟨⟨items,F1⟩,e1,e⟩:=bS9 e;obtain⟨⟨whole,F2⟩,e2,e⟩:=bS9 e;split at e
 .rename_i hsz;cases e;have hsz:whole.length<=LM:=hsz;refine hi G B E F σ H _ items F1 I e1 λJ H1 k1 f1 ok D hD=>?_
  have I1:SitE K G B E F1 σ H1:=I.step k1 f1;have hBD:D ∉ B:=I1.bk.nin hD;have hfD:D ∉ j8 K G:=λz=>hBD<|I.fB D z
  have stab:∀{H':Hp},Kp (j8 K G) H1 H'->Kp (j8 K G) H1 H'/\d9 (hid H1 B) (hid H' (D::B)):=λ{H'} k=>⟨k,λb o eb=>by
   by_cases hb:b∈B
   .rw[x6 hb]at eb;cases eb
   .rw[i4 hb]at eb;rw[i4 (by
     intro z;rcases GK.1 z with rfl | z
     .rw[hD]at eb;cases eb
     .exact hb z)]
    exact k b o eb λz=>hb<|I.fB b z⟩
  obtain⟨W,hW⟩:∃W:Nat->Nat->St->Hp->Prop,W = λi m σ' H'=>m=items.length-i/\i<=items.length/\∃E F done rest acc,SitE K G (D::B) E F σ' H'/\H' D=some (.lst acc)/\Kp (j8 K G) H1 H'/\(∀(j:Nat) (ds:List Ac),E[j]? = some (some<|DV.own ds)->σ'[j]? ≠ some (some<|V.ref D))/\a8 K (hid H' (D::B)) done acc/\X2 bd mt mi1 bd1 mt1 me (items.drop i) E F=some (rest,F2)/\whole=done++rest:=⟨_,rfl⟩
  have w0:W 0 items.length (Z9 k cap σ) (upd H1 D<|.lst []):=by
   rw[hW];refine⟨by simp,HA _,fC k cap E,F1,[],whole,[],(I1.cap k cap).more hD,f8,Kp.upd hD,λj ds ej z=>?_,a8.nil,e2,rfl⟩;obtain⟨v,v1,a,xs,rfl,_,_,ha,_⟩:=(I1.cap k cap).loc j _ ej;rw[v1]at z;cases z;rw[hD]at ha;cases ha
  refine⟨W,⟨_,w0⟩,λi m σ' H' w=>?_⟩;have wn:∀{i m σ' H'},(m=items.length-i/\i<=items.length/\∃E F done rest acc,SitE K G (D::B) E F σ' H'/\H' D=some (.lst acc)/\Kp (j8 K G) H1 H'/\(∀(j:Nat) (ds:List Ac),E[j]? = some (some<|DV.own ds)->σ'[j]? ≠ some (some<|V.ref D))/\a8 K (hid H' (D::B)) done acc/\X2 bd mt mi1 bd1 mt1 me (items.drop i) E F=some (rest,F2)/\whole=done++rest)->W i m σ' H':=λh=>by rw[hW];exact h
  rw[hW]at w;clear hW w0;obtain⟨rfl,hil,E',F3,done,rest,acc,I2,hD2,k2,ow,hd2,e3,ew⟩:=w;by_cases hlt:i<items.length
  .refine .inr ⟨((ok H' (D::B)<|stab k2).1 i items[i]<|by simp[hlt]).1,λx H2 y=>?_⟩;obtain⟨s2,hx⟩:=((ok H' (D::B)<|stab k2).1 i items[i]<|by simp[hlt]).2 x H2 y;have hx':=hx I2.bk;rw[IF hlt,X2]at e3;obtain⟨E4,e4,e3⟩:=bS9 e3;obtain⟨⟨b,F5⟩,e5,e3⟩:=bS9 e3;have I3:SitE K G (D::B) E' F3 σ' H2:=I2.step (Kp.same s2)<|I2.fd.same s2;refine hg G (D::B) E' F3 σ' H2 x items[i] E4 _ I3 hx' e4 λσ4 I4 fr=>?_
   have ow4:∀(j:Nat) (ds:List Ac),E4[j]? = some (some<|DV.own ds)->σ4[j]? ≠ some (some<|V.ref D):=λj ds ej=>by
    obtain⟨a1,a2⟩:=fr j λy z=>by rw[ej]at z;cases z
    rw[a2];exact ow j ds<|a1▸ej
   refine ht G (D::B) E4 F3 σ4 H2 _ b F5 I4 e5 λH5 k5 f5=>?_
   have kall:Kp (j8 K G) H1 H5:=(k2.trans<|Kp.same s2).trans k5;have I5:SitE K G (D::B) E4 F5 σ4 H5:=I4.step k5 f5;have hD5:H5 D=some (.lst acc):=k5 D _ (s2 D _ hD2) hfD;have hd5:a8 K (hid H5 (D::B)) done acc:=(hd2.same<|(Kp.same s2).hid (fp:=[])<|by simp).same<|k5.hid I4.fB;cases b with
   | false=>exact⟨items.length-(i+1),by omega,wn ⟨rfl,hlt,E4,F5,done,rest,acc,I5,hD5,kall,ow4,hd5,e3,ew⟩⟩
   | true =>
    obtain⟨⟨its,F6⟩,e6,e3⟩:=bS9 e3;obtain⟨⟨⟨zs,Ez⟩,F7⟩,e7,e3⟩:=bS9 e3;obtain⟨⟨ws,F8⟩,e8,e3⟩:=bS9 e3;cases e3;refine hi1 G (D::B) E4 F5 σ4 H5 _ its F6 I5 e6 λJ1 H6 k6 f6 ok1=>?_
    have I6:SitE K G (D::B) E4 F6 σ4 H6:=I5.step k6 f6;have hD6:H6 D=some (.lst acc):=k6 D _ hD5 hfD;obtain⟨V5,hV⟩:∃V5:Nat->Nat->St->List V->Hp->Prop,V5 = λj n σ5 acc5 H7=>n=its.length-j/\j<=its.length/\∃E F done' rest',SitE K G (D::B) E F σ5 H7/\H7 D=some (.lst acc5)/\Kp (j8 K G) H1 H7/\d9 (hid H6 (D::B)) (hid H7 (D::B))/\(∀(j:Nat) (ds:List Ac),E[j]? = some (some<|DV.own ds)->σ5[j]? ≠ some (some<|V.ref D))/\a8 K (hid H7 (D::B)) done' acc5/\eF bd1 mt1 me (its.drop j) E F=some ((rest',Ez),F7)/\whole=done'++rest'++ws:=⟨_,rfl⟩
    have v0:V5 0 its.length σ4 acc H6:=by
     rw[hV];exact⟨by simp,HA _,E4,F6,done,zs,I6,hD6,kall.trans k6,λ_ _ z=>z,ow4,hd5.same<|k6.hid I5.fB,e7,by rw[ew,Lk]⟩
    refine⟨V5,⟨its.length,acc,hD6,v0⟩,λj n σ5 acc5 H7 w=>?_⟩;have vn:∀{j n σ5 acc5 H7},(n=its.length-j/\j<=its.length/\∃E F done' rest',SitE K G (D::B) E F σ5 H7/\H7 D=some (.lst acc5)/\Kp (j8 K G) H1 H7/\d9 (hid H6 (D::B)) (hid H7 (D::B))/\(∀(j:Nat) (ds:List Ac),E[j]? = some (some<|DV.own ds)->σ5[j]? ≠ some (some<|V.ref D))/\a8 K (hid H7 (D::B)) done' acc5/\eF bd1 mt1 me (its.drop j) E F=some ((rest',Ez),F7)/\whole=done'++rest'++ws)->V5 j n σ5 acc5 H7:=λh=>by rw[hV];exact h
    rw[hV]at w;clear hV v0;obtain⟨rfl,hj,E5,F9,done5,rest5,I7,hD7,k7,s7,ow5,hd7,e9,ew9⟩:=w;by_cases hjl:j<its.length
    .refine .inr ⟨((ok1 H7 (D::B) s7).1 j its[j]<|by simp[hjl]).1,λx1 H8 y1=>?_⟩;obtain⟨s8,hx8⟩:=((ok1 H7 (D::B) s7).1 j its[j]<|by simp[hjl]).2 x1 H8 y1;have hx8':=hx8 I7.bk;rw[IF hjl,eF]at e9;obtain⟨Ea,ea,e9⟩:=bS9 e9;obtain⟨⟨bb,Fb⟩,eb,e9⟩:=bS9 e9;have I8:SitE K G (D::B) E5 F9 σ5 H8:=I7.step (Kp.same s8)<|I7.fd.same s8;refine hg1 G (D::B) E5 F9 σ5 H8 x1 its[j] Ea _ I8 hx8' ea λσa Ia fra=>?_
     have owa:∀(j:Nat) (ds:List Ac),Ea[j]? = some (some<|DV.own ds)->σa[j]? ≠ some (some<|V.ref D):=λj ds ej=>by
      obtain⟨a1,a2⟩:=fra j λy z=>by rw[ej]at z;cases z
      rw[a2];exact ow5 j ds<|a1▸ej
     refine ht1 G (D::B) Ea F9 σa H8 _ bb Fb Ia eb λHb kb fb=>?_
     have kallb:Kp (j8 K G) H1 Hb:=(k7.trans<|Kp.same s8).trans kb;have Ib:SitE K G (D::B) Ea Fb σa Hb:=Ia.step kb fb;have hDb:Hb D=some (.lst acc5):=kb D _ (s8 D _ hD7) hfD;have s78:d9 (hid H7 (D::B)) (hid H8 (D::B)):=(Kp.same s8).hid (fp:=[]) (by simp);have s8b:d9 (hid H8 (D::B)) (hid Hb (D::B)):=kb.hid Ia.fB;have hdb:a8 K (hid Hb (D::B)) done5 acc5:=(hd7.same s78).same s8b;have s6b:d9 (hid H6 (D::B)) (hid Hb (D::B)):=λb o z=>s8b b o<|s78 b o<|s7 b o z
     cases bb with
     | false=>exact⟨hDb,its.length-(j+1),by omega,vn ⟨rfl,hjl,Ea,Fb,done5,rest5,Ib,hDb,kallb,s6b,owa,hdb,e9,ew9⟩⟩
     | true =>
      obtain⟨⟨yd,Fc⟩,ec,e9⟩:=bS9 e9;obtain⟨⟨⟨zs',Ez'⟩,Fd⟩,ed,e9⟩:=bS9 e9;cases e9;refine he G (D::B) Ea Fb σa Hb _ yd Fc Ib ec λv Hc kc fc hc=>?_
      have hDc:Hc D=some (.lst acc5):=kc D _ hDb hfD;have Ic:SitE K G (D::B) Ea Fc σa Hc:=Ib.step kc fc;have hdc:=hdb.same<|kc.hid Ib.fB;have hlen:acc5.length<LM:=by
       have h1:=hd7.length;have h2:=HJ List.length ew9;simp only[Hm,GM]at h2;omega
      refine⟨hDc,hlen,its.length-(j+1),by omega,vn ⟨rfl,hjl,Ea,Fc,done5++[yd],zs',Ic.wr hfD owa hDc,f8,λb o eb nb=>?_,?_,owa,?_,ed,by rw[ew9];simp⟩⟩
      .have:=kc b o (kallb b o eb nb) nb;rw[d7];exact this;intro z;subst z;rw[hD]at eb;cases eb
      .rw[aL Gx];exact λb o z=>kc.hid Ib.fB b o<|s6b b o z
      .rw[aL Gx];exact hdc.snoc hc
    .have hje:j=its.length:=by omega
     subst hje;rw[Jq,eF]at e9;cases e9;rw[HE]at ew9;exact .inl ⟨(ok1 H7 (D::B) s7).2,items.length-(i+1),by omega,wn ⟨rfl,hlt,_,_,done5,ws,acc5,I7,hD7,k7,ow5,hd7,e8,ew9⟩⟩
  .have hie:i=items.length:=by omega
   subst hie;rw[Jq,X2]at e3;cases e3;rw[HE]at ew;subst ew;exact .inl ⟨(ok H' (D::B)<|stab k2).2,q _ H' (k1.trans k2) I2.fd<|b7.lst (by rw[i4 hBD];exact hD2)<|hd2.same<|N8 λb hb=>Gq _ hb⟩
 .cases e
def yB {ifs ifs1:List LK}{scope:LH}(osc:LH)(N:List Str){k:Nat}{cap:List Nat}{wi wi1:TI}{g g1:TG}{tt tt1:TT}{mi mi1:DE->M (List Ac)}{bd bd1:Ac->DE->Option DE}{mt mt1:DE->M Bool}{me:DE->M Ac}
  (hi:Eib K X tg iter wi mi)
  (hg:∀{cl C ex pins s H},Eg K (cxC X N scope cl C ex pins s H) tg g bd)
  (ht:∀{cl C ex pins s H},Ets K (cxC X N scope cl C ex pins s H) ifs tt mt)
  (hi1:∀{cl C ex pins s H},Ei K (cxC X N scope cl C ex pins s H) tg1 iter1 wi1 mi1)
  (hg1:∀{cl C ex pins s H},Eg K (cxC X N scope cl C ex pins s H) tg1 g1 bd1)
  (ht1:∀{cl C ex pins s H},Ets K (cxC X N scope cl C ex pins s H) ifs1 tt1 mt1)
  (he:∀{cl C ex pins s H},Ev K (cxC X N scope cl C ex pins s H) elt te me)
  (hc:X.calm=true:=by rfl) (hosc:X.env.scope=osc:=by rfl) (hcap:Caps X.N osc N k cap scope:=by exact {})
  (hs1:∀cl C ex pins s H x,Ma iter1 (cxC X N scope cl C ex pins s H).env x=pure x:=by intros;rfl)
  (hs:∀x,Ma iter X.env x=pure x:=by intro _;rfl) :
  Ev K X (.ListComp elt [⟨tg,iter,ifs,0⟩,⟨tg1,iter1,ifs1,0⟩] scope pos) (tE wi k cap g tt wi1 g1 tt1 te) (lF mi k cap bd mt mi1 bd1 mt1 me) :=
 ⟨zx hc hosc hcap hi.pi (λ_ _ _ _ _ _=>hg.pg) (λ_ _ _ _ _ _=>ht.pts) (λ_ _ _ _ _ _=>hi1.pi) (λ_ _ _ _ _ _=>hg1.pg) (λ_ _ _ _ _ _=>ht1.pts) (λ_ _ _ _ _ _=>he.pe) hs1 hs,
  xH hi.ok (@hg [] 0 [] [] X.s₀ X.H₀).ok (@ht [] 0 [] [] X.s₀ X.H₀).ok (@hi1 [] 0 [] [] X.s₀ X.H₀).ok (@hg1 [] 0 [] [] X.s₀ X.H₀).ok (@ht1 [] 0 [] [] X.s₀ X.H₀).ok (@he [] 0 [] [] X.s₀ X.H₀).ok⟩
end
end
end L3
namespace L3
open PySem PySem.Spec PyProof.Rows L2
section
abbrev W7 (h:LL)(z TI TO T:LA)(f:Bool):Prop :=
 h.get? z=some ⟨.type "zip",none,.fields #[rawInt T,.bool f,.bool false,.ref TI,.ref TO],#[]⟩
section
variable {prog:LD}{w:LF}{A:LG}{E:Lz->LC->Prop}{s:LC}
variable {b1 b2 f:Bool}{z TI TO T0 i1 i2 l1 l2:LA}{k:Nat}{xs ys:Array Lz}{x y a b:Lz}{oT:LO}
def mF (hz:W7 s.heap z TI TO T0 f)(hT:s.heap.get? T0=some oT):LU (model prog w) A (Builtin.SmallTypes.ownedTupleIsFree<|.ref z) (λr s'=>r=false/\∃g1,s'={ s with heap:=g1 }/\W7 g1 z TI TO T0 true/\LL.SameBut z s.heap g1) E s:=by
 unfold Builtin.SmallTypes.ownedTupleIsFree;refine Gh<|Hy hz rfl (x:=rawInt T0) rfl ?_;show LU _ _ (loadIfAlive ((T0:Int).toNat) >>= _) _ _ _;rw[HG];refine Gh<|BA hT ?_;show LU _ _ (field (.ref z) 1 >>= _) _ _ _;refine Gh<|Hy hz rfl (x:=.bool f) rfl ?_;cases f with
 | true=>exact Gk ⟨rfl,s.heap,rfl,hz,LL.SameBut.refl _ _⟩
 | false =>
  show LU _ _ (setField (.ref z) 1 (.bool true) >>= λ_=>pure false) _ _ _;exact Gh (IU hz (by simp) λg1 z1 s1=>Gk ⟨rfl,g1,rfl,z1,s1⟩)
def vk {Q:Lz->LC->Prop}(D:ZipApart z TI TO i1 i2 l1 l2)(hz:W7 s.heap z TI TO T0 f)(hT:s.heap.get? T0=some oT)(hTI:IsPair s.heap TI (.ref i1) (.ref i2))
  (h1:x4 b1 s.heap i1 l1 k) (h2:x4 b2 s.heap i2 l2 k) (hl1:G2 b1 s.heap l1 xs) (hl2:G2 b2 s.heap l2 ys) (hx:xs[k]? = some x) (hy:ys[k]? = some y)
  (q:∀h',W7 h' z TI TO T0 true->x4 b1 h' i1 l1 (k+1)->x4 b2 h' i2 l2 (k+1)->IsPair h' s.heap.objs.size x y->h'.objs.size=s.heap.objs.size+1 ->
   (∀c o,c≠z->c≠i1->c≠i2->s.heap.get? c=some o->h'.get? c=some o)->Q (.ref s.heap.objs.size) { s with heap:=h' }) :
  LU (model prog w) A (Builtin.«zip.__next__» ⟨[.ref z],[]⟩) (λfin s'=>∃v,fin = .done (.ret v)/\Q v s') E s:=by
 show LU _ _ (field (.ref z) 2 >>= _) _ _ _;refine Gh<|Hy hz rfl (x:=.bool false) rfl ?_;show LU _ _ (field (.ref z) 3 >>= _) _ _ _;refine Gh<|Hy hz rfl (x:=.ref TI) rfl ?_;refine Gh<|HL hTI rfl ?_;show LU _ _ (Builtin.SmallTypes.ownedTupleIsFree (.ref z) >>= _) _ _ _;refine Gh (Hg (mF hz hT) (λr s' h=>?_)<|λ_ _ h=>h);obtain⟨rfl,g1,rfl,z1,s1⟩:=h;simp only[GY,HP];rw[<-Jf];refine Gh ?_;simp only[JV,Kj];refine Gh<|Gh<|HB ?_;show LU _ _ (Builtin.SmallTypes.nextOf (.ref i1) >>= _) _ _ _;refine Gh (aO (h1.but s1.extBut D.i1z) (hl1.but s1.extBut D.l1z) hx λg2 a2 s2=>Gk<|Gk ?_);refine Gh<|Gh<|HB ?_;show LU _ _ (Builtin.SmallTypes.nextOf (.ref i2) >>= _) _ _ _;refine Gh (aO ((h2.but s1.extBut D.i2z).but s2.extBut D.i12.symm) ((hl2.but s1.extBut D.l2z).but s2.extBut D.l2i1) hy λg3 a3 s3=>Gk<|Gk<|Gk ?_);show LU _ _ (newTuple [x,y] >>= _) _ _ ⟨g3,s.gens,s.drawn,s.toks,s.os⟩;refine Gh<|KZ ?_;have hsz:g3.objs.size=s.heap.objs.size:=by rw[s3.1,s2.1,s1.1]
 have z3:W7 g3 z TI TO T0 true:=s3.extBut _ _ D.i2z.symm<|s2.extBut _ _ D.i1z.symm z1;have k3:∀c o,c≠z->c≠i1->c≠i2->s.heap.get? c=some o->g3.get? c=some o:=λc o c1 c2 c3 e=>s3.extBut _ _ c3<|s2.extBut _ _ c2<|s1.extBut _ _ c1 e
 refine Gk ⟨_,rfl,?_⟩;show Q (.ref g3.objs.size) _;have p4:(g3.push { cls:=.type "tuple",data:=.seq #[x,y] }).get? g3.objs.size=some _:=GN _ rfl;rw[hsz]at p4 ⊢;exact q _ (Gj _ z3) ((a2.but s3.extBut D.i12).at λo e=>Gj _ e) (a3.at λo e=>Gj _ e) p4 (by rw[Io,hsz]) λc o c1 c2 c3 e=>Gj _<|k3 c o c1 c2 c3 e
def zF {Q:Fin->LC->Prop}(hh:A.handled=none)(D:ZipApart z TI TO i1 i2 l1 l2)(hz:W7 s.heap z TI TO T0 f)(hT:s.heap.get? T0=some oT)(hTI:IsPair s.heap TI (.ref i1) (.ref i2))
  (h1:x4 b1 s.heap i1 l1 k) (hl1:G2 b1 s.heap l1 xs) (hx:xs[k]? = none)
  (q:∀h' e,(∀c o,c≠z->c≠i1->c≠i2->s.heap.get? c=some o->h'.get? c=some o)->(∃o,h'.get? e=some o/\o.cls = .type "StopIteration")->E (.ref e) { s with heap:=h' }) :
  LU (model prog w) A (Builtin.«zip.__next__» ⟨[.ref z],[]⟩) Q E s:=by
 show LU _ _ (field (.ref z) 2 >>= _) _ _ _;refine Gh<|Hy hz rfl (x:=.bool false) rfl ?_;show LU _ _ (field (.ref z) 3 >>= _) _ _ _;refine Gh<|Hy hz rfl (x:=.ref TI) rfl ?_;refine Gh<|HL hTI rfl ?_;show LU _ _ (Builtin.SmallTypes.ownedTupleIsFree (.ref z) >>= _) _ _ _;refine Gh (Hg (Q:=λr s'=>r=false/\∃g1,s'={ s with heap:=g1 }/\W7 g1 z TI TO T0 true/\LL.SameBut z s.heap g1) (mF hz hT) (λr s' h=>?_)<|λ_ _ h=>h);obtain⟨rfl,g1,rfl,z1,s1⟩:=h;simp only[GY,HP];rw[<-Jf];refine Gh ?_;simp only[JV,Kj];refine Gh<|Gh<|HB ?_;show LU _ _ (Builtin.SmallTypes.nextOf (.ref i1) >>= _) _ _ _;exact Gh (lB hh (h1.but s1.extBut D.i1z) (hl1.but s1.extBut D.l1z) hx λg2 e s2 he=>q g2 e (λc o c1 c2 _ x=>s2 _ _ c2<|s1.extBut _ _ c1 x) he)
def ZSt (h:LL)(z TI TO i1 i2:LA):Prop:=(IsZip h z TI TO .none/\∃a b,IsPair h TO a b)\/∃T o f,W7 h z TI TO T f/\(h.get? T=some o/\o.cls = .type "tuple")/\T≠z/\T≠i1/\T≠i2
def ZSt.ty {h:LL}(x:ZSt h z TI TO i1 i2):∃o,h.get? z=some o/\o.cls = .type "zip":=by
 rcases x with ⟨h,_⟩ | ⟨T,o,f,h,_⟩
 .exact⟨_,h,rfl⟩
 .exact⟨_,h,rfl⟩
def ZSt.at {h h':LL}(x:ZSt h z TI TO i1 i2)(k:∀b o,(b=z\/o.cls = .type "tuple")->h.get? b=some o->h'.get? b=some o):ZSt h' z TI TO i1 i2:=by
 rcases x with ⟨h,a,b,p⟩ | ⟨T,o,f,h,⟨hT,hc⟩,r⟩
 .exact .inl ⟨k z _ (.inl rfl) h,a,b,k TO _ (.inr rfl) p⟩
 .exact .inr ⟨T,o,f,k z _ (.inl rfl) h,⟨k T o (.inr hc) hT,hc⟩,r⟩
def vN {Q:Option Lz->LC->Prop}(D:ZipApart z TI TO i1 i2 l1 l2)(hs:ZSt s.heap z TI TO i1 i2)(hTI:IsPair s.heap TI (.ref i1) (.ref i2))
  (h1:x4 b1 s.heap i1 l1 k) (h2:x4 b2 s.heap i2 l2 k) (hl1:G2 b1 s.heap l1 xs) (hl2:G2 b2 s.heap l2 ys) (hx:xs[k]? = some x) (hy:ys[k]? = some y)
  (q:∀h',ZSt h' z TI TO i1 i2->x4 b1 h' i1 l1 (k+1)->x4 b2 h' i2 l2 (k+1)->IsPair h' s.heap.objs.size x y->h'.objs.size=s.heap.objs.size+1 ->
   (∀c o,c≠z->c≠TO->c≠i1->c≠i2->s.heap.get? c=some o->h'.get? c=some o)->Q (some<|.ref s.heap.objs.size) { s with heap:=h' }):LU (model prog w) A (pyNext<|.ref z) Q E s:=by
 have hT:s.TypeIs (.ref z) "zip":=hs.ty;have lz:z<s.heap.objs.size:=by obtain⟨o,e,_⟩:=hs.ty;exact Gv e
 have li1:i1<s.heap.objs.size:=by obtain⟨o,e,_⟩:=h1.obj;exact Gv e
 have li2:i2<s.heap.objs.size:=by obtain⟨o,e,_⟩:=h2.obj;exact Gv e
 unfold pyNext;rcases hs with ⟨hz,a,b,hTO⟩ | ⟨T,o,f,hz,⟨hTT,hc⟩,n1,n2,n3⟩
 .exact Gh (JP (HX (name:=Str.ofString "__next__") hT Iv (HK Iv hT JB
   (wM D hz hTI hTO h1 h2 hl1 hl2 hx hy λh' a1 a2 a3 a4 a5 a6 a7=>Gk<|q h' (.inr ⟨_,_,false,a1,⟨a5,rfl⟩,IL lz,IL li1,IL li2⟩) a3 a4 a5 a6 a7) (Ju _))))
 .exact Gh (JP (HX (name:=Str.ofString "__next__") hT Iv (HK Iv hT JB
   (vk D hz hTT hTI h1 h2 hl1 hl2 hx hy λh' a1 a3 a4 a5 a6 a7=>Gk<|q h' (.inr ⟨T,o,true,a1,⟨a7 T o n1 n2 n3 hTT,hc⟩,n1,n2,n3⟩) a3 a4 a5 a6 λc o c1 _ c3 c4 e=>a7 c o c1 c3 c4 e) (Ju _))))
def yE {Q:Option Lz->LC->Prop}(hh:A.handled=none)(D:ZipApart z TI TO i1 i2 l1 l2)(hs:ZSt s.heap z TI TO i1 i2)(hTI:IsPair s.heap TI (.ref i1) (.ref i2))
  (h1:x4 b1 s.heap i1 l1 k) (h2:x4 b2 s.heap i2 l2 k) (hl1:G2 b1 s.heap l1 xs) (hl2:G2 b2 s.heap l2 ys) (hx:xs[k]? = none)
  (q:∀h',(∀c o,c≠z->c≠TO->c≠i1->c≠i2->s.heap.get? c=some o->h'.get? c=some o)->Q none { s with heap:=h' }):LU (model prog w) A (pyNext<|.ref z) Q E s:=by
 have hT:s.TypeIs (.ref z) "zip":=hs.ty;rcases hs with ⟨hz,a,b,hTO⟩ | ⟨T,o,f,hz,⟨hTT,hc⟩,n1,n2,n3⟩
 .exact Ar hh D hz hTI hTO h1 h2 hl1 hl2 (.inl hx) q
 .unfold pyNext;refine Gh (JP<|HX (name:=Str.ofString "__next__") hT Iv<|HK Iv hT JB (zF hh D hz hTT hTI h1 hl1 hx λh' e hk ⟨oe,ho,hc⟩=>?_)<|Ju _);exact Gh (Kz (T:="StopIteration") (b:=true) ⟨oe,ho,hc⟩ isSubtype_stop<|Gk<|q _ λc o c1 _ c3 c4 e=>hk c o c1 c3 c4 e)
structure Bel (S z TI TO i1 i2 l1 l2:Nat):Prop where
 a:z<S
 b:TI<S
 c:TO<S
 d:i1<S
 e:i2<S
 f:l1<S
 g:l2<S
end
end
section
def pq (l1 l2:LA)(xs ys:Array Lz) :
  Meets (Builtin.«zip.__new__» ⟨[.type "zip",.ref l1,.ref l2],[]⟩) (λ_ R s=>s.heap.IsTuple l1 xs/\s.heap.IsList l2 ys /\
   R (.ok<|.ret<|.ref (zg4 s.heap false true l1 l2).objs.size) { s with heap:=zg5 s.heap false true l1 l2 }) :=
 .of_wp λprog w A R s h=>by
  obtain⟨hp,g,d,tk,os⟩:=s;obtain⟨m1,m2,h⟩:=h;have hsub:=sub_zip;have hL1:LL.IsTuple (LC.heap ⟨hp,g,d,tk,os⟩) l1 xs:=m1;have hL2:LL.IsList (LC.heap ⟨hp.push { cls:=.type "tuple_iterator",data:=.fields #[.ref l1,.int 0 0] },g,d,tk,os⟩) l2 ys:=by
   obtain⟨o,ho,r⟩:=m2;exact⟨o,Gj _ ho,r⟩
  wp_walk using Jh hL1,wpAny_pyIter_list hL2;exact⟨_,rfl,h⟩
section
variable {prog:LD}{w:LF}{A:LG}{E:Lz->LC->Prop}{s:LC}
def uD {l1 l2:LA}{xs ys:Array Lz}{Q:Lz->LC->Prop}(m1:s.heap.IsTuple l1 xs)(m2:s.heap.IsList l2 ys)
  (h:∀h',IsZip h' (s.heap.objs.size+4) (s.heap.objs.size+2) (s.heap.objs.size+3) .none->IsPair h' (s.heap.objs.size+2) (.ref s.heap.objs.size) (.ref<|s.heap.objs.size+1) ->
   IsPair h' (s.heap.objs.size+3) .none .none->x4 false h' s.heap.objs.size l1 0->x4 true h' (s.heap.objs.size+1) l2 0->(∀c o,s.heap.get? c=some o->h'.get? c=some o)->Q (.ref<|s.heap.objs.size+4) { s with heap:=h' }) :
  LU (model prog w) A (call (.type "zip") [.ref l1,.ref l2]) Q E s:=by
 refine callType_new PySem.F.called_zip (by decide) (PySem.F.typeCall_zip_2 _ _) (PySem.F.newCall_zip_2 _ _) (λobj=>PySem.F.args_object_init_3 obj _ _) PySem.F.entry_zip_new (pq l1 l2 xs ys) ⟨m1,m2,?_⟩;have n1:(zg1 s.heap false l1).objs.size=s.heap.objs.size+1:=Io ..;have n2:(zg2 s.heap false true l1 l2).objs.size=s.heap.objs.size+2:=by rw[Io,n1]
 have n3:(zg3 s.heap false true l1 l2).objs.size=s.heap.objs.size+3:=by rw[Io,n2]
 have n4:(zg4 s.heap false true l1 l2).objs.size=s.heap.objs.size+4:=by rw[Io,n3]
 have g5:(zg5 s.heap false true l1 l2).get? (zg4 s.heap false true l1 l2).objs.size=some _:=GN _ rfl;have g4:(zg5 s.heap false true l1 l2).get? (zg3 s.heap false true l1 l2).objs.size=some _:=Gj _<|GN _ rfl;have g3:(zg5 s.heap false true l1 l2).get? (zg2 s.heap false true l1 l2).objs.size=some _:=Gj _<|Gj _<|GN _ rfl;have g2:(zg5 s.heap false true l1 l2).get? (zg1 s.heap false l1).objs.size=some _:=Gj _<|Gj _<|Gj _<|GN _ rfl;have g1:(zg5 s.heap false true l1 l2).get? s.heap.objs.size=some _:=Gj _<|Gj _<|Gj _<|Gj _<|GN _ rfl;show _/\_;rw[n2,n3,n4]at g5;rw[n1,n2]at g3;rw[n3]at g4;rw[n1]at g2;rw[n4];exact⟨⟨_,g5,rfl⟩,h _ g5 g3 g4 (show LL.IsTupleIter _ _ _ _ from⟨_,g1,rfl,rfl⟩) (show LL.IsListIter _ _ _ _ from⟨_,g2,rfl,rfl⟩) λc o x =>
  Gj _ (Gj _<|Gj _<|Gj _<|Gj _ x)⟩
end
end
end L3
namespace L3
open PySem PySem.Spec PyProof.Rows L2
section
section
variable [Feeds]{K:Fg}{X:Cx}{e o i f value:LK}{te ty tx:TE}{pos p px pos' apos cpos:Pos}
def qZ (E:DE)(i:Nat):Option (Bool×Nat×List (Ac×Ac)):=match E[i]? with
 | some (some<|.dic w c ps)=>some (w,c,ps)
 | _=>none
def lL {E:DE}{i:Nat}{w:Bool}{c:Nat}{ps:List (Ac×Ac)}(h:qZ E i=some (w,c,ps)):E[i]? = some (some<|DV.dic w c ps):=by
 unfold qZ at h;split at h
 .rename_i e;cases h;exact e
 .cases h
end
end
section
variable [Fam]
def wp {α σ:Type}(m:Option (α × σ))(Q:α->σ->Prop):Prop:=∃a F',m=some (a,F')/\Q a F'
section
variable {α β γ σ τ:Type}{Q:α->σ->Prop}
def b9 {a:α}{F:σ}:wp (some (a,F)) Q↔Q a F:=⟨λ⟨_,_,e,q⟩=>by cases e;exact q,λq=>⟨_,_,rfl,q⟩⟩
def x9:wp (none:Option (α × σ)) Q↔False:=⟨λ⟨_,_,e,_⟩=>(by cases e),False.elim⟩
def b8 {x:Option (β × τ)}{f:β × τ->Option (α × σ)}:wp (x.bind f) Q↔wp x λa F'=>wp (f (a,F')) Q:=by
 constructor
 .rintro ⟨a,F',e,q⟩;obtain⟨⟨b,F1⟩,e1,e2⟩:=bS9 e;exact⟨b,F1,e1,a,F',e2,q⟩
 .rintro ⟨b,F1,e1,a,F',e2,q⟩;exact⟨a,F',by rw[e1];exact e2,q⟩
def q5 {o:Option γ}{f:γ->Option (α × σ)}:wp (o.bind f) Q↔∃z,o=some z/\wp (f z) Q:=by
 constructor
 .rintro ⟨a,F',e,q⟩;obtain⟨z,e1,e2⟩:=bS9 e;exact⟨z,e1,a,F',e2,q⟩
 .rintro ⟨z,e1,a,F',e2,q⟩;exact⟨a,F',by rw[e1];exact e2,q⟩
def gM {c:Prop}[Decidable c]{a b:Option (α × σ)}:wp (if c then a else b) Q↔if c then wp a Q else wp b Q:=by
 split <;> rfl
def j7 {m:Option (α × σ)}{Q':α->σ->Prop}(h:wp m Q)(hq:∀a F,Q a F->Q' a F):wp m Q':=by
 obtain⟨a,F,e,q⟩:=h;exact⟨a,F,e,hq a F q⟩
def B4 {m:Option (α × σ)}{Q':α->σ->Prop}(h:∀a F,Q a F↔Q' a F):wp m Q↔wp m Q':=⟨λz=>j7 z λa F q=>(h a F).1 q,λz=>j7 z λa F q=>(h a F).2 q⟩
def nW {z:γ}{P:γ->Prop}:(∃y,some z=some y/\P y)↔P z:=⟨λ⟨_,e,p⟩=>by cases e;exact p,λp=>⟨_,rfl,p⟩⟩
def U1 {m:Int}{F:FdS}{Q:Ac->FdS->Prop}(h0:0<m)(h1:m<1073741824)(h2:F.t<199999)(q:∀r F',0<=r->r<m->F'.t=F.t+1->Q (.int r) F'):wp (R0 [.feed,.dat<|.int m] F) Q:=by
 obtain⟨r,F',e,r0,r1,ht⟩:=Fam.draw_some h0 h1 h2;exact⟨.int r,F',by show(Fam.drawF m F).bind _=_;rw[e];rfl,q r F' r0 r1 ht⟩
end
def gD (o:Option (Option DV))(P:Ac->Prop):Prop:=match o with
 | some (some<|.dat d)=>P d
 | _=>False
def gW (o:Option (Option DV))(P:Ac->Prop):Prop:=match o with
 | some (some<|.dat d)=>P d
 | some (some<|.own ds)=>P<|.list ds
 | _=>False
def gF (o:Option (Option DV))(P:Prop):Prop:=match o with
 | some (some .feed)=>P
 | _=>False
def oB {γ:Type}(o:Option γ)(P:γ->Prop):Prop:=∃z,o=some z/\P z
def cIf (c:Bool)(A B:Prop):Prop:=if c=true then A else B
def uy {A B:Prop}:cIf true A B↔A:=by simp[cIf]
def rZ {A B:Prop}:cIf false A B↔B:=by simp[cIf]
def bg {c:Bool}{A B:Prop}(h1:c=true->A)(h2:c=false->B):cIf c A B:=by
 cases c
 .exact rZ.2<|h2 rfl
 .exact uy.2<|h1 rfl
section
variable [Feeds]{E:DE}{F:FS}
def n6 {d:Ac}{Q:Ac->FS->Prop}:wp (sC d E F) Q↔Q d F:=b9
def v4 {i:Nat}{Q:Ac->FS->Prop}:wp (sV i E F) Q↔gD E[i]? λd=>Q d F:=by
 unfold sV gD;generalize E[i]? = o;rcases o with _ | _ | x
 .exact x9
 .exact x9
 .cases x <;> first | exact b9 | exact x9
def n5 {i:Nat}{Q:Ac->FS->Prop}:wp (sW i E F) Q↔gW E[i]? λd=>Q d F:=by
 unfold sW gW;generalize E[i]? = o;rcases o with _ | _ | x
 .exact x9
 .exact x9
 .cases x <;> first | exact b9 | exact x9
def wK {f:Ac->Option Ac}{a:DE->M Ac}{Q:Ac->FS->Prop}:wp (s1 f a E F) Q↔wp (a E F) λx F1=>oB (f x) λz=>Q z F1:=by
 unfold s1;rw[b8];simp only[q5,b9,oB]
def q4 {f:Ac->Ac->Option Ac}{a b:DE->M Ac}{Q:Ac->FS->Prop}:wp (s2 f a b E F) Q↔wp (a E F) λx F1=>wp (b E F1) λy F2=>oB (f x y) λz=>Q z F2:=by
 unfold s2;rw[b8];refine B4 λx F1=>?_;rw[b8];refine B4 λy F2=>?_;simp only[q5,b9,oB]
def J9 {f:List Ac->Option Ac}{a:DE->M (List Ac)}{Q:Ac->FS->Prop}:wp (sN f a E F) Q↔wp (a E F) λx F1=>oB (f x) λz=>Q z F1:=by
 unfold sN;rw[b8];simp only[q5,b9,oB]
def d8 {Q:List Ac->FS->Prop}:wp (j4 E F) Q↔Q [] F:=b9
def c8 {a:DE->M Ac}{r:DE->M (List Ac)}{Q:List Ac->FS->Prop}:wp (c7 a r E F) Q↔wp (a E F) λx F1=>wp (r E F1) λxs F2=>Q (x::xs) F2:=by
 unfold c7;rw[b8];simp only[b8,b9]
def C2 {a:DE->M (List Ac)}{Q:Ac->FS->Prop}:wp (M7 a E F) Q↔wp (a E F) λxs F1=>xs.length<=LM/\Q (.tuple xs) F1:=by
 unfold M7;rw[b8];constructor
 .exact λh=>j7 h λxs F1 h=>by
   split at h
   .rename_i hl;exact⟨hl,b9.1 h⟩
   .exact(x9.1 h).elim
 .exact λh=>j7 h λxs F1 h=>by rw[Gp h.1];exact b9.2 h.2
def iL {a:DE->M (List Ac)}{Q:Ac->FS->Prop}:wp (oq a E F) Q↔wp (a E F) λxs F1=>xs.length<=LM/\Q (.list xs) F1:=by
 unfold oq;rw[b8];constructor
 .exact λh=>j7 h λxs F1 h=>by
   split at h
   .rename_i hl;exact⟨hl,b9.1 h⟩
   .exact(x9.1 h).elim
 .exact λh=>j7 h λxs F1 h=>by rw[Gp h.1];exact b9.2 h.2
def x8 {Q:List DV->FS->Prop}:wp (A9 E F) Q↔Q [] F:=b9
def L1 {a:DE->M Ac}{r:DE->M (List DV)}{Q:List DV->FS->Prop}:wp (vD a r E F) Q↔wp (a E F) λx F1=>wp (r E F1) λxs F2=>Q (.dat x::xs) F2:=by
 unfold vD;rw[b8];simp only[b8,b9]
def uz {i:Nat}{r:DE->M (List DV)}{Q:List DV->FS->Prop}:wp (vF i r E F) Q↔gF E[i]? (wp (r E F) λxs F2=>Q (.feed::xs) F2):=by
 unfold vF gF;generalize E[i]? = o;rcases o with _ | _ | x
 .exact x9
 .exact x9
 .cases x with
  | feed=>exact b8.trans (B4 λ_ _=>b9)
  | _=>exact x9
def r6 {f:List DV->M Ac}{ms:DE->M (List DV)}{Q:Ac->FS->Prop}:wp (l9 f ms E F) Q↔wp (ms E F) λxs F1=>wp (f xs F1) Q:=by
 unfold l9;rw[b8]
def uE {a:DE->M Ac}{l u:DE->M (Option Int)}{Q:Ac->FS->Prop}:wp (kG a l u E F) Q↔wp (a E F) λx F1=>wp (l E F1) λlo F2=>wp (u E F2) λhi F3=>oB (oQ lo hi x) λz=>Q z F3:=by
 unfold kG;rw[b8];refine B4 λx F1=>?_;rw[b8];refine B4 λy F2=>?_;rw[b8];refine B4 λy F2=>?_;simp only[q5,b9,oB]
def uA {Q:Option Int->FS->Prop}:wp (oNo E F) Q↔Q none F:=b9
def yS {a:DE->M Ac}{Q:Option Int->FS->Prop}:wp (oI a E F) Q↔wp (a E F) λx F1=>oB (C1 x) λi=>Q (some i) F1:=by
 unfold oI;rw[b8];simp only[q5,b9,oB]
def ud {a b:DE->M Ac}{Q:Ac->FS->Prop}:wp (we a b E F) Q↔wp (a E F) λx F1=>oB (ar x) λc=>cIf c (wp (b E F1) Q) (Q (.bool false) F1):=by
 unfold we;rw[b8];simp only[q5,gM,b9,oB,cIf]
def fI {c:DE->M Bool}{a b:DE->M Ac}{Q:Ac->FS->Prop}:wp (sIf c a b E F) Q↔wp (c E F) λx F1=>cIf x (wp (a E F1) Q) (wp (b E F1) Q):=by
 unfold sIf;rw[b8];simp only[gM,cIf]
def aa {a:DE->M Ac}{Q:Bool->FS->Prop}:wp (uB a E F) Q↔wp (a E F) λx F1=>oB (ar x) λc=>Q c F1:=by
 unfold uB;rw[b8];simp only[q5,b9,oB]
def wb {a:DE->M Ac}{Q:Bool->FS->Prop}:wp (uT a E F) Q↔wp (a E F) λx F1=>oB (wa x) λc=>Q c F1:=by
 unfold uT;rw[b8];simp only[q5,b9,oB]
def oh {a b:DE->M Bool}{Q:Bool->FS->Prop}:wp (uOr a b E F) Q↔wp (a E F) λx F1=>cIf x (Q true F1) (wp (b E F1) Q):=by
 unfold uOr;rw[b8];simp only[gM,b9,cIf]
def ak {Q:Bool->FS->Prop}:wp (M5 E F) Q↔Q true F:=b9
def gb {Q:Out->FS->Prop}:wp (mNx E F) Q↔Q (.nx E) F:=b9
def sqK (b:DE->M Out)(Q:Out->FS->Prop)(o:Out)(F1:FS):Prop:=match o with
  | .nx E1=>wp (b E1 F1) Q
  | o=>Q o F1
def h7 {b:DE->M Out}{Q:Out->FS->Prop}{E1:DE}(h:wp (b E1 F) Q):sqK b Q (.nx E1) F:=h
def qH {b:DE->M Out}{Q:Out->FS->Prop}{d:Ac}(h:Q (.rt d) F):sqK b Q (.rt d) F:=h
def j9 {a b:DE->M Out}{Q:Out->FS->Prop}:wp (mSq a b E F) Q↔wp (a E F) (sqK b Q):=by
 unfold mSq;rw[b8];refine B4 λo F1=>?_
 cases o with
 | nx E1=>exact Iff.rfl
 | rt d=>exact b9
 | bk d=>exact b9
 | ct d=>exact b9
def P2 {a:DE->M Ac}{Q:Out->FS->Prop}:wp (mRt a E F) Q↔wp (a E F) λx F1=>Q (.rt x) F1:=by
 unfold mRt;rw[b8];simp only[b9]
def A8 {i:Nat}{a:DE->M Ac}{Q:Out->FS->Prop}:wp (y3 i a E F) Q↔wp (a E F) λx F1=>i<E.length/\Q (.nx<|E.set i<|some<|.dat x) F1:=by
 unfold y3;rw[b8];refine B4 λx F1=>?_
 unfold bN;by_cases h:i<E.length
 .rw[Gp h];simp only[q5,b9,nW,h,true_and]
 .rw[Gr h];simp only[q5,h,false_and];exact⟨λ⟨_,e,_⟩=>(by cases e),False.elim⟩
def U8 {bd:Ac->DE->Option DE}{a:DE->M Ac}{Q:Out->FS->Prop}:wp (bO bd a E F) Q↔wp (a E F) λx F1=>oB (bd x E) λE1=>Q (.nx E1) F1:=by
 unfold bO;rw[b8];simp only[q5,b9,oB]
def aK {c:DE->M Bool}{a b:DE->M Out}{Q:Out->FS->Prop}:wp (mIf c a b E F) Q↔wp (c E F) λx F1=>cIf x (wp (a E F1) Q) (wp (b E F1) Q):=by
 unfold mIf;rw[b8];simp only[gM,cIf]
def cw {i:Nat}{a:DE->M (List Ac)}{Q:Out->FS->Prop}:wp (eC i a E F) Q↔wp (a E F) λx F1=>i<E.length/\Q (.nx<|E.set i<|some<|.own x) F1:=by
 unfold eC;rw[b8];refine B4 λx F1=>?_
 by_cases h:i<E.length
 .rw[Gp h];simp only[b9,h,true_and]
 .rw[Gr h];simp only[h,false_and];exact x9
def yJ {i:Nat}{v k:DE->M Ac}{ds:List Ac}{Q:Out->FS->Prop}(h:E[i]? = some (some<|.own ds)):wp (vT i v k E F) Q↔wp (v E F) λx F1=>wp (k E F1) λy F2=>oB (C1 y) λn=>oB (ixN ds.length n) λj=>Q (.nx<|E.set i<|some<|.own<|ds.set j x) F2:=by
 unfold vT;rw[b8];have e:V2 E i=some ds:=by unfold V2;rw[h]
 refine B4 λx F1=>?_;rw[b8];refine B4 λy F2=>?_
 simp only[q5,b9,e,nW,oB]
def W4 {mi:DE->M (List Ac)}{bd:Ac->DE->Option DE}{body:DE->M Out}{Q:Out->FS->Prop}:wp (bE mi bd body E F) Q↔wp (mi E F) λds F1=>wp (K9 bd body ds E F1) Q:=by
 unfold bE;rw[b8]
def gp {a:DE->M (List Ac)}{Q:List Ac->FS->Prop}:wp (eI a E F) Q↔wp (a E F) λx F1=>oB (U4 x) λds=>Q ds F1:=by
 unfold eI;rw[b8];simp only[q5,b9,oB]
def A5 {a:DE->M Ac}{Q:List Ac->FS->Prop}:wp (N6 a E F) Q↔wp (a E F) λx F1=>oB (dX x) λds=>Q ds F1:=by
 unfold N6;rw[b8];simp only[q5,b9,oB]
def O8 {a:DE->M (List Ac)}{Q:List Ac->FS->Prop}:wp (aH a E F) Q↔wp (a E F) λx F1=>x.length<=LM/\Q x F1:=by
 unfold aH;rw[b8];constructor
 .exact λh=>j7 h λxs F1 h=>by
   split at h
   .rename_i hl;exact⟨hl,b9.1 h⟩
   .exact(x9.1 h).elim
 .exact λh=>j7 h λxs F1 h=>by rw[Gp h.1];exact b9.2 h.2
def V7 {mi:DE->M (List Ac)}{k:Nat}{cap:List Nat}{bd:Ac->DE->Option DE}{mt:DE->M Bool}{me:DE->M Ac}{Q:Ac->FS->Prop}:wp (sLC mi k cap bd mt me E F) Q↔wp (mi E F) λds F1=>ds.length<=LM/\wp (V8 bd mt me ds (fC k cap E) F1) λzs F2=>Q (.list zs) F2:=by
 unfold sLC;rw[b8];constructor
 .refine λh=>j7 h λds F1 h=>?_
  dsimp only at h;split at h
  .rename_i hl;rw[b8]at h;exact⟨hl,j7 h λzs F2 h=>b9.1 h⟩
  .exact(x9.1 h).elim
 .refine λh=>j7 h λds F1 h=>?_
  dsimp only;rw[Gp h.1,b8];exact j7 h.2 λzs F2 h=>b9.2 h
def uC (Q:Ac->FS->Prop)(o:Out)(F1:FS):Prop:=match o with
  | .rt d=>Q d F1
  | .nx _=>Q .none F1
  | _=>False
def O4 {Q:Ac->FS->Prop}{d:Ac}(h:Q d F):uC Q (.rt d) F:=h
def R9 {N:List Str}{m:DE->M Out}{args:List DV}{Q:Ac->FS->Prop}:wp (S4 N m args F) Q↔wp (m (v5 N args) F) (uC Q):=by
 unfold S4;rw[b8];refine B4 λo F1=>?_
 cases o with
 | nx E1=>exact b9
 | rt d=>exact b9
 | bk d=>exact x9
 | ct d=>exact x9
def u9 {o:Option (Option DV)}{d:Ac}{P:Ac->Prop}(h:o=some (some<|.dat d))(q:P d):gD o P:=by rw[h];exact q
def t7 {o:Option (Option DV)}{d:Ac}{P:Ac->Prop}(h:o=some (some<|.dat d))(q:P d):gW o P:=by rw[h];exact q
def ai {o:Option (Option DV)}{ds:List Ac}{P:Ac->Prop}(h:o=some (some<|.own ds))(q:P (.list ds)):gW o P:=by rw[h];exact q
def sO {o:Option (Option DV)}{P:Prop}(h:o=some (some .feed))(q:P):gF o P:=by rw[h];exact q
def c9 {γ:Type}{o:Option γ}{z:γ}{P:γ->Prop}(h:o=some z)(q:P z):oB o P:=⟨z,h,q⟩
def N2 {c:Bool}{A B:Prop}(h:c=true)(q:A):cIf c A B:=by rw[h];exact uy.2 q
def l7 {c:Bool}{A B:Prop}(h:c=false)(q:B):cIf c A B:=by rw[h];exact rZ.2 q
def p8 {n:Nat}(h:Nat.ble n 10000=true):n<=LM:=He (Nat.le_of_ble_eq_true h) (by rw[Hl];decide)
def i8 {i n:Nat}(h:Nat.ble (i+1) n=true):i<n:=Nat.le_of_ble_eq_true h
end
def Tr (f:List DV->M Ac)(args:List DV)(c:Int)(P:Ac->Prop):Prop:=∀F:FdS,F.t+c<=199999->∃d F',f args F=some (d,F')/\F'.t<=F.t+c/\P d
def Tr.wp {f:List DV->M Ac}{args:List DV}{c:Int}{P:Ac->Prop}{F:FdS}{Q:Ac->FdS->Prop}(h:Tr f args c P)(hF:F.t+c<=199999)(q:∀d F',F'.t<=F.t+c->P d->Q d F'):wp (f args F) Q:=by
 obtain⟨d,F',e,ht,p⟩:=h F hF;exact⟨d,F',e,q d F' ht p⟩
def Tr.of {f:List DV->M Ac}{args:List DV}{c:Int}{P:Ac->Prop}(h:∀F:FdS,F.t+c<=199999->L3.wp (f args F) λd F'=>F'.t<=F.t+c/\P d):Tr f args c P:=λF hF=>by
 obtain⟨d,F',e,q⟩:=h F hF;exact⟨d,F',e,q⟩
mutual
def cnt:Ac->Nat
 | .tuple ds=>1+ft ds
 | .list ds=>1+ft ds
 | _=>1
def ft:List Ac->Nat
 | []=>0
 | d::ds=>cnt d+ft ds
end
def asc (x:Str):Prop:=∀c∈x.cps.toList,c<128
mutual
def scs (n:Nat):Ac->Prop
 | .none=>True
 | .bool _=>True
 | .int i=>i.natAbs<10 ^ 300+n
 | .str x=>x.length<=600+n/\asc x
 | .tuple ds=>oy n ds
 | .list ds=>oy n ds
 | .dict _=>False
def oy (n:Nat):List Ac->Prop
 | []=>True
 | d::ds=>scs n d/\oy n ds
end
theorem aV {n:Nat}:∀{ds:List Ac},oy n ds↔∀d∈ds,scs n d
 | []=>by simp[oy]
 | d::ds=>by simp[oy,aV (ds:=ds)]
structure Gd (n N k:Nat) (d:Ac):Prop where
 sc:scs n d
 dp:d.depth<=k
 ct:cnt d<=N
theorem cK {k:Nat}:∀{ds:List Ac},Ac.depthAll ds<=k↔∀d∈ds,d.depth<=k
 | []=>by simp[Ac.depthAll]
 | d::ds=>by
  have:=cK (k:=k) (ds:=ds);simp only[Ac.depthAll,GK,forall_eq_or_imp];rw[<-this];omega
def Gd.tup {n N k M:Nat}{ds:List Ac}(h:∀d∈ds,Gd n M k d)(hc:1+ft ds<=N):Gd n N (k+1) (.tuple ds):=by
 refine⟨?_,?_,?_⟩
 .simp only[scs];rw[aV];exact λd hd=>(h d hd).sc
 .simp only[Ac.depth];have:Ac.depthAll ds<=k:=cK.2 λd hd=>(h d hd).dp
  omega
 .simp only[cnt];exact hc
def Gd.lst {n N k M:Nat}{ds:List Ac}(h:∀d∈ds,Gd n M k d)(hc:1+ft ds<=N):Gd n N (k+1) (.list ds):=by
 obtain⟨a,b,c⟩:=Gd.tup h hc;exact⟨a,b,c⟩
def w9c [Feeds]{E:DE}{F:FS}{i:Nat}{d:Ac}{r:DE->M (List Ac)}{Q:List Ac->FS->Prop}(h:E[i]? = some (some<|.dat d))(q:wp (r E F) λxs F2=>Q (d::xs) F2):wp (c7 (sV i) r E F) Q:=c8.2<|v4.2<|u9 h q
def w9d [Feeds]{E:DE}{F:FS}{i:Nat}{d:Ac}{f:List DV->M Ac}{Q:Ac->FS->Prop}(h:E[i]? = some (some .feed))(q:wp (f [.feed,.dat d] F) Q):wp (l9 f (vF i<|vD (sC d) A9) E F) Q:=r6.2<|uz.2<|sO h<|L1.2<|n6.2<|x8.2 q
def w9g [Feeds]{E:DE}{F:FS}{i:Nat}{d:Ac}{Q:Ac->FS->Prop}(h:E[i]? = some (some<|.dat d))(q:Q d F):wp (sV i E F) Q:=v4.2<|u9 h q
def w9i [Feeds]{E:DE}{F:FS}{c:DE->M Bool}{a b r:DE->M Out}{Q:Out->FS->Prop}(q:wp (c E F) λx F1=>cIf x (wp (a E F1)<|sqK r Q)<|wp (b E F1)<|sqK r Q):wp (mSq (mIf c a b) r E F) Q:=j9.2<|aK.2 q
def w9l [Feeds]{E:DE}{F:FS}{f:List DV->M Ac}{a:DE->M Ac}{r:DE->M (List DV)}{Q:Ac->FS->Prop}(q:wp (a E F) λx F1=>wp (r E F1) λxs F2=>wp (f (.dat x::xs) F2) Q):wp (l9 f (vD a r) E F) Q:=r6.2<|L1.2 q
def w9q [Feeds]{E:DE}{F:FS}{i:Nat}{a:DE->M Ac}{b:DE->M Out}{Q:Out->FS->Prop}(q:wp (a E F) λx F1=>i<E.length/\sqK b Q (.nx<|E.set i<|some<|.dat x) F1):wp (mSq (y3 i a) b E F) Q:=j9.2<|A8.2 q
def w9s [Feeds]{E:DE}{F:FS}{i:Nat}{d:Ac}{f:Ac->Ac->Option Ac}{b:DE->M Ac}{Q:Ac->FS->Prop}(h:E[i]? = some (some<|.dat d))(q:wp (b E F) λy F2=>oB (f d y) λz=>Q z F2):wp (s2 f (sW i) b E F) Q:=q4.2<|n5.2<|t7 h q
def w9v [Feeds]{E:DE}{F:FS}{i:Nat}{d:Ac}{r:DE->M (List DV)}{Q:List DV->FS->Prop}(h:E[i]? = some (some<|.dat d))(q:wp (r E F) λxs F2=>Q (.dat d::xs) F2):wp (vD (sV i) r E F) Q:=L1.2<|v4.2<|u9 h q
def w9w [Feeds]{E:DE}{F:FS}{i:Nat}{d:Ac}{Q:Ac->FS->Prop}(h:E[i]? = some (some<|.dat d))(q:Q d F):wp (sW i E F) Q:=n5.2<|t7 h q
end
section
variable [Fam]
structure Nod (d:Ac):Prop where
 sh:d.showable=true
 nd:d.hasDict=false
 cl:d.canLay0=true
 ln:d.shown.length+2<=7100*cnt d
def vL:(10:Nat) ^ 300<=2 ^ 1000:=by
 have h:((10:Nat) ^ 3) ^ 100<=(2 ^ 10) ^ 100:=Nat.pow_le_pow_left (by decide) 100;rwa [<-Nat.pow_mul,<-Nat.pow_mul]at h
def zj {n:Nat}(hn:n<=100):10 ^ 300+n<=2 ^ 1001:=by
 have h0:=vL;have h1:(2:Nat) ^ 1001=2 ^ 1000+2 ^ 1000:=by rw[Nat.pow_succ,Nat.mul_two]
 have h2:(2:Nat) ^ 7<=2 ^ 1000:=Nat.pow_le_pow_right (by decide) (by decide);have h3:(2:Nat) ^ 7=128:=by decide
 rw[h1];generalize (10:Nat) ^ 300=A at *;generalize (2:Nat) ^ 1000=B at *;omega
def BV {ds:List Ac}:(∀d∈ds,Nod d)->Ac.showableAll ds=true/\Ac.hasDictAll ds=false/\Ac.canLayAll0 ds=true/\((Ac.shownAll ds).map (·.length)).sum+2*ds.length<=7100*ft ds:=by
 induction ds with
 | nil=>intro _;exact⟨by simp[Ac.showableAll],by simp[Ac.hasDictAll],by simp[Ac.canLayAll0],by simp[Ac.shownAll,ft]⟩
 | cons d ds ih =>
  intro h;obtain⟨a,b,c,e⟩:=ih λx hx=>h x<|Gq _ hx
  have hd:=h d Gx;refine⟨by simp[Ac.showableAll,hd.sh,a],by simp[Ac.hasDictAll,hd.nd,b],by simp[Ac.canLayAll0,hd.cl,c],?_⟩;simp only[Ac.shownAll,GH,IH,GM,ft];have:=hd.ln;omega
def zY {n:Nat}(hn:n<=100):∀m:Nat,∀d:Ac,sizeOf d<m->scs n d->Nod d:=by
 intro m;induction m with
 | zero=>intro d h;exact absurd h<|JY _
 | succ m ih =>
  intro d hm hs;cases d with
  | none=>exact⟨rfl,rfl,rfl,by decide⟩
  | bool b=>exact⟨rfl,rfl,rfl,by cases b <;> decide⟩
  | int i =>
   simp only[scs]at hs;have hb:i.natAbs<2 ^ 1001:=GT hs<|zj hn;have:=Shw.int hb (by decide) (by decide);exact⟨this.sh,this.nd,rfl,by have:=this.ln;simp only[cnt];omega⟩
  | str x =>
   simp only[scs]at hs;refine⟨rfl,rfl,?_,?_⟩
   .simp only[Ac.canLay0,Ac.strOk];rw[Array.all_eq_true'];intro c hc;have:=hs.2 c (by simpa using hc);exact GX (by omega)
   .have h1:=PySem.StrLaws.reprText_len x λc hc=>GT (hs.2 c hc) (by decide)
    simp only[Ac.shown,cnt];omega
  | tuple ds =>
   simp only[scs]at hs;rw[aV]at hs;obtain⟨a,b,c,e⟩:=BV λd hd=>ih d (by have:=List.sizeOf_lt_of_mem hd;simp at hm;omega)<|hs d hd
   refine⟨by simpa only[Ac.showable] using a,by simpa only[Ac.hasDict] using b,by simpa only[Ac.canLay0] using c,?_⟩;have h5:=tupleText_len_le<|Ac.shownAll ds;have h6:=Ac.shownAll_length ds;simp only[Ac.shown,cnt];omega
  | list ds =>
   simp only[scs]at hs;rw[aV]at hs;obtain⟨a,b,c,e⟩:=BV λd hd=>ih d (by have:=List.sizeOf_lt_of_mem hd;simp at hm;omega)<|hs d hd
   refine⟨by simpa only[Ac.showable] using a,by simpa only[Ac.hasDict] using b,by simpa only[Ac.canLay0] using c,?_⟩;have h5:=listText_len_le<|Ac.shownAll ds;have h6:=Ac.shownAll_length ds;simp only[Ac.shown,cnt];omega
  | dict kvs=>simp only[scs]at hs
section
variable {n N k:Nat}{d:Ac}
def Gd.nod (h:Gd n N k d)(hn:n<=100):Nod d:=zY hn _ d (Jr _) h.sc
def Gd.shaped (h:Gd n N k d)(hn:n<=100)(hk:k<=50):PySem.SeqAt.shaped d=true:=by
 unfold PySem.SeqAt.shaped;rw[(h.nod hn).cl];have h3:=h.dp;simp;omega
def zA {i:Int}(h:i.natAbs<10 ^ 300+n):Gd n 1 0 (.int i):=⟨h,by simp[Ac.depth],by simp[cnt]⟩
end
def pf {i:Int}{n:Nat}(h:i.natAbs<=100000000000000000000000000000000000000000):i.natAbs<10 ^ 300+n:=by
 have h1:(10:Nat) ^ 42<=10 ^ 300:=Nat.pow_le_pow_right (by decide) (by decide);have h2:100000000000000000000000000000000000000000<(10:Nat) ^ 42:=by decide
 generalize (10:Nat) ^ 300=A at *;omega
end
section
variable [Fam]
section
variable {ds es:List Ac}{i j:Int}{x y:Str}{b c:Bool}{d:Ac}{T:String}
def cb:Q2 (.int i) (.int j)=some (.int<|i+j):=rfl
def iD:mx (.int i) (.int j)=some (.int<|i-j):=rfl
def yj:gtD (.int i) (.int j)=some (.bool<|decide (j<i)):=rfl
def U3:V0 [.tuple ds]=some (.int ds.length):=rfl
def kC:V0 [.list ds]=some (.int ds.length):=rfl
def av:x5 [.list ds]=some (.tuple ds):=rfl
def AQ:C1 (.int i)=some i:=rfl
def yz {lo hi:Option Int}:oQ lo hi (.tuple ds)=some (.tuple<|dc ds lo hi):=rfl
def yV {lo hi:Option Int}:oQ lo hi (.list ds)=some (.list<|dc ds lo hi):=rfl
def Q4:dX (.tuple ds)=some ds:=rfl
def L0:dX (.list ds)=some ds:=rfl
end
end
end L3
set_option hygiene false
local macro_rules | `(tactic| walk_at "st")=>`(tactic| first | (with_reducible first | refine L3.h7 ?_ | refine L3.qH ?_ | refine L3.O4 ?_ | refine L3.j9.2 ?_ | refine L3.aK.2 ?_ | refine L3.A8.2 ?_ | refine L3.P2.2 ?_ | refine L3.gb.2 ?_ | refine r_uAnd.2 ?_ | refine L3.oh.2 ?_ | refine r_uNot.2 ?_ | refine L3.aa.2 ?_ | refine L3.wb.2 ?_ | refine L3.ak.2 ?_ | refine L3.q4.2 ?_ | refine L3.wK.2 ?_ | refine L3.J9.2 ?_ | refine L3.n6.2 ?_ | refine L3.v4.2 ?_ | refine L3.n5.2 ?_ | refine L3.d8.2 ?_ | refine L3.c8.2 ?_ | refine L3.C2.2 ?_ | refine L3.iL.2 ?_ | refine L3.x8.2 ?_ | refine L3.L1.2 ?_ | refine L3.uz.2 ?_ | refine L3.r6.2 ?_ | refine L3.uE.2 ?_ | refine L3.uA.2 ?_ | refine L3.yS.2 ?_ | refine L3.ud.2 ?_ | refine r_sOr.2 ?_ | refine r_sNot.2 ?_ | refine L3.fI.2 ?_ | refine L3.U8.2 ?_ | refine L3.cw.2 ?_ | refine L3.W4.2 ?_ | refine L3.gp.2 ?_ | refine L3.A5.2 ?_ | refine L3.O8.2 ?_ | refine r_fCat.2 ?_ | refine L3.V7.2 ?_) | ((with_reducible refine L3.R9.2 ?_);try dsimp only[L3.v5,GH,HY,GM,HR,List.replicate,Hh,Ho,Nat.reduceAdd,Nat.reduceSub]) | ((with_reducible apply L3.u9);exact rfl) | ((with_reducible apply L3.t7);exact rfl) | ((with_reducible apply L3.ai);exact rfl) | ((with_reducible apply L3.sO);exact rfl) | ((with_reducible apply L3.c9);first | exact e_isin | exact rfl) | ((with_reducible refine And.intro (L3.p8 ?_) ?_);exact rfl) | ((with_reducible refine And.intro (L3.i8 ?_) ?_);exact rfl;try dsimp only[List.set_cons_zero,List.set_cons_succ]))
local macro_rules | `(tactic| walk_at "rd")=>`(tactic| (repeat walk_at "st"))
local macro_rules | `(tactic| walk_at "ty")=>`(tactic| first | refine L3.l7 L3.bW ?_ | refine L3.l7 L3.cW ?_ | refine L3.l7 L3.dR ?_ | refine L3.l7 L3.eQ ?_ | refine L3.l7 L3.cZ ?_ | refine L3.l7 L3.ig ?_ | refine L3.N2 L3.iZ ?_ | refine L3.N2 L3.lE ?_ | refine L3.l7 L3.lZ ?_ | refine L3.l7 L3.iS ?_ | refine L3.l7 L3.jT ?_ | refine L3.l7 L3.kW ?_ | refine L3.N2 L3.pV ?_ | refine L3.l7 L3.pJ ?_ | refine L3.l7 L3.lA ?_ | refine L3.l7 L3.jy ?_ | refine L3.l7 L3.lG ?_ | refine L3.l7 L3.qa ?_ | refine L3.N2 L3.oR ?_ | refine L3.l7 L3.mn ?_ | refine L3.l7 L3.iH ?_ | refine L3.l7 L3.jN ?_ | refine L3.l7 L3.lM ?_ | refine L3.l7 L3.lI ?_ | refine L3.N2 L3.jx ?_ | refine L3.N2 L3.fF ?_ | refine L3.l7 L3.gT ?_ | refine L3.l7 L3.jf ?_ | refine L3.l7 L3.kn ?_ | refine L3.l7 L3.hX ?_)
local macro_rules | `(tactic| walk_at "go")=>`(tactic| (repeat first | walk_at "st" | walk_at "ty"))
namespace L3
open PySem PySem.Spec PyProof.Rows L2
variable [Fam]
def bW:isT "NoneType" "tuple" = false:=by decide +kernel
def cW:isT "NoneType" "bool" = false:=by decide +kernel
def dR:isT "NoneType" "int" = false:=by decide +kernel
def eQ:isT "NoneType" "str" = false:=by decide +kernel
def cZ:isT "NoneType" "list" = false:=by decide +kernel
def ig:isT "bool" "tuple" = false:=by decide +kernel
def iZ:isT "bool" "bool" = true:=by decide +kernel
def lE:isT "bool" "int" = true:=by decide +kernel
def lZ:isT "bool" "str" = false:=by decide +kernel
def iS:isT "bool" "list" = false:=by decide +kernel
def jT:isT "int" "tuple" = false:=by decide +kernel
def kW:isT "int" "bool" = false:=by decide +kernel
def pV:isT "int" "int" = true:=by decide +kernel
def pJ:isT "int" "str" = false:=by decide +kernel
def lA:isT "int" "list" = false:=by decide +kernel
def jy:isT "str" "tuple" = false:=by decide +kernel
def lG:isT "str" "bool" = false:=by decide +kernel
def qa:isT "str" "int" = false:=by decide +kernel
def oR:isT "str" "str" = true:=by decide +kernel
def mn:isT "str" "list" = false:=by decide +kernel
def iH:isT "list" "tuple" = false:=by decide +kernel
def jN:isT "list" "bool" = false:=by decide +kernel
def lM:isT "list" "int" = false:=by decide +kernel
def lI:isT "list" "str" = false:=by decide +kernel
def jx:isT "list" "list" = true:=by decide +kernel
def fF:isT "tuple" "tuple" = true:=by decide +kernel
def gT:isT "tuple" "bool" = false:=by decide +kernel
def jf:isT "tuple" "int" = false:=by decide +kernel
def kn:isT "tuple" "str" = false:=by decide +kernel
def hX:isT "tuple" "list" = false:=by decide +kernel
variable [Fam]
def sz {n:Nat}(h:n<=100000):n<=LM:=He h (by rw[Hl];decide)
variable [Fam]
variable [Fam]
def N7 {bd:Ac->DE->Option DE}{body:DE->M Out}{Q:Out->FdS->Prop}(I:Nat->DE->FdS->Prop):∀(items:List Ac) (n:Nat) (E:DE) (F:FdS),I n E F ->
  (∀i d,items[i]? = some d->∀E F,I (n+i) E F->∃E1,bd d E=some E1/\wp (body E1 F) λo F'=>∃E2,o = .nx E2/\I (n+i+1) E2 F')->(∀E F,I (n+items.length) E F->Q (.nx E) F)->wp (K9 bd body items E F) Q
 | [],n,E,F,h,_,hq=>b9.2<|hq E F h
 | d::r,n,E,F,h,st,hq=>by
  obtain⟨E1,e1,h1⟩:=st 0 d rfl E F h;rw[K9,e1,GV,b8];refine j7 h1 λo F1 ⟨E2,e2,h2⟩=>?_
  subst e2;refine N7 I r (n+1) E2 F1 h2 (λi d e E F hI=>?_) (λE F hI=>hq E F (by rw[GM];rw[show n+(r.length+1)=n+1+r.length by omega];exact hI));have:=st (i+1) d (by simpa using e) E F (by rw[show n+(i+1)=n+1+i by omega];exact hI);rw[show n+(i+1)+1=n+1+i+1 by omega]at this;exact this
def js {bd:Ac->DE->Option DE}{body:DE->M Out}{Q:Out->FdS->Prop}(I:Nat->DE->FdS->Prop)(items:List Ac)(n:Nat)(E:DE)(F:FdS)(h:I n E F)
  (st:∀(R:Out->FdS->Prop) i d,items[i]? = some d->∀E F,I (n+i) E F->(∀E2 F',I (n+i+1) E2 F'->R (.nx E2) F')->∃E1,bd d E=some E1/\wp (body E1 F) R) (hq:∀E F,I (n+items.length) E F->Q (.nx E) F):wp (K9 bd body items E F) Q :=
 N7 I items n E F h (λi d e E F hI=>st (λo F'=>∃E2,o = .nx E2/\I (n+i+1) E2 F') i d e E F hI λE2 F' h=>⟨E2,rfl,h⟩) hq
def aJ {lo:Int}{n:Nat}:(V9 lo n).length=n:=by simp[V9]
variable [Fam]
section
variable {F:FdS}{Q:Ac->FdS->Prop}{n:Nat}
def yO {xs ys:List Ac}(h:xs.length+ys.length<=100000):Q2 (.list xs) (.list ys)=some (.list<|xs++ys):=Gp<|sz h
def AH {xs ys:List Ac}(h:xs.length+ys.length<=100000):Q2 (.tuple xs) (.tuple ys)=some (.tuple<|xs++ys):=Gp<|sz h
abbrev W8:List Ac:=[.str "first",.str "last",.str "short",.str "front",.str "lastoff",.str "shortoff",.str "frontoff",.str "turns"]
def aT:List DV->M Ac:=S4 ["rule"]<|mRt<|s2 (inD false) (sW 0)<|sC<|.tuple [.str "first",.str "last",.str "short",.str "front"]
def kb:Ac->Bool
 | .str x=>(([.str "first",.str "last",.str "short",.str "front"]:List Ac)).any λy=>Ac.eqv y<|.str x
 | _=>false
def in4 {x:Str}(h:SeqAt.shaped (.str x)=true):inD false (.str x) (.tuple [.str "first",.str "last",.str "short",.str "front"])=some (.bool<|kb<|.str x):=by
 show(if SeqAt.shaped (.tuple [.str "first",.str "last",.str "short",.str "front"])=true/\SeqAt.shaped (.str x)=true then _ else none)=_;rw[Gp ⟨by decide +kernel,h⟩,Gr<|by decide];rfl
def T2 {r:Ac}(h:r∈W8):∃x:Str,r = .str x/\SeqAt.shaped (.str x)=true:=by
 simp only[GK,KB,or_false]at h;rcases h with rfl | rfl | rfl | rfl | rfl | rfl | rfl | rfl <;> exact⟨_,rfl,by decide +kernel⟩
def nq {r:Ac}(h:r∈W8)(q:Q (.bool<|kb r) F):wp (aT [.dat r] F) Q:=by
 obtain⟨x,rfl,hx⟩:=T2 h;unfold aT;walk_at "go";refine c9 (in4 hx) ?_;walk_at "go";exact q
end
section
variable {F:FdS}{Q:Out->FdS->Prop}{E:DE}{i:Nat}{ds:List Ac}
def bh {v:DE->M Ac}(he:V2 E i=some ds)(hl:ds.length<=100000)(q:wp (v E F) λx F1=>Q (.nx<|E.set i<|some<|.own<|ds++[x]) F1):wp (bF i v E F) Q:=by
 unfold bF;rw[b8];refine j7 q λx F1 h=>?_
 rw[he,GV,Gp<|Je hl (by rw[Hl];decide)];exact b9.2 h
def rB {v:DE->M Ac}(he:V2 E i=some ds)(q:wp (v E F) λx F1=>∃zs,x = .list zs/\ds.length+zs.length<=100000/\Q (.nx<|E.set i<|some<|.own<|ds++zs) F1):wp (ie i v E F) Q:=by
 unfold ie;rw[b8];refine j7 q λx F1 h=>?_
 obtain⟨zs,rfl,hl,q⟩:=h;rw[he,GV];dsimp only;rw[Gp<|sz hl];exact b9.2 q
def gI {a:DE->M Ac}{Q:List Ac->FdS->Prop}(q:wp (a E F) λx F1=>oB (dX x) λds=>Q (C5 0 ds) F1):wp (X6 a E F) Q:=by
 unfold X6;rw[b8];refine j7 q λx F1 h=>?_
 obtain⟨ds,e,q⟩:=h;dsimp only;rw[e,GV];exact b9.2 q
def AF {mi:DE->M (List Ac)}{k:Nat}{cap:List Nat}{bd:Ac->DE->Option DE}{mt:DE->M Bool}{me:DE->M Ac}{Q:List Ac->FdS->Prop}(h:wp (mi E F) λds F1=>ds.length<=LM/\wp (V8 bd mt me ds (fC k cap E) F1) λzs F2=>Q zs F2):wp (fLC mi k cap bd mt me E F) Q:=by
 unfold fLC;rw[b8];refine j7 h λds F1 h=>?_
 dsimp only;rw[Gp h.1,b8];exact j7 h.2 λzs F2 h=>b9.2 h
end
variable [Fam]
theorem fu {c:Nat}:∀{ds:List Ac},(∀d∈ds,cnt d<=c)->ft ds<=c*ds.length
 | [],_=>by simp[ft]
 | d::ds,h=>by
  have h1:=h d Gx;have h2:=fu (c:=c) (ds:=ds) λd hd=>h d<|Gq _ hd
  rw[ft,GM,Nat.mul_add,Nat.mul_one];omega
variable [Fam]
def tT {c:DE->M Bool}{b:DE->M Out}{Q:Out->FdS->Prop}(I:DE->FdS->Prop)(μ:DE->Nat)
  (st:∀E F,I E F->wp (c E F) λt F1=>cIf t (wp (b E F1) λo F2=>∃E2,o = .nx E2/\I E2 F2 /\ μ E2 < μ E)<|Q (.nx E) F1):∀(n:Nat) (E:DE) (F:FdS),I E F->μ E<n->wp (aU c b n E F) Q
 | 0,E,F,_,h=>absurd h<|JY _
 | n+1,E,F,hI,h=>by
  rw[aU,b8];refine j7 (st E F hI) λt F1 h1=>?_
  cases t with
  | false=>rw[rZ]at h1;rw[Gr<|by simp];exact b9.2 h1
  | true =>
   rw[uy]at h1;rw[Gp rfl,b8];refine j7 h1 λo F2 ⟨E2,e,hI2,hm⟩=>?_
   subst e;exact tT I μ st n E2 F2 hI2 (by omega)
def Cm {c:DE->M Bool}{b:DE->M Out}{Q:Out->FdS->Prop}(I:DE->FdS->Prop)(μ:DE->Nat){E:DE}{F:FdS}(h0:I E F)
  (st:∀E F,I E F->wp (c E F) λt F1=>cIf t (wp (b E F1) λo F2=>∃E2,o = .nx E2/\I E2 F2 /\ μ E2 < μ E)<|Q (.nx E) F1):wp (mWh c b E F) Q:=by
 obtain⟨o,F',e,q⟩:=tT I μ st (μ E+1) E F h0<|Jr _;exact⟨o,F',yq e,q⟩
variable [Fam]
variable [Fam]
variable [Fam]
variable [Fam]
def mr {i:Int}(h0:-(2 ^ 62)<=i)(h1:i<2 ^ 62):U4 [.int i]=some (V9 0 i.toNat):=Gp ⟨h0,h1⟩
def rY {n:Nat}(h:n<=100000):U4 [.int (n:Nat)]=some (V9 0 n):=by
 have e:=mr (i:=(n:Int)) (by omega) (by omega);rwa [HG]at e
theorem dg:∀ns:List Int,G5 (ns.map .int)=some ns
 | []=>rfl
 | n::ns=>by rw[GH,G5,dg ns];rfl
variable [Fam]
end L3
namespace L3
open L2
abbrev Pn:=Int×Int×Bool
def pAt (ps:List Pn)(i:Nat):Pn:=ps.getD i (0,0,false)
def Q7 (k:Nat)(ps:List Pn):List Nat :=
 if k=1 then(List.range ps.length).reverse
 else if k=2 then(p7<|(List.range ps.length).map λi=>((pAt ps i).2.1,i)).map Prod.snd
 else if k=3 then(p7<|(List.range ps.length).map λi=>((pAt ps i).1,i)).map Prod.snd
 else List.range ps.length
def bI (b:Bool):Int:=if b then 1 else 0
def order (k:Nat)(kp:Bool)(ps:List Pn):List Nat :=
 if kp then(p7<|(Q7 k ps).map λi=>(bI (!(pAt ps i).2.2),i)).map Prod.snd else Q7 k ps
def P4 (k:Nat)(ps:List Pn)(i j:Nat):Prop :=
 if k=1 then j<i else if k=2 then(pAt ps i).2.1<(pAt ps j).2.1\/((pAt ps i).2.1=(pAt ps j).2.1/\i<j)
 else if k=3 then(pAt ps i).1<(pAt ps j).1\/((pAt ps i).1=(pAt ps j).1/\i<j) else i<j
def aG (k:Nat)(kp:Bool)(ps:List Pn)(i j:Nat):Prop :=
 if kp then(bI (!(pAt ps i).2.2)<bI (!(pAt ps j).2.2)\/(bI (!(pAt ps i).2.2)=bI (!(pAt ps j).2.2)/\P4 k ps i j)) else P4 k ps i j
theorem rh {T:Nat->Nat->Prop}{p:Int×Nat}(tr:∀a b c,T a b->T b c->T a c):∀{l:List (Int×Nat)},l.Pairwise (λa b=>a.1<b.1\/(a.1=b.1/\T a.2 b.2))->(∀q∈l,T p.2 q.2)->(T6 p l).Pairwise λa b=>a.1<b.1\/(a.1=b.1/\T a.2 b.2)
 | [],_,_=>by simp[T6]
 | q::r,h,hl=>by
  rw[GZ]at h;rw[T6];split
  .rename_i hle;refine GZ.2 ⟨λz hz=>?_,GZ.2 h⟩;have hz':=hl z hz;have hle':p.1<=z.1:=by
    rcases GK.1 hz with rfl | hz
    .exact hle
    .rcases h.1 z hz with e | e <;> omega
   rcases Kd hle' with e | e
   .exact .inl e
   .exact .inr ⟨e,hz'⟩
  .rename_i hgt;refine GZ.2 ⟨λz hz=>?_,rh tr h.2 λz hz=>hl z<|Gq _ hz⟩;rcases GK.1 ((R6 p r).mem_iff.mp hz) with rfl | hz
   .exact .inl (by omega)
   .exact h.1 z hz
theorem iT {T:Nat->Nat->Prop}(tr:∀a b c,T a b->T b c->T a c):∀{l:List (Int×Nat)},l.Pairwise (λa b=>T a.2 b.2)->(p7 l).Pairwise λa b=>a.1<b.1\/(a.1=b.1/\T a.2 b.2)
 | [],_=>.nil
 | p::r,h=>by
  rw[GZ]at h;exact rh tr (iT tr h.2) λq hq=>h.1 q<|(x3 r).mem_iff.mp hq
def dO {T:Nat->Nat->Prop}(tr:∀a b c,T a b->T b c->T a c)(g:Nat->Int){l:List Nat}(h:l.Pairwise T):((p7<|l.map λi=>(g i,i)).map Prod.snd).Pairwise λi j=>g i<g j\/(g i=g j/\T i j):=by
 have h1:(l.map λi=>(g i,i)).Pairwise (λa b=>T a.2 b.2):=by
  rw[IX];exact h
 have h2:=iT tr h1;rw[IX];refine h2.imp_of_mem λ{a b} ha hb hab=>?_
 have ea:a.1=g a.2:=by
  obtain⟨i,_,rfl⟩:=GW.1<|(x3 _).mem_iff.mp ha;rfl
 have eb:b.1=g b.2:=by
  obtain⟨i,_,rfl⟩:=GW.1<|(x3 _).mem_iff.mp hb;rfl
 rw[<-ea,<-eb];exact hab
def W3 (g:Nat->Int)(l:List Nat):((p7<|l.map λi=>(g i,i)).map Prod.snd).Perm l:=by
 have:=(x3<|l.map λi=>(g i,i)).map Prod.snd;rw[GL]at this;exact this.trans (.of_eq<|(GO λi _=>rfl).trans<|List.map_id _)
def K0 (n:Nat):(List.range n).Pairwise (· < ·):=by
 rw[HI];intro i j hi hj hij;simpa using hij
def P8 (k:Nat)(ps:List Pn):(Q7 k ps).Perm (List.range ps.length):=by
 unfold Q7;repeat' split
 .exact List.reverse_perm _
 .exact W3 (λi=>(pAt ps i).2.1) _
 .exact W3 (λi=>(pAt ps i).1) _
 .exact .refl _
def O5 (k:Nat)(kp:Bool)(ps:List Pn):(order k kp ps).Perm (List.range ps.length):=by
 unfold order;split
 .exact(W3 (λi=>bI (!(pAt ps i).2.2)) _).trans<|P8 k ps
 .exact P8 k ps
def aQ (k:Nat)(ps:List Pn):(Q7 k ps).Pairwise (P4 k ps):=by
 unfold Q7 P4;repeat' split
 .rw[List.pairwise_reverse];exact K0 _
 .exact dO (T:=λa b=>a<b) (λa b c h1 h2=>Lp h1 h2) (λi=>(pAt ps i).2.1)<|K0 _
 .exact dO (T:=λa b=>a<b) (λa b c h1 h2=>Lp h1 h2) (λi=>(pAt ps i).1)<|K0 _
 .exact K0 _
def jF {k:Nat}{ps:List Pn}(a b c:Nat)(h1:P4 k ps a b)(h2:P4 k ps b c):P4 k ps a c:=by
 unfold P4 at *;repeat' split
 all_goals simp_all
 all_goals omega
def cy {k:Nat}{ps:List Pn}(a b:Nat)(h1:P4 k ps a b)(h2:P4 k ps b a):False:=by
 unfold P4 at *;split at h1
 .simp_all;omega
 .split at h1
  .simp_all;omega
  .split at h1
   .simp_all;omega
   .simp_all;omega
def gS (k:Nat)(kp:Bool)(ps:List Pn):(order k kp ps).Pairwise (aG k kp ps):=by
 unfold order aG;cases kp with
 | true =>
  simp only[Ig];exact dO jF (λi=>bI (!(pAt ps i).2.2))<|aQ k ps
 | false=>simpa using aQ k ps
def gw {k:Nat}{kp:Bool}{ps:List Pn}(a b:Nat)(h1:aG k kp ps a b)(h2:aG k kp ps b a):False:=by
 unfold aG at *;cases kp with
 | true =>
  simp only[Ig]at h1 h2;rcases h1 with h1 | ⟨e1,h1⟩ <;> rcases h2 with h2 | ⟨e2,h2⟩ <;> first | omega | exact cy a b h1 h2
 | false =>
  simp only[GY,HP]at h1 h2;exact cy a b h1 h2
def p0 (h k:Nat)(kp:Bool)(ps:List Pn):List Nat:=(List.range ps.length).filter λi=>decide (i∈(order k kp ps).take h)
def C7 (n:Nat):(List.range n).Nodup:=by
 rw[Iy];exact(K0 n).imp λh=>GR h
def jW (k:Nat)(kp:Bool)(ps:List Pn):(order k kp ps).Nodup:=(O5 k kp ps).nodup_iff.mpr<|C7 _
def ax {l m:List Nat}(h1:l.Nodup)(h2:m.Nodup)(h:∀x,x∈l↔x∈m):l.Perm m:=(List.perm_ext_iff_of_nodup h1 h2).2 h
def eU (h k:Nat)(kp:Bool)(ps:List Pn):(p0 h k kp ps).Perm ((order k kp ps).take h):=by
 refine ax ((C7 _).sublist HU) ((jW k kp ps).sublist<|List.take_sublist _ _) λx=>?_
 unfold p0;rw[GU,II];exact⟨λz=>z.2,λz=>⟨(O5 k kp ps).mem_iff.mp<|List.mem_of_mem_take z,z⟩⟩
def aY (h k:Nat)(kp:Bool)(ps:List Pn):(p0 h k kp ps).length=min h ps.length:=by
 rw[(eU h k kp ps).length_eq,Ij,(O5 k kp ps).length_eq,GB]
def qm (h k:Nat)(kp:Bool)(ps:List Pn):(p0 h k kp ps).Pairwise (· < ·):=(K0 _).sublist HU
def gC (h k:Nat)(kp:Bool)(ps:List Pn):kf (((order k kp ps).take h).map Int.ofNat)=(p0 h k kp ps).map Int.ofNat:=by
 refine bZ ((aw _).trans ((eU h k kp ps).map Int.ofNat).symm) (eE _) ?_;rw[IX];exact(qm h k kp ps).imp λ{a b} h=>by simp only[Int.ofNat_eq_natCast];omega
end L3
namespace L3
open PySem PySem.Spec PyProof.Rows L2
abbrev pnD (p:Pn):Ac:=.tuple [.int p.1,.int p.2.1,.bool p.2.2]
def i7 (l:List Nat):List Ac:=l.map λi:Nat=>Ac.int (i:Int)
def kOf:Ac->Nat
 | .str x=>if x = "last" \/ x = "lastoff" then 1 else if x = "short" \/ x = "shortoff" then 2 else if x = "front" \/ x = "frontoff" then 3 else 0
 | _=>0
def v7 (l:List Nat):(i7 l).length=l.length:=by simp[i7]
def tU (l:List Nat):(i7 l).reverse=i7 l.reverse:=by simp[i7]
def nO (n:Nat):V9 0 n=i7 (List.range n):=by
 unfold V9 i7;exact GO λi _=>by congr 1;omega
theorem fP:∀(l:List Int),(l.map Ac.int).mapM Ac? = some l
 | []=>rfl
 | i::l=>by rw[GH,IS,fP l];rfl
theorem dZ:∀(l:List Bool),(l.map Ac.bool).mapM sJ? = some (l.map bI)
 | []=>rfl
 | i::l=>by rw[GH,IS,dZ l];rfl
def lq (l:List Int):cE (l.map .int)=some l:=by unfold cE;rw[fP]
def jS (l:List Bool):cE (l.map .bool)=some (l.map bI):=by
 unfold cE;cases l with
 | nil=>rfl
 | cons b l=>exact dZ (b::l)
theorem T7 {α β γ:Type}(f:α->β)(g:α->γ):∀l:List α,(l.map f).zip (l.map g)=l.map λx=>(f x,g x)
 | []=>rfl
 | x::l=>by rw[GH,GH,Jx,T7 f g l];rfl
def eB (g:Nat->Int)(l:List Nat):((p7<|(l.map g).zip<|i7 l).map Prod.snd)=i7 ((p7<|l.map λi=>(g i,i)).map Prod.snd):=by
 have e:(l.map g).zip (i7 l)=(l.map λi=>(g i,i)).map λq=>(q.1,(λi:Nat=>Ac.int (i:Int)) q.2):=by
  rw[GL];exact T7 g _ l
 rw[e,aq (λi:Nat=>Ac.int (i:Int)),GL];unfold i7;rw[GL];rfl
section
variable [Fam]
def vm {r:Ac}(h:r∈W8):inD false r (.tuple [.str "last",.str "lastoff"])=some (.bool<|decide (kOf r=1)):=by
 obtain⟨x,rfl,hx⟩:=T2 h;show(if SeqAt.shaped (.tuple [.str "last",.str "lastoff"])=true/\SeqAt.shaped (.str x)=true then _ else none)=_;rw[Gp ⟨by decide +kernel,hx⟩,Gr<|by decide];simp only[GK,KB,or_false,Ac.str.injEq]at h;rcases h with rfl | rfl | rfl | rfl | rfl | rfl | rfl | rfl <;> exact HJ (λb=>some<|Ac.bool b) (by decide +kernel)
def qG {r:Ac}(h:r∈W8):inD false r (.tuple [.str "short",.str "shortoff"])=some (.bool<|decide (kOf r=2)):=by
 obtain⟨x,rfl,hx⟩:=T2 h;show(if SeqAt.shaped (.tuple [.str "short",.str "shortoff"])=true/\SeqAt.shaped (.str x)=true then _ else none)=_;rw[Gp ⟨by decide +kernel,hx⟩,Gr<|by decide];simp only[GK,KB,or_false,Ac.str.injEq]at h;rcases h with rfl | rfl | rfl | rfl | rfl | rfl | rfl | rfl <;> exact HJ (λb=>some<|Ac.bool b) (by decide +kernel)
def sg {r:Ac}(h:r∈W8):inD false r (.tuple [.str "front",.str "frontoff"])=some (.bool<|decide (kOf r=3)):=by
 obtain⟨x,rfl,hx⟩:=T2 h;show(if SeqAt.shaped (.tuple [.str "front",.str "frontoff"])=true/\SeqAt.shaped (.str x)=true then _ else none)=_;rw[Gp ⟨by decide +kernel,hx⟩,Gr<|by decide];simp only[GK,KB,or_false,Ac.str.injEq]at h;rcases h with rfl | rfl | rfl | rfl | rfl | rfl | rfl | rfl <;> exact HJ (λb=>some<|Ac.bool b) (by decide +kernel)
end
def yb {ps:List Pn}{i:Nat}(h:i<ps.length):atI (ps.map pnD) (i:Int)=some (pnD<|pAt ps i):=by
 refine dE ?_;rw[GC,Gm h];unfold pAt;rw[Gz,Gm h];rfl
section
variable [Fam]
def CY:List DV->M Ac:=S4 ["rule","stand","places"] (mSq (y3 2<|iB<|c7 (sN V0<|c7 (sW 1) j4) j4)
  (mSq (mIf (uB<|s2 (inD false) (sW 0)<|sC<|.tuple [.str "last",.str "lastoff"]) (mRt<|s1 uJ<|sW 2) mNx)
  (mSq (mIf (uB<|s2 (inD false) (sW 0)<|sC<|.tuple [.str "short",.str "shortoff"]) (mRt<|sSK (c7 (sV 2) j4) [1]<|s2 ixD (s2 ixD (sW 1)<|sW 0)<|sC<|.int 1) mNx)
  (mSq (mIf (uB<|s2 (inD false) (sW 0)<|sC<|.tuple [.str "front",.str "frontoff"]) (mRt<|sSK (c7 (sV 2) j4) [1]<|s2 ixD (s2 ixD (sW 1)<|sW 0)<|sC<|.int 0) mNx)
  (mRt<|sV 2)))))
def Df:List DV->M Ac:=S4 ["house","stand","hands","places","rule","order"] (mSq (bO (E8 3<|i5 (bN 2)<|i5 (bN 3)<|i5 (bN 4) G3)<|sV 0)
  (mSq (y3 5<|l9 CY<|vD (sV 4)<|vD (sV 1) A9)
  (mSq (mIf (uT<|l9 aT<|vD (sV 4) A9) (y3 5<|sSK (c7 (sV 5) j4) [1]<|wY<|s2 ixD (s2 ixD (sW 1)<|sW 0)<|sC<|.int 2) mNx)
  (mRt<|sN x5<|c7 (sN bj<|c7 (kG (sW 5) oNo<|oI<|sV 2) j4) j4))))
theorem bU {me:DE->M Ac}{E0:DE}{g:Nat->Ac}:∀(l:List Nat) (F:FdS),(∀i∈l,me (some (.dat<|.int (i:Int))::E0) F=some (g i,F))->cJ me E0 (i7 l) F=some (l.map g,F)
 | [],F,_=>rfl
 | d::ds,F,h=>by
  show(me (some (.dat<|.int (d:Int))::E0) F).bind _=_;rw[h d Gx,GV];show(cJ me E0 (i7 ds) F).bind _=_;rw[bU ds F λx hx=>h x<|Gq _ hx];rfl
variable {F:FdS}{Q:Ac->FdS->Prop}
def Bg {ma:DE->M (List Ac)}{cap:List Nat}{me:DE->M Ac}{E:DE}(q:wp (ma E F) λxs F1=>∃ds kd ns,xs=[.list ds]/\ds.length<64/\cJ me (cap.map λj=>(E[j]?).join) ds F1=some (kd,F1)/\cE kd=some ns/\Q (.list<|(p7<|ns.zip ds).map Prod.snd) F1):wp (sSK ma cap me E F) Q:=by
 unfold sSK;rw[b8];refine j7 q λxs F1 ⟨ds,kd,ns,e,h64,e2,e3,q⟩=>?_
 subst e;dsimp only;rw[Gp h64,e2,GV,e3,GV];exact b9.2 q
def sY {ma:DE->M (List Ac)}{cap:List Nat}{me:DE->M Ac}{E:DE}{g:Nat->Int}(q:wp (ma E F) λxs F1=>∃l:List Nat,xs=[.list<|i7 l]/\l.length<64/\(∀i∈l,me (some (.dat<|.int (i:Int))::cap.map λj=>(E[j]?).join) F1=some (.int<|g i,F1))/\Q (.list<|i7<|(p7<|l.map λi=>(g i,i)).map Prod.snd) F1):wp (sSK ma cap me E F) Q:=by
 refine Bg (j7 q λxs F1 ⟨l,e,h1,h2,h3⟩=>⟨i7 l,l.map λi=>.int<|g i,l.map g,e,by rw[v7];exact h1,bU l F1 h2,?_,by rw[eB];exact h3⟩);rw[<-lq (l.map g),GL];rfl
def vU {ma:DE->M (List Ac)}{cap:List Nat}{me:DE->M Ac}{E:DE}{g:Nat->Bool}(q:wp (ma E F) λxs F1=>∃l:List Nat,xs=[.list<|i7 l]/\l.length<64/\(∀i∈l,me (some (.dat<|.int (i:Int))::cap.map λj=>(E[j]?).join) F1=some (.bool<|g i,F1))/\Q (.list<|i7<|(p7<|l.map λi=>(bI<|g i,i)).map Prod.snd) F1):wp (sSK ma cap me E F) Q:=by
 refine Bg (j7 q λxs F1 ⟨l,e,h1,h2,h3⟩=>⟨i7 l,l.map λi=>.bool<|g i,l.map λi=>bI<|g i,e,by rw[v7];exact h1,bU l F1 h2,?_,by rw[eB λi=>bI<|g i];exact h3⟩);have:=jS<|l.map g;rw[GL,GL]at this;exact this
def xu {a:DE->M (List Ac)}{E:DE}(q:wp (a E F) λx F1=>oB (U4 x) λds=>ds.length<=1000/\Q (.list ds) F1):wp (iB a E F) Q:=by
 unfold iB;rw[b8];refine j7 q λx F1 ⟨ds,e,h1,q⟩=>?_
 rw[e,GV,Gp h1];exact b9.2 q
def tY {ps:List Pn}{i:Nat}{j:Int}(h:i<ps.length):s2 ixD (s2 ixD (sW 1)<|sW 0) (sC<|.int j) [some<|.dat<|.int (i:Int),some<|.dat<|.tuple<|ps.map pnD] F=(ixD (pnD<|pAt ps i)<|.int j).bind λz=>some (z,F):=by
 show(((atI (ps.map pnD) (i:Int)).bind λz=>some (z,F)).bind λp=>(ixD p.1<|.int j).bind λz=>some (z,p.2))=_;rw[yb h];rfl
def Af {ps:List Pn}{i:Nat}(h:i<ps.length):wY (s2 ixD (s2 ixD (sW 1)<|sW 0)<|sC<|.int 2) [some<|.dat<|.int (i:Int),some<|.dat<|.tuple<|ps.map pnD] F=some (.bool (!(pAt ps i).2.2),F):=by
 unfold wY;rw[tY h];rfl
def wL {r:Ac}{ps:List Pn}(hr:r∈W8)(hl:ps.length<64)(q:Q (.list<|i7<|Q7 (kOf r) ps) F):wp (CY [.dat r,.dat<|.tuple<|ps.map pnD] F) Q:=by
 unfold CY;walk_at "go";refine xu ?_;refine c8.2<|J9.2<|c8.2<|n5.2<|d8.2 ?_;refine c9 U3<|d8.2 ?_;rw[Gi];refine c9 (rY<|by omega) ⟨by rw[aJ];omega,?_⟩;rw[nO];have hperm:∀i∈List.range ps.length,i<ps.length:=λi hi=>GJ.1 hi
 walk_at "go";refine c9 (vm hr) ?_;unfold Q7 at q;refine c9 rfl (bg (λh=>?_) λh=>?_)
 .rw[Gp<|Hf h]at q;walk_at "go";rw[tU];exact q
 rw[Gr<|Jg h]at q;walk_at "go";refine c9 (qG hr) ?_;refine c9 rfl (bg (λh=>?_) λh=>?_)
 .rw[Gp<|Hf h]at q;walk_at "go";refine sY (g:=λi=>(pAt ps i).2.1) ?_;walk_at "go";refine⟨_,rfl,by rw[GB];exact hl,λi hi=>?_,?_⟩
  .exact tY<|hperm i hi
  .walk_at "go";exact q
 rw[Gr<|Jg h]at q;walk_at "go";refine c9 (sg hr) ?_;refine c9 rfl (bg (λh=>?_) λh=>?_)
 .rw[Gp<|Hf h]at q;walk_at "go";refine sY (g:=λi=>(pAt ps i).1) ?_;walk_at "go";refine⟨_,rfl,by rw[GB];exact hl,λi hi=>?_,?_⟩
  .exact tY<|hperm i hi
  .walk_at "go";exact q
 rw[Gr<|Jg h]at q;walk_at "go";exact q
def dN {α:Type}{l:List α}{h:Nat}:dc l none (some (h:Int))=l.take h:=by
 unfold dc;simp only[HT.sIx_none,HT.sIx_nat,List.drop_zero,Nat.sub_zero];by_cases hh:h<=l.length
 .rw[Lw hh]
 .rw[Nat.min_eq_right (by omega),HD (by omega),HD<|by omega]
def oX (l:List Nat)(n:Nat):(i7 l).take n=i7 (l.take n):=by unfold i7;rw[Ky]
theorem eZ:∀l:List Nat,G5 (i7 l)=some (l.map Int.ofNat)
 | []=>rfl
 | i::l=>by
  show G5 (.int (i:Int)::i7 l)=_;rw[G5,eZ l];rfl
def tV {r pl:Ac}{ps:List Pn}{h:Nat}(hr:r∈W8)(hl:ps.length<64)(q:Q (.tuple<|i7<|p0 h (kOf r) (kb r) ps) F):wp (Df [.dat<|.tuple [.int h,pl,r],.dat<|.tuple<|ps.map pnD] F) Q:=by
 unfold Df;walk_at "go";refine wL hr hl ?_;have hlen:(Q7 (kOf r) ps).length=ps.length:=by rw[(P8 (kOf r) ps).length_eq,GB]
 have hperm:∀i∈Q7 (kOf r) ps,i<ps.length:=λi hi=>GJ.1<|(P8 (kOf r) ps).mem_iff.mp hi
 have hol:(order (kOf r) (kb r) ps).length=ps.length:=by rw[(O5 (kOf r) (kb r) ps).length_eq,GB]
 have fin:∀E:DE,E=[some<|.dat<|.tuple [.int h,pl,r],some<|.dat<|.tuple<|ps.map pnD,some<|.dat<|.int h,some<|.dat pl,some<|.dat r,some<|.dat<|.list<|i7<|order (kOf r) (kb r) ps]->wp (mRt (sN x5<|c7 (sN bj<|c7 (kG (sW 5) oNo<|oI<|sV 2) j4) j4) E F) (uC Q):=by
  rintro E rfl;refine P2.2<|J9.2<|c8.2<|J9.2<|c8.2<|uE.2<|n5.2<|t7 rfl<|uA.2<|yS.2<|v4.2<|u9 rfl<|c9 AQ<|c9 yV<|d8.2 ?_;rw[dN,oX];have e:bj [.list<|i7<|(order (kOf r) (kb r) ps).take h]=some (.list<|i7<|p0 h (kOf r) (kb r) ps):=by
   simp only[bj,eZ];rw[Gp (by rw[Gi,Ij,hol];omega),gC,GL];rfl
  refine c9 e<|d8.2<|c9 av ?_;exact q
 refine⟨i8 rfl,h7<|j9.2<|aK.2<|wb.2<|r6.2 ?_⟩;walk_at "go";refine nq hr ?_;refine c9 rfl (bg (λe=>?_) λe=>?_)
 .refine A8.2 (vU (g:=λi=>!(pAt ps i).2.2) ?_);walk_at "go";refine⟨_,rfl,by rw[hlen];exact hl,λi hi=>?_,i8 rfl,?_⟩
  .exact Af<|hperm i hi
  .refine fin _ ?_;unfold order;rw[Gp e];rfl
 .refine gb.2<|h7 ?_;refine fin _ ?_;unfold order;rw[Gr (by rw[e];simp)];rfl
end
variable [Fam]
section
variable {F:FdS}{Q:Ac->FdS->Prop}
def uu {l:List Nat}{i:Nat}{d:Ac}(h:(i7 l)[i]? = some d):∃k,l[i]? = some k/\d = .int (k:Int):=by
 unfold i7 at h;rw[GC]at h;obtain⟨k,e,rfl⟩:=Hd.1 h;exact⟨k,e,rfl⟩
end
variable [Fam]
def za {i:Int}{n:Nat}(h0:-100000<=i)(h1:i<=100000):Gd n 1 0 (.int i):=zA (pf<|by omega)
def gB {l:List Nat}(h:∀i∈l,i<=1000):Gd 0 (1+l.length) 1 (.tuple<|i7 l):=by
 refine Gd.tup (M:=1) (λx hx=>?_) ?_
 .obtain⟨p,hp,rfl⟩:=GW.1 hx;have:=h p hp;exact za (by omega) (by omega)
 .have:=fu (c:=1) (ds:=i7 l) λd hd=>by
   obtain⟨p,hp,rfl⟩:=GW.1 hd;simp[cnt]
  rw[v7]at this;omega
end L3
namespace L3
open L2
section
def fe (kp:Bool)(p:Pn):Pn:=(p.1,p.2.1-1,kp)
def O6 (P:List Nat)(ps:List Pn)(i:Nat):Bool:=decide (i∈P)&&decide ((pAt ps i).2.1<=1)
def G9 (P:List Nat)(kp:Bool)(ps:List Pn)(i:Nat):Pn:=if i∈P then fe kp (pAt ps i) else pAt ps i
def V3 (P:List Nat)(ps:List Pn):List Nat:=(List.range ps.length).filter λi=>!decide (i∈P)
def K6 (P:List Nat)(ps:List Pn):List Nat:=P.filter λi=>!decide ((pAt ps i).2.1<=1)
def M8 (P:List Nat)(ps:List Pn):List Nat:=P.filter λi=>decide ((pAt ps i).2.1<=1)
def B9 (tn:Bool)(P:List Nat)(ps:List Pn):List Nat:=if tn then V3 P ps++K6 P ps else(List.range ps.length).filter λi=>!O6 P ps i
theorem Q8 {α:Type}{R:α->α->Prop}(as:∀a b,R a b->R b a->False):∀{l₁ l₂:List α},l₁.Perm l₂->l₁.Pairwise R->l₂.Pairwise R->l₁=l₂
 | [],l₂,p,_,_=>p.nil_eq
 | a::r,[],p,_,_=>by have:=p.length_eq;simp at this
 | a::r,b::t,p,h1,h2=>by
  rw[GZ]at h1 h2;have ab:a=b:=by
   rcases GK.1 (p.mem_iff.1<|Gx (a:=a) (l:=r)) with e | e
   .exact e
   .rcases GK.1 (p.mem_iff.2<|Gx (a:=b) (l:=t)) with e2 | e2
    .exact e2.symm
    .exact(as _ _ (h2.1 a e)<|h1.1 b e2).elim
  subst ab;rw[Q8 as (p.cons_inv) h1.2 h2.2]
theorem jl {α:Type}{p:Int × α}:∀{l:List (Int × α)},l.Pairwise (λa b=>a.1<b.1)->(∀q∈l,p.1≠q.1)->(T6 p l).Pairwise λa b=>a.1<b.1
 | [],_,_=>by simp[T6]
 | q::r,h,hl=>by
  rw[GZ]at h;rw[T6];split
  .rename_i hle;have hq:=hl q Gx;refine GZ.2 ⟨λz hz=>?_,GZ.2 h⟩;rcases GK.1 hz with rfl | hz
   .omega
   .have:=h.1 z hz;omega
  .rename_i hgt;refine GZ.2 ⟨λz hz=>?_,jl h.2 λz hz=>hl z<|Gq _ hz⟩;rcases GK.1 ((R6 p r).mem_iff.mp hz) with rfl | hz
   .omega
   .exact h.1 z hz
theorem dJ {α:Type}:∀{l:List (Int × α)},(l.map Prod.fst).Nodup->(p7 l).Pairwise λa b=>a.1<b.1
 | [],_=>.nil
 | p::r,h=>by
  rw[GH,IJ]at h;exact jl (dJ h.2) λq hq e=>h.1<|e▸IB ((x3 r).mem_iff.mp hq)
def qb {α:Type}{l m:List (Int × α)}(hp:m.Perm l)(hs:m.Pairwise λa b=>a.1<b.1):p7 l=m:=by
 have nd:(l.map Prod.fst).Nodup:=by
  refine(hp.map Prod.fst).nodup_iff.mp ?_;rw[Iy,IX];exact hs.imp λh=>by omega
 exact Q8 (R:=λa b:Int × α=>a.1<b.1) (λa b h1 h2=>by omega) ((x3 l).trans hp.symm) (dJ nd) hs
def R5 {h k:Nat}{kp:Bool}{ps:List Pn}:∀i∈p0 h k kp ps,i<ps.length:=λi hi=>GJ.1 (GU.1 hi).1
def M6 {h k:Nat}{kp:Bool}{ps:List Pn}:(p0 h k kp ps).Nodup:=(C7 _).sublist HU
def bx {P:List Nat}{ps:List Pn}(hs:∀i∈P,i<ps.length)(hn:P.Nodup):(V3 P ps++K6 P ps).Perm (B9 false P ps):=by
 unfold B9;rw[Gr<|by simp];refine ax ?_ ((C7 _).sublist HU) λx=>?_
 .rw[List.nodup_append];refine⟨(C7 _).sublist HU,hn.sublist HU,λa ha b hb e=>?_⟩;subst e;have h1:=(GU.1 ha).2;have h2:=(GU.1 hb).1;simp[h2]at h1
 .unfold V3 K6 O6;simp only[GP,GU,GJ,Bool.not_eq_true',decide_eq_false_iff_not,Bool.and_eq_false_iff];constructor
  .rintro (⟨h1,h2⟩ | ⟨h1,h2⟩)
   .exact⟨h1,.inl h2⟩
   .exact⟨hs x h1,.inr h2⟩
  .rintro ⟨h1,h2⟩;by_cases hx:x∈P
   .exact .inr ⟨hx,h2.resolve_left λz=>z hx⟩
   .exact .inl ⟨h1,hx⟩
def vj (P:List Nat)(ps:List Pn):(B9 false P ps).Pairwise (· < ·):=by
 unfold B9;rw[Gr<|by simp];exact(K0 _).sublist HU
def aR {tn:Bool}{P:List Nat}{ps:List Pn}(hs:∀i∈P,i<ps.length)(hn:P.Nodup):(B9 tn P ps).Perm (B9 false P ps):=by
 cases tn with
 | false=>exact .refl _
 | true =>
  have:=bx hs hn;unfold B9 at this ⊢;simpa using this
def after (h k:Nat)(kp tn:Bool)(ps:List Pn):List Pn:=(B9 tn (p0 h k kp ps) ps).map<|G9 (p0 h k kp ps) kp ps
def K8 (pl:Option Nat)(n m:Nat):Nat:=match pl with
 | some v=>min m<|v-n
 | none=>m
def A4 (pl:Option Nat)(ps:List Pn)(bt:List (Int×Int)):List Pn:=ps++(bt.take<|K8 pl ps.length bt.length).map λc=>(c.1,c.2,false)
def kq (pl:Option Nat)(ps:List Pn)(bt:List (Int×Int)):(A4 pl ps bt).length=ps.length+K8 pl ps.length bt.length:=by
 unfold A4;rw[Hm,Gi,Ij];unfold K8;split <;> omega
end
section
theorem nV (f g:Nat->Int):∀l:List Nat,(l.map λi=>f i-g i).sum=(l.map f).sum-(l.map g).sum
 | []=>rfl
 | i::l=>by simp only[GH,IH,nV f g l];omega
theorem mC {f:Nat->Int}{g:Nat->Bool}:∀{l:List Nat},(∀i∈l,g i=false->f i=0)->((l.filter g).map f).sum=(l.map f).sum
 | [],_=>rfl
 | i::l,h=>by
  have ih:=mC (l:=l) λj hj=>h j<|Gq _ hj
  cases hg:g i with
  | true=>rw[Hv hg];simp only[GH,IH,ih]
  | false =>
   have:=h i Gx hg;rw[Hw<|by simp[hg]];simp only[GH,IH,ih];omega
theorem iy {g:Nat->Bool}:∀l:List Nat,(l.map λi=>if g i=true then(1:Int) else 0).sum=((l.filter g).length:Nat)
 | []=>rfl
 | i::l=>by
  cases hg:g i with
  | true=>rw[Hv hg];simp only[GH,IH,iy l,hg,Ig,GM];omega
  | false=>rw[Hw<|by simp[hg]];simp[iy l,hg]
def uw {l m:List Int}(p:l.Perm m):l.sum=m.sum:=by
 induction p with
 | nil=>rfl
 | cons x _ ih=>simp only[IH,ih]
 | swap x y l=>simp only[IH];omega
 | trans _ _ h1 h2=>exact h1.trans h2
def X9 (ps:List Pn):Int:=(ps.map λp=>p.2.1).sum
def xa (ps:List Pn):Prop:=∀p∈ps,1<=p.2.1
def S9 {α β:Type}(d:α)(f:α->β):∀l:List α,(List.range l.length).map (λi=>f<|l.getD i d)=l.map f:=λl=>by
 apply Lr
 .simp
 .intro i h1 h2;simp only[Gi,GB]at h1;simp[h1]
def lR (ps:List Pn):X9 ps=((List.range ps.length).map λi=>(pAt ps i).2.1).sum:=by
 unfold X9;rw[<-S9 (0,0,false) (λp:Pn=>p.2.1) ps];rfl
def yQ {ps:List Pn}(h:xa ps){i:Nat}(hi:i<ps.length):1<=(pAt ps i).2.1:=by
 have e:pAt ps i=ps[i]:=by unfold pAt;simp[hi]
 rw[e];exact h _<|Ir hi
def va {tn:Bool}{P:List Nat}{ps:List Pn}(hs:∀i∈P,i<ps.length)(hn:P.Nodup){i:Nat}(h:i∈B9 tn P ps):i<ps.length/\O6 P ps i=false:=by
 have:=(aR (tn:=tn) hs hn).mem_iff.mp h;unfold B9 at this;rw[Gr<|by simp]at this;have h2:=GU.1 this;exact⟨GJ.1 h2.1,by simpa using h2.2⟩
def pW {h k:Nat}{kp tn:Bool}{ps:List Pn}(hp:xa ps):X9 (after h k kp tn ps)=X9 ps-(min h ps.length:Nat):=by
 have hsub:=R5 (h:=h) (k:=k) (kp:=kp) (ps:=ps);have hnd:=M6 (h:=h) (k:=k) (kp:=kp) (ps:=ps);rw[<-aY h k kp ps,lR ps];unfold after X9;generalize p0 h k kp ps=P at hsub hnd;rw[GL];have e1:=uw ((aR (tn:=tn) hsub hnd).map<|(λp:Pn=>p.2.1) ∘ G9 P kp ps);rw[e1];unfold B9;rw[Gr<|by simp];have e2:(List.map ((λp:Pn=>p.2.1) ∘ G9 P kp ps)<|(List.range ps.length).filter λi=>!O6 P ps i).sum=(((List.range ps.length).filter λi=>!O6 P ps i).map λi=>(pAt ps i).2.1-(if decide (i∈P)=true then(1:Int) else 0)).sum:=by
  congr 1;refine GO λi hi=>?_
  show(G9 P kp ps i).2.1=_;unfold G9 fe;by_cases hm:i∈P <;> simp[hm]
 rw[e2,mC,nV,iy]
 .have e3:((List.range ps.length).filter λi=>decide (i∈P)).length=P.length:=by
   refine(ax ((C7 _).sublist HU) hnd λx=>?_).length_eq;simp only[GU,GJ,II];exact⟨λz=>z.2,λz=>⟨hsub x z,z⟩⟩
  rw[e3]
 .intro i hi hg;have h1:=yQ hp<|GJ.1 hi;unfold O6 at hg;simp only[Bool.not_eq_false',IP,II]at hg;simp only[hg.1,Jn,Ig];omega
def ny {ps:List Pn}(hp:xa ps):(ps.length:Int)<=X9 ps:=by
 induction ps with
 | nil=>exact Ja _
 | cons p ps ih =>
  have h1:=hp p Gx;have h2:=ih λx hx=>hp x<|Gq _ hx
  unfold X9 at h2 ⊢;simp only[GM,GH,IH];omega
def pP {h k:Nat}{kp tn:Bool}{ps:List Pn}:(after h k kp tn ps).length<=ps.length:=by
 unfold after;rw[Gi,(aR (tn:=tn) (R5 (h:=h) (k:=k) (kp:=kp) (ps:=ps)) M6).length_eq];have h2:=Hj (λi=>!O6 (p0 h k kp ps) ps i)<|List.range ps.length;unfold B9;rw[Gr<|by simp];rw[GB]at h2;exact h2
abbrev Bt:=List<|Int×Int
def P9 (h k:Nat)(kp tn:Bool)(pl:Option Nat)(ps:List Pn)(bt:Bt):List Pn:=after h k kp tn<|A4 pl ps bt
def ao (f:List Pn->Bt->List Pn)(ps:List Pn)(way:List Bt)(i:Nat):List Pn:=(way.take i).foldl f ps
def p6 (way:List Bt)(i:Nat):Bt:=way.getD i []
def bX {f:List Pn->Bt->List Pn}{ps:List Pn}{way:List Bt}:ao f ps way 0=ps:=by simp[ao]
def bS {f:List Pn->Bt->List Pn}{ps:List Pn}{way:List Bt}{i:Nat}(h:i<way.length):ao f ps way (i+1)=f (ao f ps way i) (p6 way i):=by
 unfold ao p6;have e:way.getD i []=way[i]:=by simp[h]
 rw[JE,Gm h,List.foldl_append,e];rfl
def f7 (way:List Bt):Nat:=(way.map List.length).sum
def R8 {way:List Bt}{i:Nat}(h:i<way.length):f7 (way.take<|i+1)=f7 (way.take i)+(p6 way i).length:=by
 unfold f7 p6;have e:way.getD i []=way[i]:=by simp[h]
 rw[JE,Gm h,GS,KO,e];rfl
def dD (way:List Bt)(i:Nat):f7 (way.take i)<=f7 way:=by
 conv=>rhs;rw[<-List.take_append_drop i way]
 unfold f7;rw[GS,KO];omega
theorem jC {h k:Nat}{kp tn:Bool}{pl:Option Nat}{ps:List Pn}{way:List Bt}:∀{i:Nat},i<=way.length->(ao (P9 h k kp tn pl) ps way i).length<=ps.length+f7 (way.take i)
 | 0,_=>by rw[bX];omega
 | i+1,hi=>by
  have ih:=jC (h:=h) (k:=k) (kp:=kp) (tn:=tn) (pl:=pl) (ps:=ps) (way:=way) (i:=i) (by omega);rw[bS (by omega),R8<|by omega];unfold P9;refine He pP ?_;rw[kq];have:K8 pl (ao (P9 h k kp tn pl) ps way i).length (p6 way i).length<=(p6 way i).length:=by unfold K8;split <;> omega
  unfold P9 at ih this;omega
def uQ {h k:Nat}{kp tn:Bool}{pl:Option Nat}{ps:List Pn}{way:List Bt}(hl:ps.length+f7 way<64){i:Nat}(hi:i<way.length):(ao (P9 h k kp tn pl) ps way i).length+(p6 way i).length<64:=by
 have h1:=jC (h:=h) (k:=k) (kp:=kp) (tn:=tn) (pl:=pl) (ps:=ps) (way:=way) (i:=i) (by omega);have h2:=R8 hi;have h3:=dD way<|i+1;omega
def cc (ps:List Pn)(bt:Bt):A4 none ps bt=ps++bt.map λc=>(c.1,c.2,false):=by
 unfold A4 K8;rw[Ls]
end
section
def prs (c:Nat)(L:Nat->Int)(n:Nat):Bool:=decide (n<c)&&decide (0<L n)
def pkd (h c:Nat)(L:Nat->Int)(n:Nat):Bool:=prs c L n&&decide (((List.range n).filter<|prs c L).length<h)
def nxt (h c:Nat)(L:Nat->Int)(n:Nat):Int:=if pkd h c L n=true then L n-1 else L n
def fL (h:Nat)(cnt:Nat->Nat)(w:Nat->Int):Nat->Nat->Int
 | 0=>w
 | m+1=>nxt h (cnt<|m+1)<|fL h cnt w m
def fW (h:Nat)(cnt:Nat->Nat)(w:Nat->Int):Nat->Nat->Nat
 | 0,_=>0
 | m+1,n=>if (prs (cnt<|m+1) (fL h cnt w m) n && !pkd h (cnt<|m+1) (fL h cnt w m) n)=true then fW h cnt w m n+1 else fW h cnt w m n
def fM (h:Nat)(cnt:Nat->Nat)(w:Nat->Int):Nat->Nat->Nat
 | 0,_=>0
 | m+1,n=>if pkd h (cnt<|m+1) (fL h cnt w m) n=true/\fL h cnt w m n<=1 then m+1 else fM h cnt w m n
def Z0 {h c:Nat}{L:Nat->Int}{n:Nat}(e:pkd h c L n=true):n<c/\0<L n/\((List.range n).filter<|prs c L).length<h:=by
 unfold pkd prs at e;simp only[IP,II]at e;exact⟨e.1.1,e.1.2,e.2⟩
def sQ {h c:Nat}{L:Nat->Int}{n:Nat}(h1:n<c)(h2:0<L n)(h3:((List.range n).filter<|prs c L).length<h):pkd h c L n=true:=by
 unfold pkd;have:prs c L n=true:=by unfold prs;simp[h1,h2]
 rw[this,Bool.true_and];exact GX h3
theorem uh {h:Nat}{cnt:Nat->Nat}{w:Nat->Int}(hw:∀n,0<=w n):∀m n,0<=fL h cnt w m n
 | 0,n=>hw n
 | m+1,n=>by
  have:=uh (h:=h) (cnt:=cnt) hw m n;show 0<=nxt _ _ _ n;unfold nxt;split
  .rename_i e;have:=(Z0 e).2.1;omega
  .exact this
def AE {h:Nat}{cnt:Nat->Nat}{w:Nat->Int}(m n:Nat):fL h cnt w (m+1) n<=fL h cnt w m n:=by
 show nxt _ _ _ n<=_;unfold nxt;split <;> omega
theorem jB {h:Nat}{cnt:Nat->Nat}{w:Nat->Int}(hw:∀n,0<=w n)(n:Nat)(h1:1<=w n):∀m,(0<fL h cnt w m n/\fM h cnt w m n=0/\∀t≤m,0<fL h cnt w t n)\/(fL h cnt w m n=0/\fL h cnt w (fM h cnt w m n) n=0/\∀t<fM h cnt w m n,0<fL h cnt w t n)
 | 0=>.inl ⟨by show 0<w n;omega,rfl,λt ht=>by
   have:t=0:=by omega
   subst this;show 0<w n;omega⟩
 | m+1=>by
  have hn:=uh (h:=h) (cnt:=cnt) hw (m+1) n;have hd:=AE (h:=h) (cnt:=cnt) (w:=w) m n;rcases jB hw n h1 m with ⟨a1,a2,a3⟩ | ⟨a1,a2,a3⟩
  .by_cases hp:pkd h (cnt<|m+1) (fL h cnt w m) n=true
   .have eL:fL h cnt w (m+1) n=fL h cnt w m n-1:=by
     show nxt _ _ _ n=_;unfold nxt;rw[Gp hp]
    by_cases h2:fL h cnt w m n<=1
    .have eM:fM h cnt w (m+1) n=m+1:=by rw[fM,Gp ⟨hp,h2⟩]
     refine .inr ⟨by omega,by rw[eM];omega,λt ht=>?_⟩;rw[eM]at ht;exact a3 t (by omega)
    .have eM:fM h cnt w (m+1) n=fM h cnt w m n:=by rw[fM,Gr λz=>h2 z.2]
     refine .inl ⟨by omega,by rw[eM];exact a2,λt ht=>?_⟩;by_cases ht2:t<=m
     .exact a3 t ht2
     .have:t=m+1:=by omega
      subst this;omega
   .have eL:fL h cnt w (m+1) n=fL h cnt w m n:=by
     show nxt _ _ _ n=_;unfold nxt;rw[Gr hp]
    have eM:fM h cnt w (m+1) n=fM h cnt w m n:=by rw[fM,Gr λz=>hp z.1]
    refine .inl ⟨by omega,by rw[eM];exact a2,λt ht=>?_⟩;by_cases ht2:t<=m
    .exact a3 t ht2
    .have:t=m+1:=by omega
     subst this;omega
  .have hp:¬pkd h (cnt<|m+1) (fL h cnt w m) n=true:=λe=>by have:=(Z0 e).2.1;omega
   have eM:fM h cnt w (m+1) n=fM h cnt w m n:=by rw[fM,Gr λz=>hp z.1]
   refine .inr ⟨by omega,by rw[eM];exact a2,by rw[eM];exact a3⟩
end
section
def j3 (c:Nat)(L:Nat->Int):List Nat:=(List.range c).filter λn=>decide (0<L n)
def psn (rk L w:Nat->Int)(n:Nat):Pn:=(rk n,L n,decide (L n<w n))
structure Fi (L w:Nat->Int):Prop where
 le:∀n,L n<=w n
 bp:∀x n,x<n->0<L x->L n<w n->L x<w x
def qz (c:Nat)(L:Nat->Int):j3 c L=(List.range c).filter (prs c L):=by
 unfold j3;refine Jl λn hn=>?_
 unfold prs;simp[GJ.1 hn]
def lu (c:Nat)(L:Nat->Int):(j3 c L).Nodup:=(C7 _).sublist HU
def jQ {n c:Nat}(h:n<c):∃r,List.range c=List.range n++n::r:=by
 refine⟨(List.range' (n+1)<|c-(n+1)),?_⟩;rw[List.range_eq_range',List.range_eq_range'];have e:c=n+(1+(c-(n+1))):=by omega
 conv=>lhs;rw[e]
 rw[<-List.range'_append_1,Lo 1,List.range'_succ];simp
def qL {c:Nat}{L:Nat->Int}{i:Nat}(hi:i<(j3 c L).length):((List.range<|(j3 c L)[i]).filter<|prs c L).length=i:=by
 have hm:=Ir hi;generalize hn:(j3 c L)[i]=n at hm;have hm2:=GU.1 hm;have hnc:=GJ.1 hm2.1;have hp:prs c L n=true:=by unfold prs;simp[hnc,Hf hm2.2]
 obtain⟨r,er⟩:=jQ hnc;have el:j3 c L=(List.range n).filter (prs c L)++n::r.filter (prs c L):=by
  rw[qz,er,HZ,Hv hp]
 have hlt:((List.range n).filter<|prs c L).length<(j3 c L).length:=by rw[el,Hm,GM];omega
 have h2:(j3 c L)[((List.range n).filter<|prs c L).length]=n:=by
  have:(j3 c L)[((List.range n).filter<|prs c L).length]? = some n:=by
   rw[el,HV<|Gs _,Nat.sub_self];rfl
  rw[Gm hlt]at this;injection this
 have hs:(j3 c L).Pairwise (· < ·):=(K0 c).sublist HU;have hpw:=HI.1 hs;generalize ((List.range n).filter<|prs c L).length=j at hlt h2;rcases JF j i with z | z | z
 .have:=hpw j i hlt hi z;omega
 .exact z
 .have:=hpw i j hi hlt z;omega
def dq {h c:Nat}{L:Nat->Int}{i:Nat}(hi:i<(j3 c L).length):pkd h c L ((j3 c L)[i])=decide (i<h):=by
 have hm:=GU.1<|Ir hi;have hnc:=GJ.1 hm.1;unfold pkd;rw[qL hi];have hp:prs c L ((j3 c L)[i])=true:=by unfold prs;simp[hnc,Hf hm.2]
 rw[hp,Bool.true_and]
section
variable {h c:Nat}{rk L w:Nat->Int}
def bq {i:Nat}(hi:i<(j3 c L).length):pAt ((j3 c L).map<|psn rk L w) i=psn rk L w ((j3 c L)[i]):=by
 unfold pAt;simp[hi]
def ll (F:Fi L w):order 0 true ((j3 c L).map<|psn rk L w)=List.range (j3 c L).length:=by
 have hk:((j3 c L).map<|psn rk L w).length=(j3 c L).length:=by simp
 refine Q8 (R:=aG 0 true<|(j3 c L).map<|psn rk L w) (λa b=>gw a b) ?_ (gS _ _ _) ?_
 .have:=O5 0 true<|(j3 c L).map<|psn rk L w;rwa [hk]at this
 .rw[HI];intro i j hi hj hij;simp only[GB]at hi hj;simp only[IT];unfold aG;rw[Gp rfl,bq hi,bq hj];have ha:P4 0 ((j3 c L).map<|psn rk L w) i j:=by unfold P4;simpa using hij
  have hlt:(j3 c L)[i]<(j3 c L)[j]:=by
   have:=(K0 c).sublist (HU (p:=λn=>decide (0<L n)));exact HI.1 this i j hi hj hij
  have hpi:=Hf (GU.1<|Ir hi).2;have hb:=F.bp _ _ hlt hpi;unfold psn;simp only;by_cases h1:L ((j3 c L)[j])<w ((j3 c L)[j])
  .have h2:=hb h1;simp[h1,h2,bI];exact ha
  .by_cases h2:L ((j3 c L)[i])<w ((j3 c L)[i])
   .simp[h1,h2,bI]
   .simp[h1,h2,bI];exact ha
def U0 (F:Fi L w)(i:Nat):i∈p0 h 0 true ((j3 c L).map<|psn rk L w)↔i<(j3 c L).length/\i<h:=by
 unfold p0;rw[ll F,Gi,GU,GJ,II];constructor
 .rintro ⟨h1,h2⟩;refine⟨h1,?_⟩;rw[Ly]at h2;have:=GJ.1 h2;omega
 .rintro ⟨h1,h2⟩;refine⟨h1,?_⟩;rw[Ly];exact GJ.2 (by omega)
def pN (F:Fi L w){i:Nat}(hi:i<(j3 c L).length):O6 (p0 h 0 true<|(j3 c L).map<|psn rk L w) ((j3 c L).map<|psn rk L w) i = !decide (0<nxt h c L ((j3 c L)[i])):=by
 unfold O6 nxt;rw[bq hi,dq hi];have e:decide (i∈p0 h 0 true ((j3 c L).map<|psn rk L w))=decide (i<h):=by
  rw[IR,U0 F];exact⟨λz=>z.2,λz=>⟨hi,z⟩⟩
 rw[e];have hp:=Hf (GU.1<|Ir hi).2;by_cases hh:i<h
 .simp only[hh,Jn,Bool.true_and,Ig];rw[<-decide_not,IR];show L _<=1↔_;omega
 .simp only[hh,Kf,Bool.false_and];rw[Gr<|by simp];simp[hp]
def nP {n:Nat}(hn:0<nxt h c L n):0<L n:=by
 unfold nxt at hn;split at hn <;> omega
def rL:(j3 c L).filter (λn=>decide (0<nxt h c L n))=j3 c (nxt h c L):=by
 unfold j3;rw[List.filter_filter];refine Jl λn hn=>?_
 by_cases hz:0<nxt h c L n
 .simp[hz,nP hz]
 .simp[hz]
def lg (l:List Nat):(List.range l.length).map (λi=>l.getD i 0)=l:=by
 have:=S9 (0:Nat) (λx:Nat=>x) l;rwa [List.map_id']at this
def iQ (F:Fi L w):B9 false (p0 h 0 true<|(j3 c L).map<|psn rk L w) ((j3 c L).map<|psn rk L w)=(List.range (j3 c L).length).filter ((λn=>decide (0<nxt h c L n)) ∘ λi=>(j3 c L).getD i 0):=by
 unfold B9;rw[Gr (by simp),Gi];refine Jl λi hi=>?_
 have hi:=GJ.1 hi;rw[pN F hi];simp[hi]
def fN (F:Fi L w):(B9 false (p0 h 0 true<|(j3 c L).map<|psn rk L w)<|(j3 c L).map<|psn rk L w).map (λi=>(j3 c L).getD i 0)=j3 c (nxt h c L):=by
 rw[iQ F,<-List.filter_map,lg,rL]
def eD (F:Fi L w):after h 0 true false ((j3 c L).map<|psn rk L w)=(j3 c<|nxt h c L).map (psn rk (nxt h c L) w):=by
 unfold after;rw[<-fN F,GL];refine GO λi hi=>?_
 rw[iQ F]at hi;have hi:=GJ.1 (GU.1 hi).1;have hm:=Ir hi;have hp:=Hf (GU.1 hm).2;have hle:=F.le<|(j3 c L)[i];have eg:(j3 c L).getD i 0=(j3 c L)[i]:=by simp[hi]
 show G9 _ true _ i=psn rk (nxt h c L) w ((j3 c L).getD i 0);rw[eg];unfold G9;rw[bq hi];by_cases hh:i<h
 .rw[Gp<|(U0 F i).2 ⟨hi,hh⟩];unfold psn nxt;rw[dq hi];simp only[hh,Jn,Ig,fe];rw[GX<|show L ((j3 c L)[i])-1<w ((j3 c L)[i]) by omega]
 .rw[Gr λz=>hh ((U0 F i).1 z).2];unfold psn nxt;rw[dq hi];simp[hh]
def Fi.next (F:Fi L w):Fi (nxt h c L) w:=by
 have dn:∀n,nxt h c L n<=L n:=λn=>by unfold nxt;split <;> omega
 refine⟨λn=>Int.le_trans (dn n)<|F.le n,λx n hxn hx hn=>?_⟩;have hx0:=nP hx;by_cases hb:L n<w n
 .have:=F.bp x n hxn hx0 hb;have:=dn x;omega
 .have hp:pkd h c L n=true:=by
   by_cases hp:pkd h c L n=true
   .exact hp
   .unfold nxt at hn;rw[Gr hp]at hn;exact absurd hn hb
  obtain⟨a1,a2,a3⟩:=Z0 hp;have hpx:pkd h c L x=true:=by
   refine sQ (by omega) hx0<|Je ?_ a3;have:((List.range x).filter<|prs c L).Sublist ((List.range n).filter<|prs c L):=by
    refine List.Sublist.filter _ ?_;exact List.range_sublist.2 (by omega)
   exact this.length_le
  have:=F.le x;have e:nxt h c L x=L x-1:=by unfold nxt;rw[Gp hpx]
  omega
end
theorem nr {h:Nat}{cnt:Nat->Nat}{w:Nat->Int}:∀m,Fi (fL h cnt w m) w
 | 0=>⟨λn=>Ja _,λx n _ _ hn=>absurd hn<|Int.lt_irrefl _⟩
 | m+1=>(nr m).next
end
end L3
namespace L3
open PySem PySem.Spec PyProof.Rows L2
section
variable [Fam]
abbrev cmD (c:Int×Int):Ac:=.tuple [.int c.1,.int c.2]
def plD:Option Nat->Ac
 | some v=>.int (v:Int)
 | none=>.none
def W2:List DV->M Ac:=S4 ["house","stand","beat","places","room","entered"] (mSq (y3 3<|s2 ixD (sW 0)<|sC<|.int 1)
  (mSq (y3 4<|sIf (uB<|s2 (isD false) (sW 3)<|sC .none) (sN V0<|c7 (sW 2) j4)<|s2 mx (sW 3)<|sN V0<|c7 (sW 1) j4)
  (mSq (y3 5<|sLC (N6<|kG (sW 2) oNo<|oI<|sV 4) 2 [] (E8 2<|i5 (bN 0)<|i5 (bN 1) G3) M5<|M7<|c7 (sV 0)<|c7 (sV 1)<|c7 (sC<|.bool false) j4)
  (mRt<|M7<|c7 (s2 Q2 (sW 1)<|sN x5<|c7 (sW 5) j4)<|c7 (s2 mx (sN V0<|c7 (sW 2) j4)<|sN V0<|c7 (sW 5) j4) j4))))
def Y4:List DV->M Ac:=S4 ["house","stand","rule","hands_on","waiting","served","gone","place","rank","left","begun","staying"] (mSq (y3 2<|s2 ixD (sW 0)<|sC<|.int 2)
  (mSq (y3 3<|l9 Df<|vD (sV 0)<|vD (sV 1) A9)
  (mSq (y3 4<|sLC (X6<|sW 1) 2 [3] (E8 2<|i5 (bN 0)<|i5 (bN 1) G3) (uB<|s2 (inD true) (sW 0)<|sW 2)<|M7<|c7 (sV 0)<|c7 (sV 1) j4)
  (mSq (fZ 5 6 (cO<|aH j4)<|cO<|aH j4)
  (mSq (bE (N6<|sV 3) (bN 7) (mSq (bO (E8 3<|i5 (bN 8)<|i5 (bN 9)<|i5 (bN 10) G3)<|s2 ixD (sW 1)<|sW 7)
  (mIf (uB<|s2 gtD (sW 9)<|sC<|.int 1) (bF 5<|M7<|c7 (sV 7)<|c7 (M7<|c7 (sV 8)<|c7 (s2 mx (sW 9)<|sC<|.int 1)<|c7 (l9 aT<|vD (sV 2) A9) j4) j4)<|bF 6<|sV 7)))
  (mSq (y3 11<|sIf (uB<|s2 (eqD false) (sW 2)<|sC<|.str "turns") (s2 Q2 (sW 4)<|sW 5)<|sN bj<|c7 (s2 Q2 (sW 4)<|sW 5) j4)
  (mRt<|M7<|c7 (sV 11)<|c7 (sV 3)<|c7 (sN x5<|c7 (sW 6) j4) j4)))))))
def eh:List DV->M Ac:=S4 ["house","stand","beat","filled","lost","staying","hands_on","gone"] (mSq (bO (E8 2<|i5 (bN 3)<|i5 (bN 4) G3)<|l9 W2<|vD (sV 0)<|vD (sV 1)<|vD (sV 2) A9)
  (mSq (bO (E8 3<|i5 (bN 5)<|i5 (bN 6)<|i5 (bN 7) G3)<|l9 Y4<|vD (sV 0)<|vD (sV 3) A9)
  (mRt<|M7<|c7 (sN x5<|c7 (sLC (N6<|sW 5) 2 [] (E8 2<|i5 (bN 0)<|i5 (bN 1) G3) M5<|sV 1) j4)<|c7 (sV 4)<|c7 (sV 7) j4)))
abbrev b2:Ac->DE->Option DE:=E8 2<|i5 (bN 0)<|i5 (bN 1) G3
section
variable {F:FdS}
theorem jt {me:DE->M Ac}{α:Type}{x y:α->Ac}{f:α->Ac}{rest:DE}{Q:List Ac->FdS->Prop}:∀(ds:List α) (o o':Option DV),(∀d∈ds,∀(F:FdS) (Q:Ac->FdS->Prop),Q (f d) F->wp (me (some (.dat<|x d)::some (.dat<|y d)::rest) F) Q)->Q (ds.map f) F->wp (V8 b2 M5 me (ds.map λd=>.tuple [x d,y d]) (o::o'::rest) F) Q
 | [],o,o',_,q=>b9.2 q
 | d::ds,o,o',h,q=>by
  rw[GH,V8];have e:b2 (.tuple [x d,y d]) (o::o'::rest)=some (some (.dat<|x d)::some (.dat<|y d)::rest):=rfl;rw[e,GV,b8];refine ak.2 ?_;rw[Gp rfl,b8];refine h d Gx F _ ?_;rw[b8];exact jt ds _ _ (λd hd=>h d<|Gq _ hd)<|b9.2 q
def yt {mt:DE->M Bool}{me:DE->M Ac}{α:Type}{x y:α->Ac}{g:α->Bool}{f:α->Ac}{rest:DE}{Q:List Ac->FdS->Prop}:∀(ds:List α) (o o':Option DV),(∀d∈ds,∀(F:FdS) (Q:Bool->FdS->Prop),Q (g d) F->wp (mt (some (.dat<|x d)::some (.dat<|y d)::rest) F) Q) ->
  (∀d∈ds,g d=true->∀(F:FdS) (Q:Ac->FdS->Prop),Q (f d) F->wp (me (some (.dat<|x d)::some (.dat<|y d)::rest) F) Q)->Q ((ds.filter g).map f) F->wp (V8 b2 mt me (ds.map λd=>.tuple [x d,y d]) (o::o'::rest) F) Q
 | [],o,o',_,_,q=>b9.2 q
 | d::ds,o,o',ht,h,q=>by
  rw[GH,V8];have e:b2 (.tuple [x d,y d]) (o::o'::rest)=some (some (.dat<|x d)::some (.dat<|y d)::rest):=rfl;rw[e,GV,b8];refine ht d Gx F _ ?_;cases c:g d with
  | false =>
   rw[Hw (by rw[c];simp)]at q;rw[Gr<|by simp];exact yt ds _ _ (λd hd=>ht d<|Gq _ hd) (λd hd=>h d<|Gq _ hd) q
  | true =>
   rw[Hv c,GH]at q;rw[Gp rfl,b8];refine h d Gx c F _ ?_;rw[b8];exact yt ds _ _ (λd hd=>ht d<|Gq _ hd) (λd hd=>h d<|Gq _ hd)<|b9.2 q
def vd {ps:List Pn}:C5 0 (ps.map pnD)=(List.range ps.length).map λi=>.tuple [.int (i:Int),pnD<|pAt ps i]:=by
 have key:∀(l:List Ac) (k:Nat),C5 k l=(List.range l.length).map λi=>.tuple [.int ((k+i:Nat):Int),l.getD i .none]:=by
  intro l;induction l with
  | nil=>intro k;rfl
  | cons d l ih =>
   intro k;rw[C5,ih,GM,JC,GH,GL];have e1:(Ac.tuple [.int (k:Int),d]) = .tuple [.int ((k+0:Nat):Int),(d::l).getD 0 .none]:=by simp
   rw[<-e1];refine HJ (List.cons _) (GO λi _=>?_);simp only[Function.comp,JS,JT];rw[show k+1+i=k+(i+1) by omega]
 rw[key,Gi];refine GO λi hi=>?_
 have hi:=GJ.1 hi;rw[Hq,Gz,GC,Gm hi];unfold pAt;rw[Gz,Gm hi];rfl
def rJ {a b:Int}:(Ac.int a).eqv (.int b)=decide (a=b):=by
 simp only[Ac.eqv];exact Bool.beq_eq_decide_eq ..
def cu {l:List Nat}{i:Nat}(hl:∀j∈l,j<=1000):inD true (.int (i:Int)) (.tuple<|i7 l)=some (.bool (!decide (i∈l))):=by
 have hs:SeqAt.shaped (.tuple<|i7 l)=true:=(gB hl).shaped (by decide) (by decide);have hi:SeqAt.shaped (.int (i:Int))=true:=by simp[SeqAt.shaped,Ac.canLay0,Ac.depth]
 show(if SeqAt.shaped (.tuple<|i7 l)=true/\SeqAt.shaped (.int (i:Int))=true then _ else none)=_;rw[Gp ⟨hs,hi⟩,Gp rfl];refine HJ (λb=>some<|Ac.bool (!b)) ?_;unfold i7;rw[List.any_map];have e:(l.any ((λy=>y.eqv<|.int (i:Int)) ∘ λj:Nat=>Ac.int (j:Int)))=l.any λj=>decide (j=i):=by
  congr 1;funext j;simp only[Function.comp,rJ];rw[IR];omega
 rw[e];induction l with
 | nil=>simp
 | cons a l ih =>
  rw[Lg,ih λj hj=>hl j<|Gq _ hj]
  .by_cases h:a=i
   .simp[h]
   .have:¬i=a:=λz=>h z.symm
    simp[h,this]
  .exact(gB λj hj=>hl j<|Gq _ hj).shaped (by decide) (by decide)
  .congr 1;funext j;simp only[Function.comp,rJ];rw[IR];omega
end
section
variable {F:FdS}{Q:Ac->FdS->Prop}
def mH (pl:Option Nat)(n:Nat):Prop:=∀v,pl=some v->n<=v
def xJ (pl:Option Nat)(n m:Nat):Int:=match pl with
 | some v=>(v:Int)-(n:Int)
 | none=>(m:Int)
def uP {pl:Option Nat}{n:Nat}{bt:List Ac}(hp:mH pl n):dc bt none (some<|xJ pl n bt.length)=bt.take (K8 pl n bt.length):=by
 cases pl with
 | none =>
  show dc bt none (some ((bt.length:Nat):Int))=_;rw[dN];rfl
 | some v =>
  have:=hp v rfl;show dc bt none (some<|(v:Int)-(n:Int))=bt.take (min bt.length<|v-n);have e:(v:Int)-(n:Int)=((v-n:Nat):Int):=by omega
  rw[e,dN];by_cases hh:v-n<=bt.length
  .rw[Nat.min_eq_right hh]
  .rw[Lw (by omega),HD (by omega),HD<|by omega]
def ki {h r:Ac}{pl:Option Nat}{ps:List Pn}{bt:List (Int×Int)}(hp:mH pl ps.length)(hl:ps.length+bt.length<=1000)(q:Q (.tuple [.tuple<|(A4 pl ps bt).map pnD,.int ((bt.length-K8 pl ps.length bt.length:Nat):Int)]) F) :
  wp (W2 [.dat<|.tuple [h,plD pl,r],.dat<|.tuple<|ps.map pnD,.dat<|.tuple<|bt.map cmD] F) Q:=by
 have rle:K8 pl ps.length bt.length<=bt.length:=by unfold K8;split <;> omega
 have fin:∀(E:DE) (room:Int) (a5:Option DV),room=xJ pl ps.length bt.length->E=[some<|.dat<|.tuple [h,plD pl,r],some<|.dat<|.tuple<|ps.map pnD,some<|.dat<|.tuple<|bt.map cmD,some<|.dat<|plD pl,some<|.dat<|.int room,a5] ->
   wp (mSq (y3 5<|sLC (N6<|kG (sW 2) oNo<|oI<|sV 4) 2 [] (E8 2<|i5 (bN 0)<|i5 (bN 1) G3) M5<|M7<|c7 (sV 0)<|c7 (sV 1)<|c7 (sC<|.bool false) j4)
    (mRt<|M7<|c7 (s2 Q2 (sW 1)<|sN x5<|c7 (sW 5) j4)<|c7 (s2 mx (sN V0<|c7 (sW 2) j4)<|sN V0<|c7 (sW 5) j4) j4) E F) (uC Q):=by
  rintro E room a5 hroom rfl;have ec:dc (bt.map cmD) none (some room)=(bt.take<|K8 pl ps.length bt.length).map cmD:=by
   have:=uP (bt:=bt.map cmD) hp;rw[Gi]at this;rw[hroom,this,Ky]
  refine j9.2<|A8.2<|V7.2<|A5.2<|uE.2<|n5.2<|t7 rfl<|uA.2<|yS.2<|v4.2<|u9 rfl<|c9 AQ<|c9 yz<|c9 Q4 ?_;rw[ec];refine⟨sz (by rw[Gi,Ij];omega),?_⟩;refine jt (x:=λc:Int×Int=>.int c.1) (y:=λc=>.int c.2) (f:=λc=>pnD (c.1,c.2,false)) _ _ _ (λc hc F Q q=>?_) ?_
  .walk_at "go";exact q
  .refine⟨i8 rfl,h7 ?_⟩;refine P2.2<|C2.2<|c8.2<|q4.2<|n5.2<|t7 rfl<|J9.2<|c8.2<|n5.2<|t7 rfl<|d8.2<|c9 av<|c9 (AH ?_)<|c8.2<|q4.2<|J9.2<|c8.2<|n5.2<|t7 rfl<|d8.2<|c9 U3<|J9.2<|c8.2<|n5.2<|t7 rfl<|d8.2<|c9 kC<|c9 iD<|d8.2 ⟨p8 rfl,?_⟩
   .rw[Gi,Gi,Ij];omega
   .have e1:ps.map pnD++(bt.take<|K8 pl ps.length bt.length).map (λc=>pnD (c.1,c.2,false))=(A4 pl ps bt).map pnD:=by
     unfold A4;rw[GS,GL];rfl
    have e2:((List.map cmD bt).length:Int)-((List.map (λc:Int×Int=>pnD (c.1,c.2,false))<|bt.take<|K8 pl ps.length bt.length).length:Int)=((bt.length-K8 pl ps.length bt.length:Nat):Int):=by
     rw[Gi,Gi,Ij];omega
    rw[e1,e2];exact q
 unfold W2;refine R9.2<|j9.2<|A8.2<|q4.2<|n5.2<|t7 rfl<|n6.2<|c9 rfl ⟨i8 rfl,h7<|j9.2<|A8.2<|fI.2<|aa.2<|q4.2<|n5.2<|t7 rfl<|n6.2<|c9 rfl<|c9 rfl ?_⟩;cases pl with
 | none =>
  refine N2 rfl ?_;refine J9.2<|c8.2<|n5.2<|t7 rfl<|d8.2<|c9 U3 ⟨i8 rfl,h7 ?_⟩;rw[Gi];exact fin _ _ none rfl rfl
 | some v =>
  refine l7 rfl ?_;refine q4.2<|n5.2<|t7 rfl<|J9.2<|c8.2<|n5.2<|t7 rfl<|d8.2<|c9 U3<|c9 iD ⟨i8 rfl,h7 ?_⟩;rw[Gi];exact fin _ _ none rfl rfl
end
variable [Fam]
def tnB:Ac->Bool
 | .str x=>decide (x = "turns")
 | _=>false
abbrev prD (q:Nat×Pn):Ac:=.tuple [.int (q.1:Int),pnD q.2]
def sx {r:Ac}(h:r∈W8):eqD false r (.str "turns")=some (.bool<|tnB r):=by
 obtain⟨x,rfl,hx⟩:=T2 h;show some (Ac.bool<|if false=true then !decide (x = "turns") else decide (x = "turns"))=_;rw[Gr<|by decide];rfl
def tq {c1 c2:DE->M DV}{E:DE}{F:FdS}{i j:Nat}{Q:Out->FdS->Prop}(h:wp (c1 E F) λx F1=>wp (c2 E F1) λy F2=>(i<E.length/\j<E.length)/\Q (.nx<|(E.set i<|some x).set j<|some y) F2):wp (fZ i j c1 c2 E F) Q:=by
 unfold fZ;rw[b8];refine j7 h λx F1 h1=>?_
 rw[b8];refine j7 h1 λy F2 h2=>?_
 rw[Gp h2.1];exact b9.2 h2.2
def qg {m:DE->M (List Ac)}{E:DE}{F:FdS}{Q:DV->FdS->Prop}(h:wp (m E F) λx F1=>Q (.own x) F1):wp (cO m E F) Q:=by
 unfold cO;rw[b8];exact j7 h λx F1 h1=>b9.2 h1
def Cp {m:DE->M Ac}{E:DE}{F:FdS}{Q:DV->FdS->Prop}(h:wp (m E F) λx F1=>Q (.dat x) F1):wp (cD m E F) Q:=by
 unfold cD;rw[b8];exact j7 h λx F1 h1=>b9.2 h1
theorem dW:∀l:List (Nat×Pn),(l.map prD).mapM ip=some (l.map λq=>(q.1:Int))
 | []=>rfl
 | q::l=>by rw[GH,IS,dW l];rfl
def pB {l:List (Nat×Pn)}(h:l≠[]):G5 (l.map prD)=none:=by
 cases l with
 | nil=>exact absurd rfl h
 | cons q l=>rfl
def wj {l m:List (Nat×Pn)}(hp:m.Perm l)(hs:m.Pairwise λa b=>a.1<b.1)(h64:l.length<64):bj [.list<|l.map prD]=some (.list<|m.map prD):=by
 by_cases hl:l=[]
 .subst hl;have:=hp.symm.nil_eq;subst this;rfl
 .have nd:(l.map λq=>(q.1:Int)).Nodup:=by
   refine(hp.map λq=>(q.1:Int)).nodup_iff.mp ?_;rw[Iy,IX];exact hs.imp λh=>by omega
  simp only[bj,pB hl,dW,GV];rw[Gp ⟨nd,by rw[Gi];exact h64⟩];have e:(l.map λq=>(q.1:Int)).zip (l.map prD)=l.map λq=>((q.1:Int),prD q):=T7 _ _ l
  rw[e,qb (l:=l.map λq=>((q.1:Int),prD q)) (m:=m.map λq=>((q.1:Int),prD q)) (hp.map _) (by rw[IX];exact hs.imp λh=>by show(_:Int)<_;omega),GL];rfl
section
variable {F:FdS}{Q:Ac->FdS->Prop}
def kh {r:Ac}{pl:Ac}{ps:List Pn}{h:Nat}(hr:r∈W8)(hl:ps.length<64)
  (q:Q (.tuple [.list<|(B9 (tnB r) (p0 h (kOf r) (kb r) ps) ps).map λi=>prD (i,G9 (p0 h (kOf r) (kb r) ps) (kb r) ps i),.tuple<|i7<|p0 h (kOf r) (kb r) ps,.tuple<|i7<|M8 (p0 h (kOf r) (kb r) ps) ps]) F) :
  wp (Y4 [.dat<|.tuple [.int (h:Int),pl,r],.dat<|.tuple<|ps.map pnD] F) Q:=by
 have hsub:=R5 (h:=h) (k:=kOf r) (kp:=kb r) (ps:=ps);have hnd:=M6 (h:=h) (k:=kOf r) (kp:=kb r) (ps:=ps);have hplen:(p0 h (kOf r) (kb r) ps).length<=ps.length:=by rw[aY];omega
 unfold Y4;walk_at "go";refine tV hr hl ?_;generalize p0 h (kOf r) (kb r) ps=P at q hsub hnd hplen;refine⟨i8 rfl,h7<|j9.2<|A8.2<|V7.2<|gI<|n5.2<|t7 rfl<|c9 Q4 ?_⟩;rw[vd];refine⟨sz (by rw[Gi,GB];omega),?_⟩;refine yt (x:=λi:Nat=>.int (i:Int)) (y:=λi=>pnD<|pAt ps i) (g:=λi=>!decide (i∈P)) (f:=λi=>prD (i,pAt ps i)) _ _ _ (λi hi F Q q=>?_) (λi hi _ F Q q=>?_) ?_
 .walk_at "go";refine c9 (cu λj hj=>by have:=hsub j hj;omega) ?_;exact c9 rfl q
 .walk_at "go";exact q
 have ew:((List.range ps.length).filter λi=>!decide (i∈P))=V3 P ps:=rfl;rw[ew];refine⟨i8 rfl,h7<|j9.2<|tq<|qg<|O8.2<|d8.2 ⟨sz (by decide),qg<|O8.2<|d8.2 ⟨sz (by decide),⟨i8 rfl,i8 rfl⟩,h7<|j9.2<|W4.2<|A5.2<|v4.2<|u9 rfl<|c9 Q4 ?_⟩⟩⟩;refine N7 (λm E F'=>F'=F/\∃o7 o8 o9 o10 o11,E=[some<|.dat<|.tuple [.int (h:Int),pl,r],some<|.dat<|.tuple<|ps.map pnD,some<|.dat r,some<|.dat<|.tuple<|i7 P,some<|.dat<|.list<|(V3 P ps).map λi=>prD (i,pAt ps i),some<|.own<|(K6 (P.take m) ps).map λi=>prD (i,fe (kb r)<|pAt ps i),some<|.own<|i7<|M8 (P.take m) ps,o7,o8,o9,o10,o11]) _ 0 _ F ⟨rfl,none,none,none,none,none,rfl⟩ ?_ ?_
 .rintro m d e E F1 ⟨rfl,o7,o8,o9,o10,o11,rfl⟩;obtain⟨i,ei,rfl⟩:=uu e;have hi:=hsub i<|HF ei;have et:P.take (0+m+1)=P.take (0+m)++[i]:=by rw[Hq,JE,ei];rfl
  refine⟨_,rfl,?_⟩;refine j9.2<|U8.2<|q4.2<|n5.2<|t7 rfl<|n5.2<|t7 rfl<|c9 (yb hi)<|c9 rfl<|h7 ?_;refine aK.2 (aa.2<|q4.2<|n5.2<|t7 rfl<|n6.2<|c9 yj<|c9 rfl<|bg (λhc=>?_) λhc=>?_)
  .have hc:1<(pAt ps i).2.1:=Hf hc;have e1:K6 (P.take<|0+m+1) ps=K6 (P.take<|0+m) ps++[i]:=by
    unfold K6;rw[et,HZ,Hv (by simp;omega),KP]
   have e2:M8 (P.take<|0+m+1) ps=M8 (P.take<|0+m) ps:=by
    unfold M8;rw[et,HZ,Hw (by simp;omega),KP,HE]
   refine bh rfl (by
    have:=Hj (λi=>!decide ((pAt ps i).2.1<=1))<|P.take<|0+m;have h2:=Ij (i:=0+m) (l:=P);rw[Gi];unfold K6;omega) ?_
   refine C2.2<|c8.2<|v4.2<|u9 rfl<|c8.2<|C2.2<|c8.2<|v4.2<|u9 rfl<|c8.2<|q4.2<|n5.2<|t7 rfl<|n6.2<|c9 iD<|c8.2<|r6.2<|L1.2<|v4.2<|u9 rfl<|x8.2 ?_;refine nq hr<|d8.2 ⟨p8 rfl,d8.2 ⟨p8 rfl,?_⟩⟩;exact⟨_,rfl,rfl,_,_,_,_,_,by rw[e1,e2,GS];rfl⟩
  .have hc:¬1<(pAt ps i).2.1:=Jg hc;have e1:K6 (P.take<|0+m+1) ps=K6 (P.take<|0+m) ps:=by
    unfold K6;rw[et,HZ,Hw (by simp;omega),KP,HE]
   have e2:i7 (M8 (P.take<|0+m+1) ps)=i7 (M8 (P.take<|0+m) ps)++[.int (i:Int)]:=by
    unfold M8;rw[et,HZ,Hv (by simp;omega),KP];simp only[i7,GS,GH,HY]
   refine bh rfl (by
    have:=Hj (λi=>decide ((pAt ps i).2.1<=1))<|P.take<|0+m;have h2:=Ij (i:=0+m) (l:=P);rw[v7];unfold M8;omega)<|v4.2<|u9 rfl ?_
   exact⟨_,rfl,rfl,_,_,_,_,_,by rw[e1,e2];rfl⟩
 .rintro E F1 ⟨rfl,o7,o8,o9,o10,o11,rfl⟩;rw[v7,Hq,Ls];have lw:(V3 P ps).length<=ps.length:=by
   have:=Hj (λi=>!decide (i∈P))<|List.range ps.length;rw[GB]at this;exact this
  have ls:(K6 P ps).length<=ps.length:=by
   have:=Hj (λi=>!decide ((pAt ps i).2.1<=1)) P;unfold K6;omega
  have eW:(V3 P ps).map (λi=>prD (i,pAt ps i))=(V3 P ps).map λi=>prD (i,G9 P (kb r) ps i):=GO λi hi=>by
   have h2:i ∉ P:=by have:=(GU.1 hi).2;simpa using this
   unfold G9;rw[Gr h2]
  have eS:(K6 P ps).map (λi=>prD (i,fe (kb r)<|pAt ps i))=(K6 P ps).map λi=>prD (i,G9 P (kb r) ps i):=GO λi hi=>by
   have h2:i∈P:=(GU.1 hi).1;unfold G9;rw[Gp h2]
  have eA:(V3 P ps).map (λi=>prD (i,pAt ps i))++(K6 P ps).map (λi=>prD (i,fe (kb r)<|pAt ps i))=((V3 P ps++K6 P ps).map λi=>(i,G9 P (kb r) ps i)).map prD:=by
   rw[eW,eS,<-GS,GL];rfl
  have last:∀(E:DE) (st:Ac),st = .list ((B9 (tnB r) P ps).map λi=>prD (i,G9 P (kb r) ps i))->E=[some<|.dat<|.tuple [.int (h:Int),pl,r],some<|.dat<|.tuple<|ps.map pnD,some<|.dat r,some<|.dat<|.tuple<|i7 P,some<|.dat<|.list<|(V3 P ps).map λi=>prD (i,pAt ps i),some<|.own<|(K6 P ps).map λi=>prD (i,fe (kb r)<|pAt ps i),some<|.own<|i7<|M8 P ps,o7,o8,o9,o10,some<|.dat st] ->
    wp (mRt (M7<|c7 (sV 11)<|c7 (sV 3)<|c7 (sN x5<|c7 (sW 6) j4) j4) E F1) (uC Q):=by
   rintro E st rfl rfl;walk_at "go";exact q
  refine h7 (j9.2<|A8.2<|fI.2<|aa.2<|q4.2<|n5.2<|t7 rfl<|n6.2<|c9 (sx hr)<|c9 rfl<|bg (λht=>?_) λht=>?_)
  .refine q4.2<|n5.2<|t7 rfl<|n5.2<|ai rfl<|c9 (yO ?_) ⟨i8 rfl,h7<|last _ _ ?_ rfl⟩
   .rw[Gi,Gi];omega
   .rw[eA,GL];unfold B9;rw[Gp ht];rfl
  .refine J9.2<|c8.2<|q4.2<|n5.2<|t7 rfl<|n5.2<|ai rfl<|c9 (yO ?_)<|d8.2 ?_
   .rw[Gi,Gi];omega
   .rw[eA];have hperm:=(bx hsub hnd).symm.map λi=>(i,G9 P (kb r) ps i)
    have hsrt:((B9 false P ps).map λi=>(i,G9 P (kb r) ps i)).Pairwise λa b=>a.1<b.1:=by
     rw[IX];exact vj P ps
    have hlen:((V3 P ps++K6 P ps).map λi=>(i,G9 P (kb r) ps i)).length<64:=by
     rw[Gi,(bx hsub hnd).length_eq];have:=Hj (λi=>!O6 P ps i)<|List.range ps.length;unfold B9;rw[Gr<|by simp];rw[GB]at this;omega
    refine c9 (wj hperm hsrt hlen) ⟨i8 rfl,h7<|last _ _ ?_ rfl⟩;rw[ht,GL];rfl
def tF {r:Ac}{pl:Option Nat}{ps:List Pn}{bt:List (Int×Int)}{h:Nat}(hr:r∈W8)(hp:mH pl ps.length)(hl:ps.length+bt.length<64)
  (q:Q (.tuple [.tuple<|(after h (kOf r) (kb r) (tnB r)<|A4 pl ps bt).map pnD,.int ((bt.length-K8 pl ps.length bt.length:Nat):Int),.tuple<|i7<|M8 (p0 h (kOf r) (kb r)<|A4 pl ps bt)<|A4 pl ps bt]) F) :
  wp (eh [.dat<|.tuple [.int (h:Int),plD pl,r],.dat<|.tuple<|ps.map pnD,.dat<|.tuple<|bt.map cmD] F) Q:=by
 have hfl:(A4 pl ps bt).length<64:=by
  rw[kq];unfold K8;split <;> omega
 unfold eh;walk_at "go";refine ki hp (by omega) ?_;walk_at "go";refine kh hr hfl ?_;refine c9 rfl<|h7 ?_;refine P2.2<|C2.2<|c8.2<|J9.2<|c8.2<|V7.2<|A5.2<|n5.2<|t7 rfl<|c9 L0 ⟨sz ?_,?_⟩
 .have h1:=(aR (tn:=tnB r) (R5 (h:=h) (k:=kOf r) (kp:=kb r) (ps:=A4 pl ps bt)) M6).length_eq;have h2:=Hj (λi=>!O6 (p0 h (kOf r) (kb r)<|A4 pl ps bt) (A4 pl ps bt) i)<|List.range (A4 pl ps bt).length;rw[Gi,h1];unfold B9;rw[Gr<|by simp];rw[GB]at h2;omega
 .refine jt (x:=λi:Nat=>.int (i:Int)) (y:=λi=>pnD<|G9 (p0 h (kOf r) (kb r)<|A4 pl ps bt) (kb r) (A4 pl ps bt) i) (f:=λi=>pnD<|G9 (p0 h (kOf r) (kb r)<|A4 pl ps bt) (kb r) (A4 pl ps bt) i) _ _ _ (λi hi F Q q=>?_) ?_
  .walk_at "go";exact q
  .walk_at "go";unfold after at q;rw[GL]at q;exact q
end
variable [Fam]
def nY:List DV->M Ac:=S4 ["house","way","stand","stands","lost","gone","beat","following","turned_away","places"] (mSq (iP 3 4 5 (cO<|aH<|c7 (sV 2) j4) (cO<|aH j4)<|cO<|aH j4)
  (mSq (bE (N6<|sV 1) (bN 6) (mSq (bO (E8 3<|i5 (bN 7)<|i5 (bN 8)<|i5 (bN 9) G3)<|l9 eh<|vD (sV 0)<|vD (s2 ixD (sW 3)<|s1 ua<|sC<|.int 1)<|vD (sV 6) A9)
  (mSq (bF 3<|sV 7)
  (mSq (bF 4<|sV 8)
  (bF 5<|sN V0<|c7 (sW 9) j4)))))
  (mRt<|M7<|c7 (sN x5<|c7 (sW 3) j4)<|c7 (sN x5<|c7 (sW 4) j4)<|c7 (sN x5<|c7 (sW 5) j4) j4)))
abbrev btD (b:Bt):Ac:=.tuple<|b.map cmD
abbrev stD (ps:List Pn):Ac:=.tuple<|ps.map pnD
def xj {c1 c2 c3:DE->M DV}{E:DE}{F:FdS}{i j k:Nat}{Q:Out->FdS->Prop}(h:wp (c1 E F) λx F1=>wp (c2 E F1) λy F2=>wp (c3 E F2) λz F3=>(i<E.length/\j<E.length/\k<E.length)/\Q (.nx<|((E.set i<|some x).set j<|some y).set k<|some z) F3):wp (iP i j k c1 c2 c3 E F) Q:=by
 unfold iP;rw[b8];refine j7 h λx F1 h1=>?_
 rw[b8];refine j7 h1 λy F2 h2=>?_
 rw[b8];refine j7 h2 λz F3 h3=>?_
 rw[Gp h3.1];exact b9.2 h3.2
def qq {ds:List Ac}{x:Ac}:ixD (.list<|ds++[x]) (.int (-1))=some x:=by
 show atI (ds++[x]) (-1)=some x;unfold atI;have e:ixN (ds++[x]).length (-1)=some ds.length:=by
  unfold ixN;rw[Gr (by decide),Gp (by simp only[Hm,GM,HR];omega)];congr 1;simp only[Hm,GM,HR];omega
 rw[e,GV,HV<|Gs _,Nat.sub_self];rfl
def zJ {way:List Bt}{i:Nat}{d:Ac}(h:(way.map btD)[i]? = some d):i<way.length/\d=btD (p6 way i):=by
 rw[GC]at h;obtain⟨b,e,rfl⟩:=Hd.1 h;obtain⟨hi,rfl⟩:=GE.1 e;exact⟨hi,by unfold p6;simp[hi]⟩
def vJ {way:List Bt}:C5 0 (way.map btD)=(List.range way.length).map λi=>.tuple [.int (i:Int),btD<|p6 way i]:=by
 have key:∀(l:List Ac) (k:Nat),C5 k l=(List.range l.length).map λi=>.tuple [.int ((k+i:Nat):Int),l.getD i .none]:=by
  intro l;induction l with
  | nil=>intro k;rfl
  | cons d l ih =>
   intro k;rw[C5,ih,GM,JC,GH,GL];have e1:(Ac.tuple [.int (k:Int),d]) = .tuple [.int ((k+0:Nat):Int),(d::l).getD 0 .none]:=by simp
   rw[<-e1];refine HJ (List.cons _) (GO λi _=>?_);simp only[Function.comp,JS,JT];rw[show k+1+i=k+(i+1) by omega]
 rw[key,Gi];refine GO λi hi=>?_
 have hi:=GJ.1 hi;rw[Hq,Gz,GC,Gm hi];unfold p6;rw[Gz,Gm hi];rfl
def gE {f:Nat->Ac}{n i:Nat}(h:i<n):atI ((List.range n).map f) (i:Int)=some (f i):=by
 refine dE ?_;rw[GC,Gm<|by simpa using h];simp
def mT {n i:Nat}{d:Ac}{f:Nat->Ac}(h:((List.range n).map f)[i]? = some d):i<n/\d=f i:=by
 rw[GC]at h;obtain⟨b,e,rfl⟩:=Hd.1 h;obtain⟨hi,rfl⟩:=GE.1 e;simp only[GB]at hi;exact⟨hi,by simp⟩
def jV (pl:Option Nat)(ps:List Pn)(bt:Bt):Nat:=bt.length-K8 pl ps.length bt.length
def eY (h k:Nat)(kp:Bool)(pl:Option Nat)(ps:List Pn)(bt:Bt):Nat:=(M8 (p0 h k kp<|A4 pl ps bt)<|A4 pl ps bt).length
section
variable {F:FdS}{Q:Ac->FdS->Prop}
def AR {r:Ac}{pl:Option Nat}{ps:List Pn}{way:List Bt}{h:Nat}(hr:r∈W8)(hp:∀i<way.length,mH pl (ao (P9 h (kOf r) (kb r) (tnB r) pl) ps way i).length)(hl:ps.length+f7 way<64)(hn:way.length<=1000)
  (q:Q (.tuple [.tuple<|(List.range<|way.length+1).map λi=>stD<|ao (P9 h (kOf r) (kb r) (tnB r) pl) ps way i,.tuple<|(List.range way.length).map λi=>.int (jV pl (ao (P9 h (kOf r) (kb r) (tnB r) pl) ps way i) (p6 way i):Nat),.tuple<|(List.range way.length).map λi=>.int (eY h (kOf r) (kb r) pl (ao (P9 h (kOf r) (kb r) (tnB r) pl) ps way i) (p6 way i):Nat)]) F) :
  wp (nY [.dat<|.tuple [.int (h:Int),plD pl,r],.dat<|.tuple<|way.map btD,.dat<|stD ps] F) Q:=by
 have hfit:=λi hi=>uQ (h:=h) (k:=kOf r) (kp:=kb r) (tn:=tnB r) (pl:=pl) (ps:=ps) (way:=way) hl (i:=i) hi
 have hsucc:=λi hi=>bS (f:=P9 h (kOf r) (kb r) (tnB r) pl) (ps:=ps) (way:=way) (i:=i) hi
 have hzero:=bX (f:=P9 h (kOf r) (kb r) (tnB r) pl) (ps:=ps) (way:=way);generalize ao (P9 h (kOf r) (kb r) (tnB r) pl) ps way=st at q hp hfit hsucc hzero;unfold nY;refine R9.2 ?_;dsimp only[v5,GH,HY,GM,HR,List.replicate,Hh,Ho,Nat.reduceAdd,Nat.reduceSub];refine j9.2 (xj<|qg<|O8.2<|c8.2<|v4.2<|u9 rfl<|d8.2 ⟨p8 rfl,qg<|O8.2<|d8.2 ⟨sz (by decide),qg<|O8.2<|d8.2 ⟨sz (by decide),⟨i8 rfl,i8 rfl,i8 rfl⟩,h7<|j9.2<|W4.2<|A5.2<|v4.2<|u9 rfl<|c9 Q4 ?_⟩⟩⟩);refine N7 (λm E F'=>F'=F/\∃o6 o7 o8 o9,E=[some<|.dat<|.tuple [.int (h:Int),plD pl,r],some<|.dat<|.tuple<|way.map btD,some<|.dat<|stD ps,some<|.own<|(List.range<|m+1).map λi=>stD<|st i,some<|.own<|(List.range m).map λi=>.int (jV pl (st i) (p6 way i):Nat),some<|.own<|(List.range m).map λi=>.int (eY h (kOf r) (kb r) pl (st i) (p6 way i):Nat),o6,o7,o8,o9]) _ 0 _ F ⟨rfl,none,none,none,none,by rw[<-hzero];rfl⟩ ?_ ?_
 .rintro m d e E F1 ⟨rfl,o6,o7,o8,o9,rfl⟩;rw[Hq];obtain⟨hm,rfl⟩:=zJ e;refine⟨_,rfl,?_⟩;have es:(List.range<|m+1).map (λi=>stD<|st i)=(List.range m).map (λi=>stD<|st i)++[stD<|st m]:=by rw[Ih,GS];rfl
  refine j9.2 (U8.2<|r6.2<|L1.2<|v4.2<|u9 rfl<|L1.2<|q4.2<|n5.2<|ai rfl<|wK.2<|n6.2<|c9 rfl ?_) ;rw[es];refine c9 qq<|L1.2<|v4.2<|u9 rfl<|x8.2 ?_;refine tF hr (hp m hm) (hfit m hm)<|c9 rfl<|h7 ?_;refine j9.2 (bh rfl (by simp;omega)<|v4.2<|u9 rfl<|h7 ?_);refine j9.2 (bh rfl (by simp;omega)<|v4.2<|u9 rfl<|h7 ?_);refine bh rfl (by simp;omega)<|J9.2<|c8.2<|n5.2<|t7 rfl<|d8.2<|c9 rfl ?_;have e3:(List.range<|m+1+1).map (λi=>stD<|st i)=(List.range m).map (λi=>stD<|st i)++[stD<|st m]++[stD<|st<|m+1]:=by rw[Ih,GS,es];rfl
  have e4:(List.range<|m+1).map (λi=>Ac.int (jV pl (st i) (p6 way i):Nat))=(List.range m).map (λi=>Ac.int (jV pl (st i) (p6 way i):Nat))++[.int (jV pl (st m) (p6 way m):Nat)]:=by rw[Ih,GS];rfl
  have e5:(List.range<|m+1).map (λi=>Ac.int (eY h (kOf r) (kb r) pl (st i) (p6 way i):Nat))=(List.range m).map (λi=>Ac.int (eY h (kOf r) (kb r) pl (st i) (p6 way i):Nat))++[.int (eY h (kOf r) (kb r) pl (st m) (p6 way m):Nat)]:=by rw[Ih,GS];rfl
  have e6:eY h (kOf r) (kb r) pl (st m) (p6 way m)=(i7<|M8 (p0 h (kOf r) (kb r)<|A4 pl (st m)<|p6 way m)<|A4 pl (st m)<|p6 way m).length:=by unfold eY;rw[v7]
  exact⟨_,rfl,rfl,_,_,_,_,by rw[e3,e4,e5,hsucc m hm,e6];rfl⟩
 .rintro E F1 ⟨rfl,o6,o7,o8,o9,rfl⟩;rw[Hq,Gi];refine h7 ?_;walk_at "go";exact q
end
variable [Fam]
variable [Fam]
def iF (nm:List Str):List DV->M Ac:=S4 nm (mSq (eC 3<|aH j4)
  (mSq (y3 4<|sC<|.int 0)
  (mSq (bE (eI<|c7 (l9 R0<|vF 0<|vD (s2 Q2 (sW 1)<|sC<|.int 1) A9) j4) (bN 5) (mSq (eC 6<|aH j4)
  (mSq (bE (eI<|c7 (s2 ixD (sC<|.list [.int 0,.int 0,.int 1,.int 1,.int 2,.int 3])<|l9 R0<|vF 0<|vD (sC<|.int 6) A9) j4) (bN 7) (mIf (uB<|s2 ltD (sW 4)<|sC<|.int 40) (mSq (bF 6<|M7<|c7 (l9 R0<|vF 0<|vD (sC<|.int 2) A9)<|c7 (s2 Q2 (sC<|.int 1)<|l9 R0<|vF 0<|vD (sV 2) A9) j4)
  (y3 4<|s2 Q2 (sW 4)<|sC<|.int 1)) mNx))
  (bF 3<|sN x5<|c7 (sW 6) j4))))
  (mRt<|sN x5<|c7 (sW 3) j4))))
abbrev nmB:List Str:=["_law_feed_here","_law_beats","_law_works","_law_way_here","_law_many","_law_k","_law_beat","_law_j"]
def zE (c:Int×Int):Prop:=0<=c.1/\c.1<=1/\1<=c.2/\c.2<=6
structure WayOk (n:Nat) (way:List Bt):Prop where
 len:way.length<=n
 many:f7 way<=40
 ok:∀b∈way,∀c∈b,zE c
def jh (way:List Bt)(b:Bt):f7 (way++[b])=f7 way+b.length:=by
 unfold f7;rw[GS,KO];rfl
def six {r:Int}(r0:0<=r)(r1:r<6):∃c:Nat,ixD (.list [.int 0,.int 0,.int 1,.int 1,.int 2,.int 3]) (.int r)=some (.int (c:Int))/\c<=3:=by
 have:r=0\/r=1\/r=2\/r=3\/r=4\/r=5:=by omega
 rcases this with rfl | rfl | rfl | rfl | rfl | rfl
 .exact⟨0,rfl,by decide⟩
 .exact⟨0,rfl,by decide⟩
 .exact⟨1,rfl,by decide⟩
 .exact⟨1,rfl,by decide⟩
 .exact⟨2,rfl,by decide⟩
 .exact⟨3,rfl,by decide⟩
def vg {nm:List Str}(hnm:nm.length=8){n w:Nat}(hn:n<=24)(w1:1<=w)(w2:w<=6):Tr (iF nm) [.feed,.dat<|.int (n:Int),.dat<|.int (w:Int)] 170 (λd=>∃way:List Bt,d = .tuple (way.map btD)/\WayOk n way):=Tr.of λF hF=>by
 unfold iF;refine R9.2 ?_;have es:v5 nm [.feed,.dat<|.int (n:Int),.dat<|.int (w:Int)]=[some .feed,some<|.dat<|.int (n:Int),some<|.dat<|.int (w:Int),none,none,none,none,none]:=by unfold v5;rw[hnm];rfl
 rw[es];walk_at "go";refine U1 (by omega) (by omega) (by omega) λr F1 r0 r1 t1=>?_
 refine d8.2 (c9 (mr (by omega)<|by omega) ?_);refine N7 (λm E F'=>F'.t<=F.t+1+7*m/\∃way:List Bt,∃o5 o6 o7,E=[some .feed,some<|.dat<|.int (n:Int),some<|.dat<|.int (w:Int),some<|.own<|way.map btD,some<|.dat<|.int (f7 way:Nat),o5,o6,o7]/\way.length=m/\f7 way<=40/\∀b∈way,∀c∈b,zE c) _ 0 _ F1 ⟨by omega,[],none,none,none,rfl,rfl,by decide,λb hb=>by cases hb⟩ ?_ ?_
 .rintro m d e E F2 ⟨t2,way,o5,o6,o7,rfl,hw,hm,ho⟩;have hi:=(GE.1 e).1;rw[aJ]at hi;refine⟨_,rfl,?_⟩;walk_at "go";refine U1 (by decide) (by decide) (by omega) λr2 F3 r20 r21 t3=>?_
  obtain⟨c,ec,hc⟩:=six r20 r21;refine c9 ec (d8.2<|c9 (mr (by omega)<|by omega) ?_);refine N7 (λj E F'=>F'.t<=F2.t+1+2*j/\∃bt:Bt,∃o5 o7,E=[some .feed,some<|.dat<|.int (n:Int),some<|.dat<|.int (w:Int),some<|.own<|way.map btD,some<|.dat<|.int (f7 way+bt.length:Nat),o5,some<|.own<|bt.map cmD,o7]/\bt.length<=j/\f7 way+bt.length<=40/\∀c∈bt,zE c) _ 0 _ F3 ⟨by omega,[],_,_,rfl,Gs _,hm,λb hb=>by cases hb⟩ ?_ ?_
  .rintro j d2 e2 E F4 ⟨t4,bt,o5,o7,rfl,hbl,hbm,hbo⟩;have hj:=(GE.1 e2).1;rw[aJ]at hj;refine⟨_,rfl,?_⟩;refine aK.2 (aa.2<|q4.2<|n5.2<|t7 rfl<|n6.2<|c9 rfl<|c9 rfl<|bg (λhc=>?_) λhc=>?_)
   .have hc:((f7 way+bt.length:Nat):Int)<40:=Hf hc;refine j9.2 (bh rfl (by rw[Gi];omega) ?_);walk_at "go";refine U1 (by decide) (by decide) (by omega) λa F5 a0 a1 t5=>?_
    walk_at "go";refine U1 (by omega) (by omega) (by omega) λb F6 b0 b1 t6=>?_
    walk_at "go";refine⟨_,rfl,by omega,bt++[(a,1+b)],o5,some<|.dat d2,?_,by simp;omega,by simp;omega,λc hc=>?_⟩
    .have e1:(f7 way+(bt++[(a,1+b)]).length:Nat)=(f7 way+bt.length)+1:=by simp;omega
     rw[e1,GS];rfl
    .rcases GP.1 hc with hc | hc
     .exact hbo c hc
     .simp only[HQ]at hc;subst hc;exact⟨a0,by show a<=1;omega,by show 1<=1+b;omega,by show 1+b<=6;omega⟩
   .exact gb.2 ⟨_,rfl,by omega,bt,_,_,rfl,by omega,hbm,hbo⟩
  .rintro E F4 ⟨t4,bt,o5,o7,rfl,hbl,hbm,hbo⟩;rw[aJ]at t4;refine h7 (bh rfl (by rw[Gi];omega) ?_);walk_at "go";refine⟨_,rfl,by omega,way++[bt],o5,some<|.own<|bt.map cmD,o7,?_,by simp[hw],by rw[jh];exact hbm,λb hb=>?_⟩
   .rw[jh,GS];rfl
   .rcases GP.1 hb with hb | hb
    .exact ho b hb
    .simp only[HQ]at hb;subst hb;exact hbo
 .rintro E F2 ⟨t2,way,o5,o6,o7,rfl,hw,hm,ho⟩;rw[aJ]at t2 hw;walk_at "go";exact⟨by omega,way,rfl,by omega,hm,ho⟩
variable [Fam]
def yG {i j:Int}(h0:-(2 ^ 62)<=i)(h1:i<2 ^ 62)(h2:-(2 ^ 62)<=j)(h3:j<2 ^ 62):iz [.int i,.int j]=some (V9 i (j-i).toNat):=Gp ⟨h0,h1,h2,h3⟩
def yu {me:DE->M Ac}{α:Type}{F:FdS}{x:α->Ac}{f:α->Ac}{rest:DE}{Q:List Ac->FdS->Prop}:∀(ds:List α) (o:Option DV),(∀d∈ds,∀(F:FdS) (Q:Ac->FdS->Prop),Q (f d) F->wp (me (some (.dat<|x d)::rest) F) Q)->Q (ds.map f) F->wp (V8 (bN 0) M5 me (ds.map x) (o::rest) F) Q:=λds o h q=>by
 have key:∀(l:List α) (o:Option DV) (Q:List Ac->FdS->Prop),(∀d∈l,d∈ds)->Q (l.map f) F->wp (V8 (bN 0) M5 me (l.map x) (o::rest) F) Q:=by
  intro l;induction l with
  | nil=>intro o Q _ q;exact b9.2 q
  | cons d l ih =>
   intro o Q hs q;rw[GH,V8];have e:bN 0 (x d) (o::rest)=some (some (.dat<|x d)::rest):=rfl;rw[e,GV,b8];refine ak.2 ?_;rw[Gp rfl,b8];refine h d (hs d Gx) F _ ?_;rw[b8];exact ih _ _ (λz hz=>hs z<|Gq _ hz)<|b9.2 q
 exact key ds o Q (λd hd=>hd) q
variable [Fam]
def D4:List DV->M Ac:=S4 ["course","waited","gone_at","word","beat","waits"] (mSq (bO (E8 3<|i5 (bN 3)<|i5 (bN 4)<|i5 (bN 5) G3)<|sV 0)
  (mSq (kO (λi j=>i+j) 5<|sIf (uT<|sW 1) (sC<|.int 1)<|sC<|.int 0)
  (mSq (mIf (uB<|s2 (isD false) (sW 2)<|sC .none) (mRt<|M7<|c7 (sV 3)<|c7 (sV 4)<|c7 (sV 5) j4) mNx)
  (mRt<|M7<|c7 (sC<|.str "gone")<|c7 (sV 4)<|c7 (sV 2)<|c7 (sV 5) j4))))
def Z8:List DV->M Ac:=S4 ["house","way","told","stand","inside","at","beat","filled","lost","entered","staying","hands_on","gone","place","number"] (mSq (eC 2<|aH j4)
  (mSq (fZ 3 4 (cD<|sC<|.tuple [])<|cO<|aH j4)
  (mSq (bE (X6<|sV 1) (E8 2<|i5 (bN 5)<|i5 (bN 6) G3) (mSq (bO (E8 2<|i5 (bN 7)<|i5 (bN 8) G3)<|l9 W2<|vD (sV 0)<|vD (sV 3)<|vD (sV 6) A9)
  (mSq (y3 9<|s2 mx (sN V0<|c7 (sW 6) j4)<|sW 8)
  (mSq (ie 4<|gv<|c7 (sN V0<|c7 (sW 2) j4)<|c7 (s2 Q2 (sN V0<|c7 (sW 2) j4)<|sW 9) j4)
  (mSq (ie 2<|s2 Q2 (s2 ag (oq<|c7 (M7<|c7 (sC<|.str "in")<|c7 (sV 5)<|c7 (sC<|.int 0) j4) j4)<|sW 9)<|s2 ag (oq<|c7 (M7<|c7 (sC<|.str "lost")<|c7 (sV 5) j4) j4)<|sW 8)
  (mSq (bO (E8 3<|i5 (bN 10)<|i5 (bN 11)<|i5 (bN 12) G3)<|l9 Y4<|vD (sV 0)<|vD (sV 7) A9)
  (mSq (jj 4<|bE (X6<|sV 4) (E8 2<|i5 (bN 13)<|i5 (bN 14) G3)<|vT 2 (l9 D4<|vD (s2 ixD (sW 2)<|sW 14)<|vD (s2 (inD true) (sW 13)<|sW 11)<|vD (sIf (uB<|s2 (inD false) (sW 13)<|sW 12) (s2 Q2 (sW 5)<|sC<|.int 1)<|sC .none) A9)<|sV 14)
  (mSq (eC 4<|fLC (N6<|sW 10) 2 [4] (E8 2<|i5 (bN 0)<|i5 (bN 1) G3) M5<|s2 ixD (sW 2)<|sW 0)
  (y3 3<|sN x5<|c7 (sLC (N6<|sW 10) 2 [] (E8 2<|i5 (bN 0)<|i5 (bN 1) G3) M5<|sV 1) j4)))))))))
  (mRt<|sW 2))))
def Ap {i:Nat}{m:DE->M Out}{E:DE}{F:FdS}{ds:List Ac}{Q:Out->FdS->Prop}(he:V2 E i=some ds)(q:wp (m (E.set i<|some<|.dat<|.list ds) F) Q):wp (jj i m E F) Q:=by
 unfold jj;rw[he,GV];exact q
def kD {f:Int->Int->Int}{i:Nat}{a:DE->M Ac}{E:DE}{F:FdS}{x:Int}{Q:Out->FdS->Prop}(he:E[i]? = some (some<|.dat<|.int x))(q:wp (a E F) λd F1=>∃y:Int,d = .int y/\Q (.nx<|E.set i<|some<|.dat<|.int<|f x y) F1):wp (kO f i a E F) Q:=by
 unfold kO;rw[he];dsimp only;rw[b8];refine j7 q λd F1 ⟨y,e,q⟩=>?_
 subst e;have hl:i<E.length:=(GE.1 he).1;have e2:bN i (.int<|f x y) E=some (E.set i<|some<|.dat<|.int<|f x y):=by unfold bN;rw[Gp hl]
 show wp ((bN i (.int<|f x y) E).bind _) Q;rw[e2];exact b9.2 q
def vH {a:DE->M (List Ac)}{E:DE}{F:FdS}{Q:Ac->FdS->Prop}(q:wp (a E F) λx F1=>oB (iz x) λds=>ds.length<=1000/\Q (.list ds) F1):wp (gv a E F) Q:=by
 unfold gv;rw[b8];refine j7 q λx F1 ⟨ds,e,h1,q⟩=>?_
 rw[e,GV,Gp h1];exact b9.2 q
def qr {d:Ac}{k:Nat}(h:k<=1000):ag (.list [d]) (.int (k:Int))=some (.list<|List.replicate k d):=by
 have e:(List.replicate ((k:Int)).toNat [d]).flatten=List.replicate k d:=by
  rw[HG];clear h;induction k with
  | zero=>rfl
  | succ k ih=>rw[Ht,HN,ih,Ht];rfl
 rw[<-e];have hz:[d].length*((k:Int)).toNat<=LM:=sz (by rw[HG];show 1*k<=_;omega);have h1:-(2 ^ 63)<=(k:Int):=by omega
 have h2:(k:Int)<2 ^ 63:=by omega
 generalize (k:Int)=i at hz h1 h2;exact Gp ⟨h1,h2,hz⟩
def yR {l:List Nat}{i:Nat}(hl:∀j∈l,j<=1000):inD false (.int (i:Int)) (.tuple<|i7 l)=some (.bool<|decide (i∈l)):=by
 have h:=cu (i:=i) hl;have hs:SeqAt.shaped (.tuple<|i7 l)=true:=(gB hl).shaped (by decide) (by decide);have hi:SeqAt.shaped (.int (i:Int))=true:=by simp[SeqAt.shaped,Ac.canLay0,Ac.depth]
 have e1:inD true (.int (i:Int)) (.tuple<|i7 l)=some (.bool (!((i7 l).any λy=>y.eqv<|.int (i:Int)))):=by
  show(if SeqAt.shaped (.tuple<|i7 l)=true/\SeqAt.shaped (.int (i:Int))=true then _ else none)=_;rw[Gp ⟨hs,hi⟩,Gp rfl]
 rw[e1]at h;have e2:inD false (.int (i:Int)) (.tuple<|i7 l)=some (.bool<|(i7 l).any λy=>y.eqv<|.int (i:Int)):=by
  show(if SeqAt.shaped (.tuple<|i7 l)=true/\SeqAt.shaped (.int (i:Int))=true then _ else none)=_;rw[Gp ⟨hs,hi⟩,Gr<|by decide]
 rw[e2];have h3:(!((i7 l).any λy=>y.eqv<|.int (i:Int))) = !decide (i∈l):=by
  injection h with h
  injection h
 have h4:((i7 l).any λy=>y.eqv<|.int (i:Int))=decide (i∈l):=by
  generalize ((i7 l).any λy=>y.eqv<|.int (i:Int))=x at h3;generalize decide (i∈l)=y at h3;cases x <;> cases y <;> simp_all
 rw[h4]
abbrev jI (a w:Nat):Ac:=.tuple [.str "in",.int (a:Int),.int (w:Int)]
abbrev goD (a m w:Nat):Ac:=.tuple [.str "gone",.int (a:Int),.int (m:Int),.int (w:Int)]
section
variable {F:FdS}{Q:Ac->FdS->Prop}
def qA {a w:Nat}{b:Bool}(q:Q (jI a<|w+if b then 1 else 0) F):wp (D4 [.dat<|jI a w,.dat<|.bool b,.dat .none] F) Q:=by
 unfold D4;refine R9.2 ?_;dsimp only[v5,GH,HY,GM,HR,List.replicate,Hh,Ho,Nat.reduceAdd,Nat.reduceSub];refine j9.2 (U8.2<|v4.2<|u9 rfl<|c9 rfl<|h7<|j9.2<|kD (x:=(w:Int)) rfl<|fI.2<|wb.2<|n5.2<|t7 rfl<|c9 rfl<|bg (λhb=>?_) λhb=>?_)
 .refine n6.2 ⟨1,rfl,h7<|j9.2<|aK.2<|aa.2<|q4.2<|n5.2<|t7 rfl<|n6.2<|c9 rfl<|c9 rfl<|N2 rfl ?_⟩;rw[hb,Gp rfl]at q;exact P2.2<|C2.2<|c8.2<|v4.2<|u9 rfl<|c8.2<|v4.2<|u9 rfl<|c8.2<|v4.2<|u9 rfl<|d8.2 ⟨p8 rfl,qH<|O4 q⟩
 .refine n6.2 ⟨0,rfl,h7<|j9.2<|aK.2<|aa.2<|q4.2<|n5.2<|t7 rfl<|n6.2<|c9 rfl<|c9 rfl<|N2 rfl ?_⟩;rw[hb,Gr<|by simp]at q;have e:(w:Int)+0=((w+0:Nat):Int):=by omega
  rw[<-show((w+0:Nat):Int)=(w:Int)+0 from by omega] at *;exact P2.2<|C2.2<|c8.2<|v4.2<|u9 rfl<|c8.2<|v4.2<|u9 rfl<|c8.2<|v4.2<|u9 rfl<|d8.2 ⟨p8 rfl,qH<|O4 q⟩
def lr {a w m:Nat}(q:Q (goD a m w) F):wp (D4 [.dat<|jI a w,.dat<|.bool false,.dat<|.int (m:Int)] F) Q:=by
 unfold D4;refine R9.2 ?_;dsimp only[v5,GH,HY,GM,HR,List.replicate,Hh,Ho,Nat.reduceAdd,Nat.reduceSub];refine j9.2<|U8.2<|v4.2<|u9 rfl<|c9 rfl<|h7<|j9.2<|kD (x:=(w:Int)) rfl<|fI.2<|wb.2<|n5.2<|t7 rfl<|c9 rfl<|l7 rfl<|n6.2 ⟨0,rfl,h7<|j9.2<|aK.2<|aa.2<|q4.2<|n5.2<|t7 rfl<|n6.2<|c9 rfl<|c9 rfl<|l7 rfl<|gb.2<|h7 ?_⟩;exact P2.2 (C2.2<|c8.2<|n6.2<|c8.2<|v4.2<|u9 rfl<|c8.2<|v4.2<|u9 rfl<|c8.2<|v4.2<|u9 rfl<|d8.2 ⟨p8 rfl,O4 (by rw[Int.add_zero];exact q)⟩)
end
end
section
def d0 (way:List Bt)(m:Nat):Nat:=f7<|way.take m
def rkW (way:List Bt)(n:Nat):Int:=(way.flatten.getD n (0,0)).1
def wkW (way:List Bt)(n:Nat):Int:=(way.flatten.getD n (0,0)).2
def arW (way:List Bt)(n:Nat):Nat:=((List.range way.length).filter λm=>decide (d0 way (m+1)<=n)).length
def D3 {way:List Bt}{m:Nat}(h:m<way.length):d0 way (m+1)=d0 way m+(p6 way m).length:=R8 h
def S7 (way:List Bt)(m:Nat):d0 way m<=d0 way (m+1):=by
 by_cases h:m<way.length
 .rw[D3 h];omega
 .unfold d0;rw[HD (by omega),HD<|by omega];exact Gs _
def U6 (way:List Bt)(m:Nat):d0 way m<=f7 way:=dD way m
def G0 (l:List Bt):l.flatten.length=f7 l:=by
 unfold f7;rw[List.length_flatten]
def rp {way:List Bt}{m j:Nat}(hm:m<way.length)(hj:j<(p6 way m).length):way.flatten.getD (d0 way m+j) (0,0)=(p6 way m).getD j (0,0):=by
 have e:way=way.take m++p6 way m::way.drop (m+1):=by
  unfold p6;have:way.getD m []=way[m]:=by simp[hm]
  rw[this];simp
 have e2:way.flatten=(way.take m).flatten++(p6 way m++(way.drop<|m+1).flatten):=by
  conv=>lhs;rw[e]
  rw[KU,HN]
 rw[e2,Gz,HV (by rw[G0];unfold d0;omega),G0];have e3:d0 way m+j-f7 (way.take m)=j:=by unfold d0;omega
 rw[e3,ID hj,Gz]
theorem dy (m:Nat):∀N,m<=N->((List.range N).filter λk=>decide (k<m)).length=m
 | 0,h=>by
  have:m=0:=by omega
  subst this;rfl
 | N+1,h=>by
  rw[Ih,HZ,Hm];by_cases hz:m<=N
  .rw[dy m N hz,Hw<|by simpa using hz];rfl
  .have hm:m=N+1:=by omega
   subst hm;have e:((List.range N).filter λk=>decide (k<N+1))=List.range N:=JU.2 λa ha=>GX (by have:=GJ.1 ha;omega)
   rw[e,Hv<|by simp];simp
def dk {f:Nat->Nat}(h:∀m,f m<=f (m+1)){a b:Nat}(hab:a<=b):f a<=f b:=by
 obtain⟨k,rfl⟩:=Nat.le.dest hab;induction k with
 | zero=>exact Gs _
 | succ k ih=>exact He (ih<|by omega)<|h _
def ee {way:List Bt}{m n:Nat}(hm:m<way.length)(h1:d0 way m<=n)(h2:n<d0 way (m+1)):arW way n=m:=by
 unfold arW;have e:((List.range way.length).filter λk=>decide (d0 way (k+1)<=n))=(List.range way.length).filter λk=>decide (k<m):=by
  refine Jl λk hk=>?_
  rw[IR];constructor
  .intro z;refine Nat.lt_of_not_le λhle=>?_
   have:=dk (S7 way) (show m+1<=k+1 by omega);omega
  .intro z;have:=dk (S7 way) (show k+1<=m by omega);omega
 rw[e,dy m way.length<|by omega]
section
variable (h:Nat)(way:List Bt)
abbrev LW (m n:Nat):Int:=fL h (d0 way) (wkW way) m n
def coW (m n:Nat):Ac:=if 0<LW h way m n then jI (arW way n) (fW h (d0 way) (wkW way) m n) else goD (arW way n) (fM h (d0 way) (wkW way) m n) (fW h (d0 way) (wkW way) m n)
abbrev cX (m:Nat):List Nat:=j3 (d0 way m)<|LW h way m
abbrev psW (m:Nat):List Pn:=(cX h way m).map<|psn (rkW way) (LW h way m)<|wkW way
end
def W1s (way:List Bt):Prop:=∀b∈way,∀c∈b,1<=c.2
def T9 {way:List Bt}(hw:W1s way){n:Nat}(hn:n<f7 way):1<=wkW way n:=by
 rw[<-G0]at hn;unfold wkW;have e:way.flatten.getD n (0,0)=way.flatten[n]:=by rw[Gz,Gm hn];rfl
 rw[e];obtain⟨b,hb,hc⟩:=List.mem_flatten.1<|Ir hn;exact hw b hb _ hc
def rj {way:List Bt}(hw:W1s way)(n:Nat):0<=wkW way n:=by
 by_cases hn:n<f7 way
 .have:=T9 hw hn;omega
 .unfold wkW;rw[<-G0]at hn;have e:way.flatten.getD n (0,0)=(0,0):=by rw[Gz,HS<|Lm.1 hn];rfl
  rw[e];exact Ja _
theorem dF {h:Nat}{way:List Bt}:∀{m n:Nat},d0 way m<=n->LW h way m n=wkW way n/\fW h (d0 way) (wkW way) m n=0
 | 0,n,_=>⟨rfl,rfl⟩
 | m+1,n,hn=>by
  have hm:=S7 way m;obtain⟨i1,i2⟩:=dF (h:=h) (way:=way) (m:=m) (n:=n) (by omega);have hp:¬pkd h (d0 way<|m+1) (fL h (d0 way) (wkW way) m) n=true:=λe=>by have:=(Z0 e).1;omega
  have hpr:prs (d0 way<|m+1) (fL h (d0 way) (wkW way) m) n=false:=by unfold prs;simp[Lm.2 hn]
  refine⟨?_,?_⟩
  .show nxt _ _ _ n=_;unfold nxt;rw[Gr hp];exact i1
  .rw[fW,Gr<|by simp[hpr]];exact i2
section
variable {h:Nat}{way:List Bt}{m:Nat}
def bA (a b:Nat):List.range (a+b)=List.range a++(List.range b).map (a + ·):=List.range_add ..
def jA (hw:W1s way)(hm:m<way.length):j3 (d0 way<|m+1) (LW h way m)=cX h way m++(List.range (p6 way m).length).map (d0 way m + ·):=by
 unfold cX j3;rw[D3 hm,bA,HZ];congr 1;refine JU.2 λn hn=>?_
 obtain⟨j,hj,rfl⟩:=GW.1 hn;have hj:=GJ.1 hj;have e:=(dF (h:=h) (way:=way) (m:=m) (n:=d0 way m+j)<|by omega).1;have h2:=U6 way<|m+1;rw[D3 hm]at h2;have:=T9 hw (n:=d0 way m+j) (by omega);exact GX (by rw[e];omega)
def sU (hw:W1s way)(hm:m<way.length):A4 none (psW h way m) (p6 way m)=(j3 (d0 way<|m+1)<|LW h way m).map (psn (rkW way) (LW h way m)<|wkW way):=by
 rw[cc,jA hw hm,GS];congr 1;rw[GL];have e:=S9 ((0:Int),(0:Int)) (λc:Int×Int=>((c.1,c.2,false):Pn))<|p6 way m;rw[<-e];refine GO λj hj=>?_
 have hj:=GJ.1 hj;have e1:=rp hm hj;have e2:=(dF (h:=h) (way:=way) (m:=m) (n:=d0 way m+j)<|by omega).1;show _=psn (rkW way) (LW h way m) (wkW way) (d0 way m+j);unfold psn;rw[e2,Hx<|Int.lt_irrefl _];unfold rkW wkW;rw[e1]
def qi (hw:W1s way)(hm:m<way.length):(List.range<|d0 way m).map (coW h way m)++List.replicate (p6 way m).length (jI m 0)=(List.range<|d0 way<|m+1).map (coW h way m):=by
 rw[D3 hm,bA,GS];congr 1;rw[GL];refine(JI.2 ⟨by simp,λd hd=>?_⟩).symm;obtain⟨j,hj,rfl⟩:=GW.1 hd;have hj:=GJ.1 hj;obtain⟨e1,e2⟩:=dF (h:=h) (way:=way) (m:=m) (n:=d0 way m+j) (by omega);have h2:=U6 way<|m+1;rw[D3 hm]at h2;have h3:=T9 hw (n:=d0 way m+j) (by omega);have e3:arW way (d0 way m+j)=m:=ee hm (by omega) (by rw[D3 hm];omega);show coW h way m (d0 way m+j)=_;unfold coW;rw[Gp (by rw[e1];omega),e2,e3]
def wq {i:Nat}(hi:i<(j3 (d0 way<|m+1)<|LW h way m).length)(n:Nat)(hn:n=(j3 (d0 way<|m+1)<|LW h way m)[i]) :
  coW h way m n=jI (arW way n) (fW h (d0 way) (wkW way) m n)/\((i<h/\LW h way m n<=1/\coW h way (m+1) n=goD (arW way n) (m+1) (fW h (d0 way) (wkW way) m n))\/(¬(i<h/\LW h way m n<=1)/\coW h way (m+1) n=jI (arW way n) (fW h (d0 way) (wkW way) m n+if !decide (i<h) then 1 else 0))):=by
 have hmem:=GU.1<|Ir hi;have hpos:=Hf hmem.2;have hlt:=GJ.1 hmem.1;have hpk:=dq (h:=h) hi;rw[<-hn]at hpos hlt hpk;have hpr:prs (d0 way<|m+1) (LW h way m) n=true:=by unfold prs;simp[hlt,hpos]
 refine⟨by unfold coW;rw[Gp hpos],?_⟩;by_cases hh:i<h
 .have hp:pkd h (d0 way<|m+1) (LW h way m) n=true:=by rw[hpk];exact GX hh
  have eL:LW h way (m+1) n=LW h way m n-1:=by
   show nxt _ _ _ n=_;unfold nxt;rw[Gp hp]
  have eW:fW h (d0 way) (wkW way) (m+1) n=fW h (d0 way) (wkW way) m n:=by rw[fW,Gr (by rw[show pkd h (d0 way<|m+1) (fL h (d0 way) (wkW way) m) n=true from hp];simp)]
  by_cases h2:LW h way m n<=1
  .have eM:fM h (d0 way) (wkW way) (m+1) n=m+1:=by rw[fM,Gp ⟨hp,h2⟩]
   refine .inl ⟨hh,h2,?_⟩;unfold coW;rw[Gr (by omega),eM,eW]
  .refine .inr ⟨λz=>h2 z.2,?_⟩;unfold coW;rw[Gp (by omega),eW];simp[hh]
 .have hp:¬pkd h (d0 way<|m+1) (LW h way m) n=true:=by rw[hpk];simpa using hh
  have eL:LW h way (m+1) n=LW h way m n:=by
   show nxt _ _ _ n=_;unfold nxt;rw[Gr hp]
  have eW:fW h (d0 way) (wkW way) (m+1) n=fW h (d0 way) (wkW way) m n+1:=by
   rw[fW,Gp (by
    have e1:prs (d0 way<|m+1) (fL h (d0 way) (wkW way) m) n=true:=hpr;have e2:pkd h (d0 way<|m+1) (fL h (d0 way) (wkW way) m) n=false:=by
     cases hq:pkd h (d0 way<|m+1) (fL h (d0 way) (wkW way) m) n with
     | true=>exact absurd hq hp
     | false=>rfl
    rw[e1,e2];rfl)]
  refine .inr ⟨λz=>hh z.1,?_⟩;unfold coW;rw[Gp (by omega),eW];simp[hh]
def xb {n:Nat}(hn:¬0<LW h way m n):coW h way (m+1) n=coW h way m n:=by
 have hp:¬pkd h (d0 way<|m+1) (LW h way m) n=true:=λe=>hn (Z0 e).2.1
 have hpr:prs (d0 way<|m+1) (LW h way m) n=false:=by unfold prs;simp only[Bool.and_eq_false_iff,decide_eq_false_iff_not];exact .inr hn
 have eL:LW h way (m+1) n=LW h way m n:=by
  show nxt _ _ _ n=_;unfold nxt;rw[Gr hp]
 have eW:fW h (d0 way) (wkW way) (m+1) n=fW h (d0 way) (wkW way) m n:=by
  rw[fW,Gr (by rw[show prs (d0 way<|m+1) (fL h (d0 way) (wkW way) m) n=false from hpr];simp)]
 have eM:fM h (d0 way) (wkW way) (m+1) n=fM h (d0 way) (wkW way) m n:=by rw[fM,Gr λz=>hp z.1]
 unfold coW;rw[eL,eW,eM]
end
end
section
variable [Fam]
abbrev fiD (h:Nat):Ac:=.tuple [.int (h:Int),.none,.str "first"]
section
variable {F:FdS}{Q:Ac->FdS->Prop}
def rK (a b:Nat):V9 (a:Int) b=i7 ((List.range b).map (a + ·)):=by
 unfold V9 i7;rw[GL];refine GO λi _=>?_
 show Ac.int ((a:Int)+(i:Int)) = .int ((a+i:Nat):Int);have e2:((a+i:Nat):Int)=(a:Int)+(i:Int):=by omega
 rw[e2]
def pS (l:List Nat):C5 0 (i7 l)=(List.range l.length).map λi=>.tuple [.int (i:Int),.int (l.getD i 0:Nat)]:=by
 have key:∀(l:List Ac) (k:Nat),C5 k l=(List.range l.length).map λi=>.tuple [.int ((k+i:Nat):Int),l.getD i .none]:=by
  intro l;induction l with
  | nil=>intro k;rfl
  | cons d l ih =>
   intro k;rw[C5,ih,GM,JC,GH,GL];have e1:(Ac.tuple [.int (k:Int),d]) = .tuple [.int ((k+0:Nat):Int),(d::l).getD 0 .none]:=by simp
   rw[<-e1];refine HJ (List.cons _) (GO λi _=>?_);simp only[Function.comp,JS,JT];rw[show k+1+i=k+(i+1) by omega]
 rw[key,v7];refine GO λi hi=>?_
 have hi:=GJ.1 hi;unfold i7;rw[Hq,Gz,GC,Gm hi,Gz,Gm hi];rfl
def oP {h:Nat}{way:List Bt}(hw:W1s way)(hl:f7 way<64)(hn:way.length<=1000)(q:Q (.list<|(List.range<|d0 way way.length).map<|coW h way way.length) F) :
  wp (Z8 [.dat<|fiD h,.dat<|.tuple<|way.map btD] F) Q:=by
 have hr:(Ac.str "first")∈W8:=by simp[W8]
 have ek:kOf (.str "first")=0:=by decide
 have eb:kb (.str "first")=true:=by decide
 have et:tnB (.str "first")=false:=by decide
 unfold Z8;refine R9.2 ?_;dsimp only[v5,GH,HY,GM,HR,List.replicate,Hh,Ho,Nat.reduceAdd,Nat.reduceSub];refine j9.2 (cw.2<|O8.2<|d8.2 ⟨sz (by decide),i8 rfl,h7<|j9.2<|tq<|Cp<|n6.2<|qg<|O8.2<|d8.2 ⟨sz (by decide),⟨i8 rfl,i8 rfl⟩,h7<|j9.2<|W4.2<|gI<|v4.2<|u9 rfl<|c9 Q4 ?_⟩⟩);rw[vJ];refine js (λm E F'=>F'=F/\∃o5 o6 o7 o8 o9 o10 o11 o12 o13 o14,E=[some<|.dat<|fiD h,some<|.dat<|.tuple<|way.map btD,some<|.own<|(List.range<|d0 way m).map<|coW h way m,some<|.dat<|stD<|psW h way m,some<|.own<|i7<|cX h way m,o5,o6,o7,o8,o9,o10,o11,o12,o13,o14]) _ 0 _ F ⟨rfl,none,none,none,none,none,none,none,none,none,none,rfl⟩ ?_ ?_
 .rintro R m d e E F1 ⟨rfl,o5,o6,o7,o8,o9,o10,o11,o12,o13,o14,rfl⟩ hR;rw[Hq]at hR ⊢;obtain⟨hm,rfl⟩:=mT e;have hcs:=D3 hm;have hcl:=U6 way<|m+1;have hil:(cX h way m).length<=d0 way m:=by
   have:=Hj (λn=>decide (0<LW h way m n))<|List.range<|d0 way m;rw[GB]at this;exact this
  have hpl:(psW h way m).length<=d0 way m:=by rw[Gi];exact hil
  have hi1:(j3 (d0 way<|m+1)<|LW h way m).length<=d0 way (m+1):=by
   have:=Hj (λn=>decide (0<LW h way m n))<|List.range<|d0 way<|m+1;rw[GB]at this;exact this
  have Fi:L3.Fi (LW h way m) (wkW way):=nr (h:=h) (cnt:=d0 way) (w:=wkW way) m;refine⟨_,rfl,?_⟩;refine j9.2<|U8.2<|r6.2<|L1.2<|v4.2<|u9 rfl<|L1.2<|v4.2<|u9 rfl<|L1.2<|v4.2<|u9 rfl<|x8.2 ?_;refine ki (pl:=none) (ps:=psW h way m) (bt:=p6 way m) (λv hv=>by cases hv) (by omega)<|c9 rfl<|h7 ?_;have e0:(p6 way m).length-K8 none (psW h way m).length (p6 way m).length=0:=Nat.sub_self _;rw[sU hw hm,e0];refine j9.2<|A8.2<|q4.2<|J9.2<|c8.2<|n5.2<|t7 rfl<|d8.2<|c9 U3<|n5.2<|t7 rfl<|c9 iD ⟨i8 rfl,h7 ?_⟩;rw[Gi];have eb1:(((p6 way m).length:Nat):Int)-((0:Nat):Int)=((p6 way m).length:Nat):=by omega
  rw[eb1];refine j9.2<|rB rfl<|vH<|c8.2<|J9.2<|c8.2<|n5.2<|ai rfl<|d8.2<|c9 kC<|c8.2<|q4.2<|J9.2<|c8.2<|n5.2<|ai rfl<|d8.2<|c9 kC<|n5.2<|t7 rfl<|c9 cb<|d8.2 ?_;rw[Gi,GB];refine c9 (yG (by omega) (by omega) (by omega)<|by omega) ?_;have er:((((d0 way m:Nat):Int)+((p6 way m).length:Nat))-((d0 way m:Nat):Int)).toNat=(p6 way m).length:=by omega
  rw[er,rK];refine⟨by rw[v7];simp;omega,_,rfl,by rw[v7,v7];simp;omega,h7 ?_⟩;have ei:i7 (cX h way m)++i7 ((List.range (p6 way m).length).map (d0 way m + ·))=i7 (j3 (d0 way<|m+1)<|LW h way m):=by
   rw[jA hw hm];unfold i7;rw[GS]
  rw[ei];refine j9.2 (rB rfl<|q4.2<|q4.2<|iL.2<|c8.2<|C2.2<|c8.2<|n6.2<|c8.2<|v4.2<|u9 rfl<|c8.2<|n6.2<|d8.2 ⟨p8 rfl,d8.2 ⟨p8 rfl,n5.2<|t7 rfl<|c9 (qr<|by omega) ?_⟩⟩);refine q4.2 (iL.2<|c8.2<|C2.2<|c8.2<|n6.2<|c8.2<|v4.2<|u9 rfl<|d8.2 ⟨p8 rfl,d8.2 ⟨p8 rfl,n5.2<|t7 rfl<|c9 (qr (k:=0)<|by omega) ?_⟩⟩);refine c9 (yO (by simp;omega)) ⟨_,rfl,by simp;omega,h7 ?_⟩;have et1:(List.range<|d0 way m).map (coW h way m)++(List.replicate (p6 way m).length (Ac.tuple [.str "in",.int (m:Int),.int 0])++List.replicate 0 (Ac.tuple [.str "lost",.int (m:Int)]))=(List.range<|d0 way<|m+1).map (coW h way m):=by
   rw[List.replicate_zero,HE];exact qi hw hm
  rw[et1];refine j9.2<|U8.2<|r6.2<|L1.2<|v4.2<|u9 rfl<|L1.2<|v4.2<|u9 rfl<|x8.2 ?_;refine kh (h:=h) (pl:=.none) hr (by rw[Gi];omega)<|c9 rfl<|h7 ?_;rw[ek,eb,et];have hpk:=U0 (h:=h) (c:=d0 way<|m+1) (rk:=rkW way) Fi;have hgn:∀i,i<(j3 (d0 way<|m+1)<|LW h way m).length->(i∈M8 (p0 h 0 true<|(j3 (d0 way<|m+1)<|LW h way m).map<|psn (rkW way) (LW h way m)<|wkW way) ((j3 (d0 way<|m+1)<|LW h way m).map<|psn (rkW way) (LW h way m)<|wkW way)↔i<h/\LW h way m ((j3 (d0 way<|m+1)<|LW h way m).getD i 0)<=1):=λi hi=>by
   unfold M8;rw[GU,hpk,II,bq hi];have eg:(j3 (d0 way<|m+1)<|LW h way m).getD i 0=(j3 (d0 way<|m+1)<|LW h way m)[i]:=by rw[Gz,Gm hi];rfl
   rw[eg];exact⟨λz=>⟨z.1.2,z.2⟩,λz=>⟨⟨hi,z.1⟩,z.2⟩⟩
  have hst:=fN (h:=h) (c:=d0 way<|m+1) (rk:=rkW way) Fi;have haf:=eD (h:=h) (c:=d0 way<|m+1) (rk:=rkW way) Fi;have hPs:∀j∈p0 h 0 true ((j3 (d0 way<|m+1)<|LW h way m).map<|psn (rkW way) (LW h way m)<|wkW way),j<=1000:=λj hj=>by have:=(hpk j).1 hj;omega
  have hGs:∀j∈M8 (p0 h 0 true<|(j3 (d0 way<|m+1)<|LW h way m).map<|psn (rkW way) (LW h way m)<|wkW way) ((j3 (d0 way<|m+1)<|LW h way m).map<|psn (rkW way) (LW h way m)<|wkW way),j<=1000:=λj hj=>hPs j (GU.1 hj).1
  have hstl:(B9 false (p0 h 0 true<|(j3 (d0 way<|m+1)<|LW h way m).map<|psn (rkW way) (LW h way m)<|wkW way)<|(j3 (d0 way<|m+1)<|LW h way m).map<|psn (rkW way) (LW h way m)<|wkW way).length<=1000:=by
   have:=HJ List.length hst;rw[Gi]at this;rw[this];have h9:=Hj (λn=>decide (0<nxt h (d0 way<|m+1) (LW h way m) n))<|List.range<|d0 way<|m+1;rw[GB]at h9;unfold j3;omega
  have hsti:∀i∈B9 false (p0 h 0 true<|(j3 (d0 way<|m+1)<|LW h way m).map<|psn (rkW way) (LW h way m)<|wkW way) ((j3 (d0 way<|m+1)<|LW h way m).map<|psn (rkW way) (LW h way m)<|wkW way),i<(j3 (d0 way<|m+1)<|LW h way m).length:=λi hi=>by
   have:=(va R5 M6 hi).1;rwa [Gi]at this
  unfold after at haf;generalize hP:p0 h 0 true ((j3 (d0 way<|m+1)<|LW h way m).map<|psn (rkW way) (LW h way m)<|wkW way)=P at hpk hgn hst haf hPs hGs hstl hsti;generalize hG:M8 P ((j3 (d0 way<|m+1)<|LW h way m).map<|psn (rkW way) (LW h way m)<|wkW way)=G at hgn hGs;generalize hS:B9 false P ((j3 (d0 way<|m+1)<|LW h way m).map<|psn (rkW way) (LW h way m)<|wkW way)=S at hst haf hstl hsti;generalize hT:G9 P true ((j3 (d0 way<|m+1)<|LW h way m).map<|psn (rkW way) (LW h way m)<|wkW way)=T at haf;have hstep:=λi hi=>wq (h:=h) (way:=way) (m:=m) (i:=i) hi
  have hnd:=lu (d0 way<|m+1)<|LW h way m;have hlt1:∀n∈j3 (d0 way<|m+1) (LW h way m),n<d0 way (m+1):=λn hn=>GJ.1 (GU.1 hn).1
  have hpos1:∀n,n<d0 way (m+1)->n ∉ j3 (d0 way<|m+1) (LW h way m)->¬0<LW h way m n:=λn hn hni hz=>hni<|GU.2 ⟨GJ.2 hn,GX hz⟩
  have hnext:j3 (d0 way<|m+1) (nxt h (d0 way<|m+1)<|LW h way m)=cX h way (m+1):=rfl;rw[hnext]at hst haf;generalize hl1:j3 (d0 way<|m+1) (LW h way m)=l at *;refine j9.2<|Ap rfl<|W4.2<|gI<|v4.2<|u9 rfl<|c9 L0 ?_;rw[pS];refine js (λp E F'=>F'=F1/\∃o13 o14,E=[some<|.dat<|fiD h,some<|.dat<|.tuple<|way.map btD,some<|.own<|(List.range<|d0 way<|m+1).map λn=>if n∈l.take p then coW h way (m+1) n else coW h way m n,some<|.dat<|stD<|psW h way m,some<|.dat<|.list<|i7 l,some<|.dat<|.int (m:Int),some<|.dat<|btD<|p6 way m,some<|.dat<|.tuple<|(l.map<|psn (rkW way) (LW h way m)<|wkW way).map pnD,some<|.dat<|.int ((0:Nat):Int),some<|.dat<|.int ((p6 way m).length:Nat),some<|.dat<|.list<|S.map λi=>prD (i,T i),some<|.dat<|.tuple<|i7 P,some<|.dat<|.tuple<|i7 G,o13,o14]) _ 0 _ F1 ⟨rfl,o13,o14,?_⟩ ?_ ?_
  .have e1:((List.range<|d0 way<|m+1).map λn=>if n∈l.take 0 then coW h way (m+1) n else coW h way m n)=(List.range<|d0 way<|m+1).map (coW h way m):=GO λn _=>by simp
   rw[e1];rfl
  .rintro R2 p d2 e2 E F2 ⟨rfl,o13,o14,rfl⟩ hR2;rw[Hq]at hR2 ⊢;obtain⟨hp,rfl⟩:=mT e2;have eg:l.getD p 0=l[p]:=by rw[Gz,Gm hp];rfl
   have hnl:=hlt1 l[p]<|Ir hp;obtain⟨s1,s2⟩:=hstep p hp l[p] rfl;refine⟨_,rfl,(yJ rfl).2 ?_⟩;rw[eg];have hnot:l[p] ∉ l.take p:=λz=>by
    obtain⟨j,hj,ej⟩:=KW z;rw[List.getElem_take]at ej;have hj2:j<p:=by simp at hj;omega
    exact absurd ((Iy.1 hnd |> HI.1) j p (by omega) hp hj2) (by simp[ej])
   have eat:ixD (.list<|(List.range<|d0 way<|m+1).map λn=>if n∈l.take p then coW h way (m+1) n else coW h way m n) (.int (l[p]:Nat))=some (jI (arW way l[p])<|fW h (d0 way) (wkW way) m l[p]):=by
    rw[<-s1];have:=gE (f:=λn=>if n∈l.take p then coW h way (m+1) n else coW h way m n) (n:=d0 way<|m+1) (i:=l[p]) hnl;rw[Gr hnot]at this;exact this
   have done:∀(y:Ac) (F3:FdS),F3=F2->y=coW h way (m+1) l[p]->wp (sV 14 [some<|.dat<|fiD h,some<|.dat<|.tuple<|way.map btD,some<|.own<|(List.range<|d0 way<|m+1).map λn=>if n∈l.take p then coW h way (m+1) n else coW h way m n,some<|.dat<|stD<|psW h way m,some<|.dat<|.list<|i7 l,some<|.dat<|.int (m:Int),some<|.dat<|btD<|p6 way m,some<|.dat<|.tuple<|(l.map<|psn (rkW way) (LW h way m)<|wkW way).map pnD,some<|.dat<|.int ((0:Nat):Int),some<|.dat<|.int ((p6 way m).length:Nat),some<|.dat<|.list<|S.map λi=>prD (i,T i),some<|.dat<|.tuple<|i7 P,some<|.dat<|.tuple<|i7 G,some<|.dat<|.int (p:Int),some<|.dat<|.int (l[p]:Nat)] F3) λz F4=>oB (C1 z) λn=>oB (ixN ((List.range<|d0 way<|m+1).map λn=>if n∈l.take p then coW h way (m+1) n else coW h way m n).length n) λj=>R2 (Out.nx<|([some<|.dat<|fiD h,some<|.dat<|.tuple<|way.map btD,some<|.own<|(List.range<|d0 way<|m+1).map λn=>if n∈l.take p then coW h way (m+1) n else coW h way m n,some<|.dat<|stD<|psW h way m,some<|.dat<|.list<|i7 l,some<|.dat<|.int (m:Int),some<|.dat<|btD<|p6 way m,some<|.dat<|.tuple<|(l.map<|psn (rkW way) (LW h way m)<|wkW way).map pnD,some<|.dat<|.int ((0:Nat):Int),some<|.dat<|.int ((p6 way m).length:Nat),some<|.dat<|.list<|S.map λi=>prD (i,T i),some<|.dat<|.tuple<|i7 P,some<|.dat<|.tuple<|i7 G,some<|.dat<|.int (p:Int),some<|.dat<|.int (l[p]:Nat)]:DE).set 2<|some<|.own<|((List.range<|d0 way<|m+1).map λn=>if n∈l.take p then coW h way (m+1) n else coW h way m n).set j y) F4:=by
    rintro y F3 rfl rfl;refine v4.2<|u9 rfl<|c9 rfl<|c9 (z:=l[p]) ?_ ?_
    .unfold ixN;rw[Gp (by omega),Gp (by simp;omega),HG]
    .have es:((List.range<|d0 way<|m+1).map λn=>if n∈l.take p then coW h way (m+1) n else coW h way m n).set l[p] (coW h way (m+1) l[p])=(List.range<|d0 way<|m+1).map λn=>if n∈l.take (p+1) then coW h way (m+1) n else coW h way m n:=by
      apply Lr
      .simp
      .intro k h1 h2;simp only[Hn,Gi,GB]at h1;rw[List.getElem_set];simp only[JL,IT];have et:l.take (p+1)=l.take p++[l[p]]:=by rw[JE,Gm hp];rfl
       by_cases hk:l[p]=k
       .rw[Gp hk,<-hk,Gp (by rw[et];exact GG _ Gx)]
       .rw[Gr hk,et];have:(k∈l.take p++[l[p]])↔k∈l.take p:=by
         rw[GP];constructor
         .rintro (z | z)
          .exact z
          .simp at z;exact absurd z.symm hk
         .exact .inl
        by_cases hkm:k∈l.take p
        .rw[Gp hkm,Gp<|this.2 hkm]
        .rw[Gr hkm,Gr λz=>hkm<|this.1 z]
     exact hR2 _ _ ⟨rfl,_,_,by rw[es];rfl⟩
   refine r6.2<|L1.2<|q4.2<|n5.2<|ai rfl<|n5.2<|t7 rfl<|c9 eat<|L1.2<|q4.2<|n5.2<|t7 rfl<|n5.2<|t7 rfl<|c9 (cu hPs)<|L1.2<|fI.2<|aa.2<|q4.2<|n5.2<|t7 rfl<|n5.2<|t7 rfl<|c9 (yR hGs)<|c9 rfl ?_;have epk:decide (p∈P)=decide (p<h):=by rw[IR,hpk];exact⟨λz=>z.2,λz=>⟨hp,z⟩⟩
   rw[epk];rcases s2 with ⟨c1,c2,c3⟩ | ⟨c1,c3⟩
   .have hg:=(hgn p hp).2 ⟨c1,by rw[eg];exact c2⟩;rw[GX hg,GX c1];refine N2 rfl<|q4.2<|n5.2<|t7 rfl<|n6.2<|c9 rfl<|x8.2 ?_;refine lr (m:=m+1)<|done _ _ rfl c3.symm
   .have hg:¬p∈G:=λz=>c1 (by have:=(hgn p hp).1 z;rw[eg]at this;exact this)
    rw[Hx hg];refine l7 rfl<|n6.2<|x8.2<|qA<|done _ _ rfl c3.symm
  .rintro E F2 ⟨rfl,o13,o14,rfl⟩;rw[Hq,Gi,GB,Ls];have e1:((List.range<|d0 way<|m+1).map λn=>if n∈l then coW h way (m+1) n else coW h way m n)=(List.range<|d0 way<|m+1).map (coW h way<|m+1):=GO λn hn=>by
    by_cases hz:n∈l
    .rw[Gp hz]
    .rw[Gr hz];exact(xb<|hpos1 n (GJ.1 hn) hz).symm
   rw[e1];refine h7 (j9.2<|cw.2<|AF<|A5.2<|n5.2<|t7 rfl<|c9 L0 ⟨sz (by rw[Gi];omega),?_⟩);refine jt (x:=λi:Nat=>.int (i:Int)) (y:=λi=>pnD<|T i) (f:=λi=>.int (l.getD i 0:Nat)) S _ _ (λi hi F Q q=>?_) ?_
   .refine q4.2<|n5.2<|t7 rfl<|n5.2<|t7 rfl<|c9 ?_ q;have hi2:=hsti i hi;show atI (i7 l) (i:Int)=_;refine dE ?_;unfold i7;rw[GC,Gm hi2,Gz,Gm hi2];rfl
   .have e3:S.map (λi=>Ac.int (l.getD i 0:Nat))=i7 (cX h way<|m+1):=by
     rw[<-hst];unfold i7;rw[GL];rfl
    rw[e3];refine⟨i8 rfl,h7<|A8.2<|J9.2<|c8.2<|V7.2<|A5.2<|n5.2<|t7 rfl<|c9 L0 ⟨sz (by rw[Gi];omega),?_⟩⟩;refine jt (x:=λi:Nat=>.int (i:Int)) (y:=λi=>pnD<|T i) (f:=λi=>pnD<|T i) S _ _ (λi hi F Q q=>v4.2<|u9 rfl q)<|d8.2<|c9 rfl ⟨i8 rfl,?_⟩;have e4:S.map (λi=>pnD<|T i)=(psW h way<|m+1).map pnD:=by
     show _=List.map pnD (List.map _<|cX h way<|m+1);rw[show(cX h way<|m+1).map (psn (rkW way) (LW h way<|m+1)<|wkW way)=S.map T from haf.symm,GL];rfl
    exact hR _ _ ⟨rfl,_,_,_,_,_,_,_,_,_,_,by rw[e4];rfl⟩
 .rintro E F1 ⟨rfl,o5,o6,o7,o8,o9,o10,o11,o12,o13,o14,rfl⟩;rw[Hq,Gi,GB];exact h7<|P2.2<|n5.2<|ai rfl<|O4 q
end
variable [Fam]
def Z3:List DV->M Ac:=S4 ["house","way","stand","voids"] (mSq (y3 2<|s2 ixD (s2 ixD (l9 nY<|vD (sV 0)<|vD (sV 1)<|vD (sC<|.tuple []) A9)<|sC<|.int 0)<|s1 ua<|sC<|.int 1)
  (mSq (y3 3<|sC<|.int 0)
  (mSq (mWh (uB<|s2 gtD (sN V0<|c7 (sW 2) j4)<|sC<|.int 0) (mSq (y3 2<|s2 ixD (l9 eh<|vD (sV 0)<|vD (sV 2)<|vD (sC<|.tuple []) A9)<|sC<|.int 0)
  (kO (λi j=>i+j) 3<|sC<|.int 1)))
  (mRt<|s2 Q2 (sW 1)<|s2 ag (sC<|.tuple [.tuple []])<|sW 3))))
def ku {h:Nat}{way:List Bt}{m:Nat}:after h 0 true false ((j3 (d0 way<|m+1)<|LW h way m).map<|psn (rkW way) (LW h way m)<|wkW way)=psW h way (m+1):=eD (L:=LW h way m)<|nr (h:=h) (cnt:=d0 way) (w:=wkW way) m
theorem rX {h:Nat}{way:List Bt}(hw:W1s way):∀{m:Nat},m<=way.length->ao (P9 h 0 true false none) [] way m=psW h way m
 | 0,_=>by rw[bX];rfl
 | m+1,hm=>by
  rw[bS (by omega),rX hw (m:=m)<|by omega];show after h 0 true false (A4 none _ _)=_;rw[sU hw (by omega),ku]
def T5 {way:List Bt}{m:Nat}(h:way.length<=m):d0 way m=f7 way:=by
 unfold d0;rw[HD h]
def kx {h:Nat}{way:List Bt}{m:Nat}(hm:way.length<=m):after h 0 true false (A4 none (psW h way m) [])=psW h way (m+1):=by
 rw[cc,HY,HE,<-ku,T5 (show way.length<=m+1 by omega),<-T5 hm]
def kP {h:Nat}{way:List Bt}{m:Nat}:xa (psW h way m):=λp hp=>by
 obtain⟨n,hn,rfl⟩:=GW.1 hp;have:=Hf (GU.1 hn).2;show 1<=LW h way m n;omega
def BY {k:Nat}(h:k<=1000):ag (.tuple [.tuple []]) (.int (k:Int))=some (.tuple<|(List.replicate k ([]:Bt)).map btD):=by
 have e:(List.replicate ((k:Int)).toNat [Ac.tuple []]).flatten=(List.replicate k ([]:Bt)).map btD:=by
  rw[HG,Le];clear h;induction k with
  | zero=>rfl
  | succ k ih=>rw[Ht,HN,ih,Ht];rfl
 rw[<-e];have hz:[Ac.tuple []].length*((k:Int)).toNat<=LM:=sz (by rw[HG];show 1*k<=_;omega);have h1:-(2 ^ 63)<=(k:Int):=by omega
 have h2:(k:Int)<2 ^ 63:=by omega
 generalize (k:Int)=i at hz h1 h2;exact Gp ⟨h1,h2,hz⟩
def muV (S:Int)(E:DE):Nat:=match E[3]? with
 | some (some<|DV.dat<|Ac.int v)=>(S-v).toNat
 | _=>0
def mG:eqD true (.str "gone") (.str "gone")=some (.bool false):=by
 show some (Ac.bool<|if true=true then !decide (("gone":Str) = "gone") else decide (("gone":Str) = "gone"))=_;rw[Gp rfl,GX rfl];rfl
def nT:eqD false (.str "gone") (.str "gone")=some (.bool true):=by
 show some (Ac.bool<|if false=true then !decide (("gone":Str) = "gone") else decide (("gone":Str) = "gone"))=_;rw[Gr (by decide),GX rfl]
section
variable {F:FdS}{Q:Ac->FdS->Prop}
def pZ {h:Nat}{way:List Bt}(hh:1<=h)(hw:W1s way)(hl:f7 way<64)(hn:way.length<=400)(hS:X9 (psW h way way.length)<=500)(q:∀v:Nat,v<=500->psW h way (way.length+v)=[]->Q (.tuple<|(way++List.replicate v []).map btD) F) :
  wp (Z3 [.dat<|fiD h,.dat<|.tuple<|way.map btD] F) Q:=by
 have hr:(Ac.str "first")∈W8:=by simp[W8]
 have ek:kOf (.str "first")=0:=by decide
 have eb:kb (.str "first")=true:=by decide
 have et:tnB (.str "first")=false:=by decide
 unfold Z3;refine R9.2 ?_;dsimp only[v5,GH,HY,GM,HR,List.replicate,Hh,Ho,Nat.reduceAdd,Nat.reduceSub];refine j9.2<|A8.2<|q4.2<|q4.2<|r6.2<|L1.2<|v4.2<|u9 rfl<|L1.2<|v4.2<|u9 rfl<|L1.2<|n6.2<|x8.2 ?_;refine AR (h:=h) (pl:=none) (ps:=[]) (way:=way) hr (λi _ v hv=>by cases hv) (by simpa using hl) (by omega)<|n6.2<|c9 rfl<|wK.2<|n6.2<|c9 rfl ?_;rw[ek,eb,et];have elast:ixD (.tuple<|(List.range<|way.length+1).map λi=>stD<|ao (P9 h 0 true false none) [] way i) (.int (-1))=some (stD<|psW h way way.length):=by
  rw[<-rX hw (Gs _),Ih,GS];exact qq
 refine c9 elast ⟨i8 rfl,h7<|j9.2<|A8.2<|n6.2 ⟨i8 rfl,h7<|j9.2 ?_⟩⟩;have hs0:=ny<|kP (h:=h) (way:=way) (m:=way.length);refine Cm (λE F'=>F'=F/\∃v:Nat,E=[some<|.dat<|fiD h,some<|.dat<|.tuple<|way.map btD,some<|.dat<|stD<|psW h way<|way.length+v,some<|.dat<|.int (v:Int)]/\X9 (psW h way<|way.length+v)+v<=X9 (psW h way way.length)) (muV<|X9<|psW h way way.length) ⟨rfl,0,rfl,by simp⟩ ?_;rintro E F1 ⟨rfl,v,rfl,hv⟩;have hlen:=ny<|kP (h:=h) (way:=way) (m:=way.length+v);have hplen:(psW h way<|way.length+v).length<64:=by
  have h9:=Hj (λn=>decide (0<LW h way (way.length+v) n))<|List.range<|d0 way<|way.length+v;rw[GB]at h9;have:=U6 way<|way.length+v;rw[Gi];show(j3 _ _).length<64;unfold j3;omega
 refine aa.2 (q4.2<|J9.2<|c8.2<|n5.2<|t7 rfl<|d8.2<|c9 U3<|n6.2<|c9 yj<|c9 rfl<|bg (λhc=>?_) λhc=>?_)
 .rw[Gi]at hc;have hc:(0:Int)<((psW h way<|way.length+v).length:Nat):=Hf hc;refine j9.2<|A8.2<|q4.2<|r6.2<|L1.2<|v4.2<|u9 rfl<|L1.2<|v4.2<|u9 rfl<|L1.2<|n6.2<|x8.2 ?_;refine tF (h:=h) (pl:=none) (bt:=[]) hr (λv hv=>by cases hv) (by simpa using hplen)<|n6.2<|c9 rfl ⟨i8 rfl,h7 ?_⟩;rw[ek,eb,et,kx<|by omega];refine kD (x:=(v:Int)) rfl<|n6.2 ⟨1,rfl,?_⟩;have hsum:=pW (h:=h) (k:=0) (kp:=true) (tn:=false)<|kP (h:=h) (way:=way) (m:=way.length+v);have e0:after h 0 true false (psW h way<|way.length+v)=psW h way (way.length+v+1):=by
   have:=kx (h:=h) (way:=way) (m:=way.length+v) (by omega);rwa [cc,HY,HE]at this
  rw[e0]at hsum;have e1:(v:Int)+1=((v+1:Nat):Int):=by omega
  refine⟨_,rfl,⟨rfl,v+1,by rw[e1];rfl,by show X9 (psW h way<|way.length+v+1)+((v+1:Nat):Int)<=_;omega⟩,?_⟩;show(X9 (psW h way way.length)-((v:Int)+1)).toNat<(X9 (psW h way way.length)-(v:Int)).toNat;omega
 .rw[Gi]at hc;have hc:¬(0:Int)<((psW h way<|way.length+v).length:Nat):=Jg hc;have hnil:psW h way (way.length+v)=[]:=Il.1 (by omega);refine h7 (P2.2<|q4.2<|n5.2<|t7 rfl<|q4.2<|n6.2<|n5.2<|t7 rfl<|c9 (BY (k:=v)<|by omega)<|c9 (AH (by simp;omega))<|O4 ?_);rw[<-GS];exact q v (by omega) hnil
def goL (N:Nat)(a m w:Nat->Nat):List Ac:=(List.range N).map λk=>goD (a k) (m k)<|w k
def nM (N:Nat)(f:Nat->Ac):C5 0 ((List.range N).map f)=(List.range N).map λi=>.tuple [.int (i:Int),f i]:=by
 have key:∀(l:List Ac) (k:Nat),C5 k l=(List.range l.length).map λi=>.tuple [.int ((k+i:Nat):Int),l.getD i .none]:=by
  intro l;induction l with
  | nil=>intro k;rfl
  | cons d l ih =>
   intro k;rw[C5,ih,GM,JC,GH,GL];have e1:(Ac.tuple [.int (k:Int),d]) = .tuple [.int ((k+0:Nat):Int),(d::l).getD 0 .none]:=by simp
   rw[<-e1];refine HJ (List.cons _) (GO λi _=>?_);simp only[Function.comp,JS,JT];rw[show k+1+i=k+(i+1) by omega]
 rw[key,Gi,GB];refine GO λi hi=>?_
 have hi:=GJ.1 hi;rw[Hq,Gz,GC,Gm<|by simpa using hi];simp
end
end
section
variable [Fam]
section
variable {F:FdS}
def uH {n:Nat}(h:n<=100000):U4 [.int (n:Int)]=some ((List.range n).map λi=>.int (i:Int)):=by
 have:=rY (n:=n) h;rw[nO]at this;exact this
end
end
section
def FI (K:Fg)(x:Str)(st:LJ):Prop:=∃(f:LA) (oc:Lz) (od:Option LA) (kV doc pm:Lz) (an:Option LA) (cdv ct:Lz) (osl:Array (Option Lz)),
 PySem.W.nsIn K LV x=some (some<|.ref f)/\K.lookup f=some ⟨oc,od,.func<|PySem.W.fnOf x x (defArgs st) (defBody st) (defScope st) .none kV doc pm an cdv ct,osl⟩/\PySem.W.codeIn K cdv x=true/\PySem.W.keepIn K (.ref f)=true
variable {P:LD}{w:LF}{K:Fg}{mg:Str->Option Lz}{base h:LL}{x q:Str}{st:LJ}{f:LA}{fd:LI}{ps:List Str}{k:Nat}{sp:Sp}
def FI.of {oc:Lz}{od:Option LA}{kV doc pm:Lz}{an:Option LA}{cdv ct:Lz}{osl:Array (Option Lz)}(a:PySem.W.nsIn K LV x=some (some<|.ref f))(b:K.lookup f=some ⟨oc,od,.func<|PySem.W.fnOf x x (defArgs st) (defBody st) (defScope st) .none kV doc pm an cdv ct,osl⟩)
  (c:PySem.W.codeIn K cdv x=true) (d:PySem.W.keepIn K (.ref f)=true):FI K x st:=⟨f,oc,od,kV,doc,pm,an,cdv,ct,osl,a,b,c,d⟩
def FI.mk (X:K.In h)(G:h.Ns LV mg)(ps:List Str)(F:FI K x st)
  (hb:∀(kV doc pm:Lz) (an:Option LA) (cdv ct:Lz) (us:List Lz),us.length=ps.length->bindArgs (PySem.W.fnOf x x (defArgs st) (defBody st) (defScope st) .none kV doc pm an cdv ct) ⟨us,[]⟩=pure (ps.zip us):=by intro _ _ _ _ _ _ us hl;first | (cases len_0 hl;rfl) | (obtain⟨z0,rfl⟩:=len_1 hl;rfl) | (obtain⟨z0,z1,rfl⟩:=yf hl;rfl) | (obtain⟨z0,z1,z2,rfl⟩:=Bk hl;rfl) | (obtain⟨z0,z1,z2,z3,rfl⟩:=len_4 hl;rfl)) :
  ∃f fd,Fun K x x st f fd/\mg x=some (.ref f)/\cR K fd ps []/\(∃oc od osl,K.lookup f=some ⟨oc,od,.func fd,osl⟩)/\PySem.W.nsIn K LV x=some (some<|.ref f):=by
 obtain⟨f,oc,od,kV,doc,pm,an,cdv,ct,osl,a,b,c,d⟩:=F;have Fn:=fun_mk b c d;exact⟨f,_,Fn,Kx X G a,Fn.binds hb,⟨oc,od,osl,b⟩,a⟩
def cal (P:LD)(w:LF)(base:LL)(F:FnOk P w K mg base CX0 k f fd ps sp)(m:mg x=some (.ref f))(Fn:Fun K x q st f fd)(b:cR K fd ps []):l4 P w K mg base x k ps sp:=⟨f,fd,F,m,Fn.kp,b⟩
end
section
variable [Feeds]{X:Cx}{K:Fg}{e:LK}{es:List LK}{p pos q:Pos}
def r8 {x:Str}{k m n:Nat}{ps:List Str}{f:List DV->M Ac}{tl:TA}{ms:DE->M (List DV)}(C:l4 X.prog X.w X.K X.mg X.base x k ps (spD K n f))(hr:Room m X.A)(ha:Evs K X (e::es) tl ms)(hk:k<=m:=by decide)(hn:∀E F args F',ms E F=some (args,F')->args.length=n:=by repeat (first | exact ze | apply CG | apply CH))(hg:Gl X x:=by rfl)
  (hdb:(x == ("__debug__":Str))=false:=by decide) (he:LN (e::es) X.env=(false,eval e X.env)::LN es X.env:=by rfl) (hpl:(LR pos<|LN es X.env).any (·.1)=false:=by rfl) :
  Ev K X (.Call (.Name x p) (e::es) [] pos) (gk (spD K n f) [] E0 tl) (l9 f ms):=wt C (hr.mono hk) ha hn hg hdb he hpl
def Y2 (i:Nat){x:Str}{c:Int}{j}(hK:X.K=K:=by rfl)(hN:X.N[i]? = some x:=by rfl)(hv:Vis X.env.scope x:=by first | exact Or.inl rfl | exact Or.inr (Or.inl rfl) | exact Or.inr<|Or.inr rfl)(hd:(x == ("__debug__":Str))=false:=by decide)
  (hcd:(x == ("__classdict__":Str))=false:=by decide):Ev K X (.Subscript (.Name x p) (.Constant (.int c) j q) pos) (tOp (rD2 K ixD) (W0 i)<|tC<|.int c) (s2 ixD (sW i)<|sC<|.int c):=E3 (F0 hK) (i6 i hN hv hd hcd) (Ev.bw l5) (by intro _ _;rfl)
abbrev nth (l:List LJ)(n:Nat):LJ:=l.getD n<|.Pass ⟨0,0,0,0⟩
end
section
class Regs where
 S:Type
 Reg:Fg->Hp->Hp->LA->S->List LA->Prop
 keep:∀{K:Fg} {V V' H H':Hp} {d:LA} {μ:S} {A:List LA},Reg K V H d μ A->d9 V V'->(∀a∈A,H' a=H a)->Reg K V' H' d μ A
 has:∀{K:Fg} {V H:Hp} {d:LA} {μ:S} {A:List LA},Reg K V H d μ A->∀a∈A,∃o,H a=some o
 noT:∀{K:Fg} {V H:Hp} {d:LA} {μ:S} {A:List LA},Reg K V H d μ A->∀a∈A,∀φ,H a≠some (.ext φ)
 lam:List Str
@[reducible] def K7 [Regs]:Feeds where
 S:=Regs.S
 At:=λ_ _ _ _=>False
 some1:=λh=>h.elim
 some2:=λh=>h.elim
 congr:=λh _ _=>h.elim
 lam:=Regs.lam
def V4 (E:DE)(i:Nat):Option LA:=match E[i]? with
 | some (some<|.adr a)=>some a
 | _=>none
section
variable [Regs]
local instance regI:Feeds:=K7
structure SitMB (K:Fg) (i0:Nat) (d:LA) (B0 A0:List LA) (H0:Hp) (B A:List LA) (E:DE) (μ:FS) (σ:St) (H:Hp):Prop where
 s:∀b∈B0,b∈B
 sn:∀b∈B,b∈B0\/H0 b=none
 I:SitE K none B E μ σ H
 rg:Regs.Reg K (hid H B) H d μ A
 aB:∀a∈A,a∈B/\a ∉ tabP K/\(a∈A0\/(H0 a=none/\a ∉ B0))
 pin:V4 E i0=some d
 tB:∀b∈tabP K,b∈B0
 a0:∀a∈A0,a∈B0
 kp:∀b o,H0 b=some o->b ∉ tabP K->b ∉ A0->H b=some o
 own:∀(i:Nat) (ds:List Ac) (a:LA),E[i]? = some (some<|DV.own ds)->σ[i]? = some (some<|V.ref a)->(H0 a=none/\a ∉ B0)/\a ∉ A
 inj:∀(i j:Nat) (ds es:List Ac) (a:LA),E[i]? = some (some<|DV.own ds)->E[j]? = some (some<|DV.own es)->σ[i]? = some (some<|V.ref a)->σ[j]? = some (some<|V.ref a)->i=j
 dic:W5 B0 H0 E σ
structure EndM (K:Fg) (d:LA) (B0 A0:List LA) (H0:Hp) (μ:FS) (H:Hp) (A:List LA):Prop where
 rg:Regs.Reg K (hid H<|A++B0) H d μ A
 aB:∀a∈A,a ∉ tabP K/\(a∈A0\/(H0 a=none/\a ∉ B0))
 kp:∀b o,H0 b=some o->b ∉ tabP K->b ∉ A0->H b=some o
 tb:C6 (tabsK Feeds.lam K) H
 bk:BOk H B0
def yY (K:Fg)(i0:Nat)(d:LA)(B0 A0:List LA)(H0:Hp)(μ:FS)(D:Ends):Out->Prop
 | .nx E=>∀B A σ H,SitMB K i0 d B0 A0 H0 B A E μ σ H->D.nx σ H
 | .bk E=>∀B A σ H,SitMB K i0 d B0 A0 H0 B A E μ σ H->D.bk σ H
 | .ct E=>∀B A σ H,SitMB K i0 d B0 A0 H0 B A E μ σ H->D.ct σ H
 | .rt r=>∀v H A,EndM K d B0 A0 H0 μ H A->b7 K (hid H<|A++B0) r v->D.rt v H
def TSm (K:Fg)(i0:Nat)(ts:TS)(m:DE->M Out):Prop:=∀(d:LA) (B0 A0:List LA) (H0:Hp) (B A:List LA) (E:DE) (μ:FS) (σ:St) (H:Hp) (D:Ends) (r:Out) (μ':FS),SitMB K i0 d B0 A0 H0 B A E μ σ H->m E μ=some (r,μ')->yY K i0 d B0 A0 H0 μ' D r->ts D σ H
def TTm (K:Fg)(i0:Nat)(tt:TT)(m:DE->M Bool):Prop:=∀(d:LA) (B0 A0:List LA) (H0:Hp) (B A:List LA) (E:DE) (μ:FS) (σ:St) (H:Hp) (Q:Bool->Hp->Prop) (r:Bool) (μ':FS),SitMB K i0 d B0 A0 H0 B A E μ σ H->m E μ=some (r,μ') ->
 (∀H' B' A',SitMB K i0 d B0 A0 H0 B' A' E μ' σ H'->d9 (hid H B) (hid H' B')->Q r H')->tt σ H Q
structure SmR (K:Fg) (X:Cx) (i0:Nat) (st:LJ) (ts:TS) (m:DE->M Out):Prop where
 ps:PS X st ts
 ok:TSm K i0 ts m
structure SmsR (K:Fg) (X:Cx) (i0:Nat) (sts:List LJ) (ts:TS) (m:DE->M Out):Prop where
 ps:PSs X sts ts
 ok:TSm K i0 ts m
structure Etm (K:Fg) (X:Cx) (i0:Nat) (e:LK) (tt:TT) (m:DE->M Bool):Prop where
 pt:PT X e tt
 ok:TTm K i0 tt m
variable {K:Fg}{X:Cx}{i0:Nat}{a b c e tg iter:LK}{es:List LK}{st:LJ}{sts rest:List LJ}{ta tb te:TE}{ma mb m:DE->M Ac}{t u:TS}{mt mu:DE->M Out}{pos pos' p p2:Pos}
section
variable {d:LA}{B0 A0:List LA}{H0:Hp}{B A:List LA}{E E':DE}{μ:FS}{σ σ':St}{H H':Hp}
def SitMB.step (S:SitMB K i0 d B0 A0 H0 B A E μ σ H)(k:Kp (tabP K) H H')(f:C6 (tabsK Feeds.lam K) H'):SitMB K i0 d B0 A0 H0 B A E μ σ H' :=
 have fB:∀b∈tabP K,b∈B:=λb hb=>S.s b<|S.tB b hb
 ⟨S.s,S.sn,S.I.step (G:=none) k ⟨trivial,f⟩,Regs.keep S.rg (k.hid fB) λa ha=>by
   obtain⟨o,e⟩:=Regs.has S.rg a ha;rw[e];exact k a o e (S.aB a ha).2.1,S.aB,S.pin,S.tB,S.a0,λb o e n1 n2=>k b o (S.kp b o e n1 n2) n1,S.own,S.inj,S.dic⟩
def SitMB.sm (S:SitMB K i0 d B0 A0 H0 B A E μ σ H)(k:Kp (tabP K) H H'):d9 (hid H B) (hid H' B):=k.hid λb hb=>S.s b<|S.tB b hb
def SitMB.bind (S:SitMB K i0 d B0 A0 H0 B A E μ σ H)(I:SitE K none B E' μ σ' H)(fr:∀i:Nat,(∀y,E'[i]? ≠ some (some<|.dat y))->E'[i]? = E[i]? /\ σ'[i]? = σ[i]?)(hp:V4 E' i0=V4 E i0):SitMB K i0 d B0 A0 H0 B A E' μ σ' H:=by
 refine⟨S.s,S.sn,I,S.rg,S.aB,hp.trans S.pin,S.tB,S.a0,S.kp,λi ds a ei si=>?_,λi j ds es a ei ej si sj=>?_,S.dic.of λi w c ps ei=>fr i λy z=>by rw[ei]at z;cases z⟩
 .obtain⟨a1,a2⟩:=fr i λy z=>by rw[ei]at z;cases z
  exact S.own i ds a (a1▸ei)<|a2▸si
 .obtain⟨a1,a2⟩:=fr i λy z=>by rw[ei]at z;cases z
  obtain⟨b1,b2⟩:=fr j λy z=>by rw[ej]at z;cases z
  exact S.inj i j ds es a (a1▸ei) (b1▸ej) (a2▸si)<|b2▸sj
def SitMB.base (S:SitMB K i0 d B0 A0 H0 B A E μ σ H):SitMB K i0 d B0 A0 (P3 H B B0) B A E μ σ H:=by
 refine⟨S.s,λb hb=>?_,S.I,S.rg,λa ha=>?_,S.pin,S.tB,S.a0,λb o e _ _=>d4 b o e,λi ds a ei si=>?_,S.inj,λi c ps a ei si=>?_⟩
 .by_cases h:b∈B0
  .exact .inl h
  .exact .inr<|L6 hb h
 .obtain⟨h1,h2,h3⟩:=S.aB a ha;exact⟨h1,h2,h3.imp id λh=>⟨L6 h1 h.2,h.2⟩⟩
 .obtain⟨v,v1,a',xs,rfl,hB,_⟩:=S.I.loc i _ ei;rw[v1]at si;cases si;obtain⟨h1,h2⟩:=S.own i ds _ ei v1;exact⟨⟨L6 hB h1.2,h1.2⟩,h2⟩
 .obtain⟨v,v1,a',xs,rfl,hB,_⟩:=S.I.loc i _ ei;rw[v1]at si;cases si;obtain⟨h1,h2⟩:=S.dic i c ps _ ei v1;exact⟨⟨L6 hB h1.2,h1.2⟩,h2⟩
def SitMB.no (S:SitMB K i0 d B0 A0 H0 B A E μ σ H)(b:LA)(e:P3 H B B0 b=none):b∈B0\/H0 b=none:=by
 by_cases hb:b∈B
 .exact S.sn b hb
 .rw[O0<|.inl hb]at e;cases q:H0 b with
  | none=>exact .inr rfl
  | some o =>
   have h0:b ∉ B0:=λz=>hb<|S.s b z
   rw[S.kp b o q (λz=>h0<|S.tB b z) λz=>h0<|S.a0 b z]at e;cases e
def SitMB.cutkp (S:SitMB K i0 d B0 A0 H0 B A E μ σ H)(k:∀b o,P3 H B B0 b=some o->b ∉ tabP K->b ∉ A0->H' b=some o):∀b o,H0 b=some o->b ∉ tabP K->b ∉ A0->H' b=some o:=λb o e n1 n2=>by
 refine k b o ?_ n1 n2;rw[O0]
 .exact S.kp b o e n1 n2
 .by_cases hb:b∈B
  .rcases S.sn b hb with h | h
   .exact .inr h
   .rw[h]at e;cases e
  .exact .inl hb
def SitMB.unbase {B' A':List LA}{μ':FS}(S:SitMB K i0 d B0 A0 H0 B A E μ σ H)(S2:SitMB K i0 d B0 A0 (P3 H B B0) B' A' E' μ' σ' H'):SitMB K i0 d B0 A0 H0 B' A' E' μ' σ' H':=by
 refine⟨S2.s,λb hb=>(S2.sn b hb).elim .inl λh=>S.no b h,S2.I,S2.rg,λa ha=>?_,S2.pin,S2.tB,S2.a0,S.cutkp S2.kp,λi ds a ei si=>?_,S2.inj,λi c ps a ei si=>?_⟩
 .obtain⟨h1,h2,h3⟩:=S2.aB a ha;exact⟨h1,h2,h3.imp id λh=>⟨(S.no a h.1).resolve_left h.2,h.2⟩⟩
 .obtain⟨h1,h2⟩:=S2.own i ds a ei si;exact⟨⟨(S.no a h1.1).resolve_left h1.2,h1.2⟩,h2⟩
 .obtain⟨h1,h2⟩:=S2.dic i c ps a ei si;exact⟨⟨(S.no a h1.1).resolve_left h1.2,h1.2⟩,h2⟩
def SitMB.unend {A':List LA}{μ':FS}(S:SitMB K i0 d B0 A0 H0 B A E μ σ H)(S2:EndM K d B0 A0 (P3 H B B0) μ' H' A'):EndM K d B0 A0 H0 μ' H' A':=by
 refine⟨S2.rg,λa ha=>?_,S.cutkp S2.kp,S2.tb,S2.bk⟩;obtain⟨h2,h3⟩:=S2.aB a ha;exact⟨h2,h3.imp id λh=>⟨(S.no a h.1).resolve_left h.2,h.2⟩⟩
def SitMB.stab {B' A':List LA}{μ':FS}(S:SitMB K i0 d B0 A0 H0 B A E μ σ H)(S2:SitMB K i0 d B0 A0 (P3 H B B0) B' A' E' μ' σ' H'):d9 (hid H B) (hid H' B'):=λb o eb=>by
 by_cases hB:b∈B
 .rw[x6 hB]at eb;cases eb
 .rw[i4 hB]at eb;have h0:b ∉ B0:=λz=>hB<|S.s b z
  have ec:P3 H B B0 b=some o:=by rw[O0<|.inl hB];exact eb
  rw[i4 λz=>(S2.sn b z).elim h0 λh=>by rw[h]at ec;cases ec];exact S2.kp b o ec (λz=>h0<|S2.tB b z) λz=>h0<|S2.a0 b z
end
def mE {α:Type}(m:DE->M α):DE->M α:=λE μ=>(m E μ).bind λp=>some (p.1,μ)
def zr {tt:TT}{m:DE->M Bool}(h:TTd K tt m):TTm K i0 tt (mE m):=λd B0 A0 H0 B A E μ σ H Q r μ' S e q=>by
 obtain⟨⟨x,μ1⟩,e1,e⟩:=bS9 e;cases e;exact h none B E μ σ H _ x μ1 S.I e1 λH1 k1 f1=>q H1 B A (S.step k1 f1.2)<|S.sm k1
def zu {tt:TT}{m:DE->M Bool}(h:Et K X e tt m):Etm K X i0 e tt (mE m):=⟨h.pt,zr h.ok⟩
end
end
section
def je (i0:Nat)(bd:Ac->DE->Option DE):Prop:=∀x E E',bd x E=some E'->V4 E' i0=V4 E i0
def gL (i0:Nat)(bd:List Ac->DE->Option DE):Prop:=∀x E E',bd x E=some E'->V4 E' i0=V4 E i0
def mN {i0 j:Nat}(h:j≠i0):je i0 (bN j):=λx E E' e=>by
 unfold bN at e;split at e
 .cases e;unfold V4;rw[Gu h]
 .cases e
def oU {i0:Nat}:gL i0 G3:=λx E E' e=>by
 unfold G3 at e;split at e
 .cases e;rfl
 .cases e
def dU {i0:Nat}{f:Ac->DE->Option DE}{r:List Ac->DE->Option DE}(h1:je i0 f)(h2:gL i0 r):gL i0 (i5 f r):=λx E E' e=>by
 unfold i5 at e;split at e
 .obtain⟨E1,e1,e⟩:=bS9 e;exact(h2 _ _ _ e).trans<|h1 _ _ _ e1
 .cases e
def pY {i0 n:Nat}{r:List Ac->DE->Option DE}(h:gL i0 r):je i0 (E8 n r):=λx E E' e=>by
 unfold E8 at e;split at e
 .split at e
  .exact h _ _ _ e
  .cases e
 .cases e
section
variable [Regs]
local instance regI2:Feeds:=K7
variable {K:Fg}{X:Cx}{i0:Nat}{a b c e tg iter:LK}{es:List LK}{st:LJ}{sts rest:List LJ}{ta tb te:TE}{ma mb m:DE->M Ac}{t u:TS}{mt mu:DE->M Out}{pos pos' p p2:Pos}
def zK:SmsR K X i0 [] rV mNx:=⟨dz,λd B0 A0 H0 B A E μ σ H D r μ' S e q=>by cases e;exact q B A σ H S⟩
def uY (h1:SmR K X i0 st t mt):SmsR K X i0 [st] t mt:=⟨Z7 h1.ps,h1.ok⟩
def By {x y:List LJ}{tt:TT}{mc:DE->M Bool}(hc:Etm K X i0 c tt mc)(ha:SmsR K X i0 x t mt)(hb:SmsR K X i0 y u mu):SmR K X i0 (.If c x y pos) (zP tt t u) (mIf mc mt mu):=⟨nH hc.pt ha.ps hb.ps,λd B0 A0 H0 B A E μ σ H D r μ' S e q=>by
 obtain⟨⟨x,μ1⟩,e1,e⟩:=bS9 e;refine hc.ok d B0 A0 H0 B A E μ σ H _ x μ1 S e1 λH1 B1 A1 S1 _=>?_
 cases x with
 | true=>exact ha.ok d B0 A0 H0 B1 A1 E μ1 σ H1 D r μ' S1 e q
 | false=>exact hb.ok d B0 A0 H0 B1 A1 E μ1 σ H1 D r μ' S1 e q⟩
def oo (mi:DE->M (List Ac))(bd:Ac->DE->Option DE)(body:DE->M Out):DE->M Out:=λE μ=>(mi E μ).bind λp=>K9 bd body p.1 E μ
def BE {wi:TI}{g:TG}{tb:TS}{mi:DE->M (List Ac)}{bd:Ac->DE->Option DE}{mb:DE->M Out}(hi:TId K wi mi)(hg:TGd K g bd)(hk:je i0 bd)(hb:TSm K i0 tb mb):TSm K i0 (rM wi g tb) (oo mi bd mb):=λd B0 A0 H0 B A E μ σ H D r μ' S e q=>by
 obtain⟨⟨items,μ1⟩,e1,e⟩:=bS9 e;refine hi none B E μ σ H _ items μ1 S.I e1 λJ H1 k1 f1 ok=>?_
 have S1:=S.step k1 f1.2;refine⟨λi m σ H=>m=items.length-i/\i<=items.length/\∃B2 A2 E μ,SitMB K i0 d B0 A0 (P3 H1 B B0) B2 A2 E μ σ H/\K9 bd mb (items.drop i) E μ=some (r,μ'),⟨items.length,by simp,HA _,B,A,E,μ,S1.base,e⟩,?_⟩;rintro i mm σ2 H2 ⟨rfl,hi2,B2,A2,E2,μ2,S2,e2⟩;have st2:=S1.stab S2;by_cases hlt:i<items.length
 .refine .inr ⟨((ok H2 B2 st2).1 i items[i]<|by simp[hlt]).1,λσ' H'=>i+1<=items.length/\∃B2 A2 E μ,SitMB K i0 d B0 A0 (P3 H1 B B0) B2 A2 E μ σ' H'/\K9 bd mb (items.drop<|i+1) E μ=some (r,μ'),λσ' H' ⟨h1,h2⟩=>⟨items.length-(i+1),by omega,rfl,h1,h2⟩,λx H3 y=>?_⟩;obtain⟨s3,hx⟩:=((ok H2 B2 st2).1 i items[i]<|by simp[hlt]).2 x H3 y;have hx:=hx S2.I.bk;rw[IF hlt,K9]at e2;obtain⟨E4,e4,e2⟩:=bS9 e2;obtain⟨⟨o,μ5⟩,e5,e2⟩:=bS9 e2;have S3:=S2.step (Kp.same s3) (S2.I.fd.same s3).2;refine hg none B2 E2 μ2 σ2 H3 x items[i] E4 _ S3.I hx e4 λσ4 I4 fr=>?_
  refine hb d B0 A0 (P3 H1 B B0) B2 A2 E4 μ2 σ4 H3 _ o μ5 (S3.bind I4 fr<|hk _ _ _ e4) e5 ?_;cases o with
  | nx E6=>exact λB6 A6 σ6 H6 S6=>⟨hlt,B6,A6,E6,μ5,S6,e2⟩
  | ct E6=>exact λB6 A6 σ6 H6 S6=>⟨hlt,B6,A6,E6,μ5,S6,e2⟩
  | bk E6=>cases e2;exact λB6 A6 σ6 H6 S6=>q B6 A6 σ6 H6<|S1.unbase S6
  | rt d=>cases e2;exact λv H6 A6 k6 h6=>q v H6 A6 (S1.unend k6) h6
 .have ei:i=items.length:=by omega
  subst ei;rw[Jq,K9]at e2;cases e2;exact .inl ⟨(ok H2 B2 st2).2,q B2 A2 σ2 H2<|S1.unbase S2⟩
def zZ {body:List LJ}{wi:TI}{g:TG}{tb:TS}{mi:DE->M (List Ac)}{bd:Ac->DE->Option DE}{mb:DE->M Out}(hc:X.calm=true)(hi:Ei K X tg iter wi mi)(hg:Eg K X tg g bd)(hk:je i0 bd)(hb:SmsR K X i0 body tb mb)(hp:PassesOwn (model X.prog X.w) X.A X.env X.xe:=by exact PassesOwn.never)
  (hs:∀x,Ma iter X.env x=pure x:=by intro _;rfl):SmR K X i0 (.For tg iter body [] pos) (rM wi g tb) (oo mi bd mb):=⟨sG hp hc hi.pi hg.pg hb.ps hs,BE hi.ok hg.ok hk hb.ok⟩
variable {tA tB:TT}{na nb:DE->M Bool}
end
end
section
section
variable [Regs]
local instance regI3:Feeds:=K7
variable {K:Fg}{X:Cx}{i0:Nat}{a b c e tg iter:LK}{es:List LK}{st:LJ}{sts rest:List LJ}{ta tb te:TE}{ma mb m:DE->M Ac}{t u:TS}{mt mu:DE->M Out}{pos pos' p p2:Pos}
section
variable {d:LA}{B0 A0:List LA}{H0:Hp}{B A A2:List LA}{E:DE}{μ μ':FS}{σ:St}{H H2:Hp}
def SitMB.called (S:SitMB K i0 d B0 A0 H0 B A E μ σ H)(Z:EndM K d B A H μ' H2 A2):SitMB K i0 d B0 A0 H0 (A2++B) A2 E μ' σ H2/\d9 (hid H B) (hid H2<|A2++B):=by
 have nH0:∀a,H a=none->a ∉ B->H0 a=none/\a ∉ B0:=λa e n=>by
  have n0:a ∉ B0:=λz=>n<|S.s a z
  refine⟨?_,n0⟩;cases q:H0 a with
  | none=>rfl
  | some o=>rw[S.kp a o q (λz=>n0<|S.tB a z) λz=>n0<|S.a0 a z]at e;cases e
 have sm:d9 (hid H B) (hid H2<|A2++B):=λb o eb=>by
  by_cases hB:b∈B
  .rw[x6 hB]at eb;cases eb
  .rw[i4 hB]at eb;have k:H2 b=some o:=Z.kp b o eb (λz=>hB<|S.s b<|S.tB b z) λz=>hB (S.aB b z).1
   rw[i4 λz=>?_]
   .exact k
   .rcases GP.1 z with z | z
    .rcases(Z.aB b z).2 with h | h
     .exact hB (S.aB b h).1
     .rw[h.1]at eb;cases eb
    .exact hB z
 refine⟨⟨λb hb=>GP.2<|.inr<|S.s b hb,λb hb=>?_,⟨⟨trivial,Z.tb⟩,λb hb=>GP.2<|.inr<|S.I.fB b hb,λb hb=>?_,S.I.ln,λi x ei=>?_⟩,Z.rg,λa ha=>⟨GP.2<|.inl ha,(Z.aB a ha).1,?_⟩,S.pin,S.tB,S.a0,λb o eb n1 n2=>?_,λi ds a ei si=>?_,S.inj,S.dic⟩,sm⟩
 .rcases GP.1 hb with h | h
  .rcases(Z.aB b h).2 with h | h
   .exact S.sn b (S.aB b h).1
   .exact .inr (nH0 b h.1 h.2).1
  .exact S.sn b h
 .rcases GP.1 hb with h | h
  .exact Regs.has Z.rg b h
  .exact Z.bk b h
 .obtain⟨v,v1,v2⟩:=S.I.loc i x ei;refine⟨v,v1,?_⟩;cases x with
  | dat y=>exact b7.same (show b7 K (hid H B) y v from v2) sm
  | feed=>exact v2
  | fn _=>exact v2
  | adr _=>exact v2
  | own ys =>
   obtain⟨a',xs,rfl,hB,hf,hx,hd⟩:=v2;exact⟨a',xs,rfl,GP.2<|.inr hB,hf,Z.kp _ _ hx hf (S.own i ys a' ei v1).2,hd.same sm⟩
  | dic w c ps =>
   obtain⟨a',xs,rfl,hB,hf,hx,hn,hd⟩:=v2;exact⟨a',xs,rfl,GP.2<|.inr hB,hf,Z.kp _ _ hx hf<|λz=>Regs.noT S.rg _ z _ hx,hn,hd.same sm⟩
 .rcases(Z.aB a ha).2 with h | h
  .exact(S.aB a h).2.2
  .exact .inr<|nH0 a h.1 h.2
 .refine Z.kp b o (S.kp b o eb n1 n2) n1 λz=>?_
  rcases(S.aB b z).2.2 with h | h
  .exact n2 h
  .rw[h.1]at eb;cases eb
 .obtain⟨h1,h2⟩:=S.own i ds a ei si;refine⟨h1,λz=>?_⟩;rcases(Z.aB a z).2 with h | h
  .exact h2 h
  .obtain⟨v,v1,a',xs,rfl,hB,_,hx,_⟩:=S.I.loc i _ ei;rw[v1]at si;cases si;rw[h.1]at hx;cases hx
def SitMB.at0 (S:SitMB K i0 d B0 A0 H0 B A E μ σ H):σ[i0]? = some (some<|.ref d):=by
 have h:=S.pin;unfold V4 at h;split at h
 .rename_i a hx;cases h;obtain⟨v,v1,v2⟩:=S.I.loc i0 _ hx;rw[v1,show v = .ref d from v2]
 .cases h
end
variable {P:LD}{w:LF}{mg:Str->Option Lz}{base:LL}
end
end
section
section
variable [Fam][Regs]
variable {K:Fg}{P:LD}{w:LF}{mg:Str->Option Lz}{base:LL}{st:LJ}
def gN (hlam:Regs.lam=Fam.lam):@tabP K7 K = @tabP fdI K:=by
 unfold tabP;show(tabsK Regs.lam K).map _=(tabsK Fam.lam K).map _;rw[hlam]
def vP {G:GF}{H H':Hp}{F:FdS}(fa:@FAt fdI K G H F)(tb:C6 (tabsK Fam.lam K) H')(k:∀b o,H b=some o->b ∉ @tabP fdI K->H' b=some o):@FAt fdI K G H' F:=by
 refine⟨?_,tb⟩;cases G with
 | none=>trivial
 | some p =>
  obtain⟨d,c⟩:=p;have nt:∀{x:LA} {o:HO},H x=some o->NoT o->x ∉ @tabP fdI K:=λ{x o} e n z=>by
   obtain⟨t,ht,rfl⟩:=GW.1 z;obtain⟨ps,h1,_⟩:=fa.2 t ht;rw[h1]at e;exact n.1 ps<|Gy e.symm
  obtain⟨o1,e1,n1⟩:=Fam.some1 fa.1;obtain⟨o2,e2,n2⟩:=Fam.some2 fa.1;exact Fam.congr fa.1 ((k _ _ e1<|nt e1 n1).trans e1.symm)<|(k _ _ e2<|nt e2 n2).trans e2.symm
end
end
section
section
variable [Regs]
local instance regI66:Feeds:=K7
def pSq (a b:DE->M Out):DE->M Out:=λE μ=>(a E μ).bind λp=>match p.1 with
 | .nx E1=>b E1 p.2
 | _=>none
variable {K:Fg}{X:Cx}{i0:Nat}{e:LK}{st:LJ}{rest:List LJ}{te:TE}{m:DE->M Ac}{t u:TS}{mt mu:DE->M Out}{pos p p2:Pos}{x:Str}
end
end
section
class LamC where
 l:List Str
end
section
def J5:DE->Bool
 | []=>true
 | some (.own _)::_=>false
 | some (.dic _ _ _)::_=>false
 | _::r=>J5 r
theorem J0:∀{E:DE} {i:Nat} {ds:List Ac},J5 E=true->E[i]? ≠ some (some<|DV.own ds)
 | [],i,ds,_=>by simp
 | x::r,0,ds,h=>by
  intro z;simp at z;subst z;simp[J5]at h
 | x::r,i+1,ds,h=>by
  have:J5 r=true:=by
   cases x with
   | none=>simpa [J5] using h
   | some y=>cases y <;> simp[J5]at h <;> exact h
  simpa using J0 (i:=i) (ds:=ds) this
theorem L8:∀{E:DE} {i:Nat} {w:Bool} {c:Nat} {ps:List (Ac×Ac)},J5 E=true->E[i]? ≠ some (some<|DV.dic w c ps)
 | [],i,w,c,ps,_=>by simp
 | x::r,0,w,c,ps,h=>by
  intro z;simp at z;subst z;simp[J5]at h
 | x::r,i+1,w,c,ps,h=>by
  have:J5 r=true:=by
   cases x with
   | none=>simpa [J5] using h
   | some y=>cases y <;> simp[J5]at h <;> exact h
  simpa using L8 (i:=i) (w:=w) (c:=c) (ps:=ps) this
end
section
section
variable [Regs]
local instance regI69:Feeds:=K7
structure SmsU (K:Fg) (X:Cx) (i0:Nat) (sts rest:List LJ) (ts u:TS) (m:DE->M Out):Prop where
 ps:PSs X rest u->PSs X sts ts
 ok:∀(d:LA) (B0 A0:List LA) (H0:Hp) (B A:List LA) (E:DE) (μ:FS) (σ:St) (H:Hp) (D:Ends) (E1:DE) (μ':FS),SitMB K i0 d B0 A0 H0 B A E μ σ H->m E μ=some (.nx E1,μ') ->
  (∀B' A' σ' H',SitMB K i0 d B0 A0 H0 B' A' E1 μ' σ' H'->u D σ' H')->ts D σ H
variable {K:Fg}{X:Cx}{i0:Nat}{st:LJ}{sts rest:List LJ}{t ts u:TS}{mt m:DE->M Out}
def yT:SmsU K X i0 rest rest u u mNx:=⟨id,λd B0 A0 H0 B A E μ σ H D E1 μ' S e q=>by cases e;exact q B A σ H S⟩
def xk (h1:SmR K X i0 st t mt)(h2:SmsU K X i0 sts rest ts u m):SmsU K X i0 (st::sts) rest (rQ t ts) u (pSq mt m):=⟨λz=>y8 h1.ps<|h2.ps z,λd B0 A0 H0 B A E μ σ H D E1 μ' S e q=>by
 obtain⟨⟨o,μ1⟩,e1,e⟩:=bS9 e;refine h1.ok d B0 A0 H0 B A E μ σ H _ o μ1 S e1 ?_;cases o with
 | nx E2=>exact λB1 A1 σ' H' S'=>h2.ok d B0 A0 H0 B1 A1 E2 μ1 σ' H' D E1 μ' S' e q
 | rt d=>cases e
 | bk E1=>cases e
 | ct E1=>cases e⟩
def BB {d:LA}{A1 B:List LA}{H1:Hp}{E:DE}{μ0:FS}{σ:St}(ln:E.length = σ.length)(tb:C6 (tabsK Regs.lam K) H1)(tB:∀b∈tabP K,b∈B)(bk:BOk H1 (A1++B))(loc:∀(i:Nat) (x:DV),E[i]? = some (some x)->∃v,σ[i]? = some (some v)/\DVr K none (A1++B) H1 x v)
  (rg:Regs.Reg K (hid H1<|A1++B) H1 d μ0 A1) (nB:∀a∈A1,a ∉ B) (pin:V4 E i0=some d) (noO:∀(i:Nat) (es:List Ac),E[i]? ≠ some (some<|DV.own es)) (noD:∀(i:Nat) (w:Bool) (c:Nat) (ps:List (Ac×Ac)),E[i]? ≠ some (some<|DV.dic w c ps)):SitMB K i0 d (A1++B) A1 H1 (A1++B) A1 E μ0 σ H1 :=
 ⟨λ_ z=>z,λb hb=>.inl hb,⟨⟨trivial,tb⟩,λb hb=>GP.2<|.inr<|tB b hb,bk,ln,loc⟩,rg,λa ha=>⟨GP.2<|.inl ha,λz=>nB a ha<|tB a z,.inl ha⟩,pin,λb hb=>GP.2<|.inr<|tB b hb,λa ha=>GP.2<|.inl ha,λb o e _ _=>e,λi es a ei _=>absurd ei<|noO i es,λi k es fs a ei _ _ _=>absurd ei<|noO i es,λi c ps a ei _=>absurd ei<|noD i _ c ps⟩
def xG {d:LA}{B0 A0 B A:List LA}{H0 H:Hp}{E:DE}{μ:FS}{σ:St}(Z:SitMB K i0 d B0 A0 H0 B A E μ σ H):E.length = σ.length/\C6 (tabsK Regs.lam K) H/\BOk H B/\∀(i:Nat) (x:DV),E[i]? = some (some x)->∃v,σ[i]? = some (some v)/\DVr K none B H x v:=⟨Z.I.ln,Z.I.fd.2,Z.I.bk,Z.I.loc⟩
end
def mB (fd:LA):Option DV->Option DV
 | some .feed=>some<|.adr fd
 | x=>x
def r9 (fd:LA)(E:DE):DE:=E.map<|mB fd
def xY:Option DV->Option DV->Option DV
 | some .feed,_=>some .feed
 | _,x=>x
def X7 (i0:Nat)(E E1:DE):DE:=(List.zipWith xY E E1).set i0 none
section
variable [Fam][Regs]
def xZ (i0:Nat)(m:DE->@M K7 Out)(μ0:Regs.S)(E E2:DE):Prop:=J5 E2=true/\∀fd d:LA,∃μ',m ((r9 fd E).set i0<|some<|.adr d) μ0=some (.nx<|(r9 fd E2).set i0<|some<|.adr d,μ')
open Classical in
def vW (i0:Nat)(m:DE->@M K7 Out)(μ0:Regs.S)(E:DE):Option DE:=match m ((r9 0 E).set i0<|some<|.adr 0) μ0 with
 | some (.nx E1,_)=>if xZ i0 m μ0 E (X7 i0 E E1) then some (X7 i0 E E1) else none
 | _=>none
def vM {i0:Nat}{m:DE->@M K7 Out}{μ0:Regs.S}{E E2:DE}(h:vW i0 m μ0 E=some E2):xZ i0 m μ0 E E2/\(∀i:Nat,E2[i]? = some (some DV.feed)->E[i]? = some (some DV.feed))/\∀x:DV,E2[i0]? ≠ some (some x):=by
 unfold vW at h;split at h
 .rename_i E1 μ1 hm;split at h
  .rename_i hp;cases h;have no:∀x:DV,(X7 i0 E E1)[i0]? ≠ some (some x):=λx z=>by
    unfold X7 at z;by_cases hl:i0<(List.zipWith xY E E1).length
    .rw[GA hl]at z;cases z
    .rw[HS<|by simpa using hl]at z;cases z
   refine⟨hp,λi z=>?_,no⟩;have hne:i0≠i:=λy=>by subst y;exact no _ z
   obtain⟨μ',e⟩:=hp.2 0 0;rw[hm]at e;have e1:E1=(r9 0<|X7 i0 E E1).set i0 (some<|.adr 0):=Out.nx.inj (Prod.mk.inj<|Gy e).1;have e2:E1[i]? = some (some<|.adr 0):=by
    rw[e1,Gu hne];unfold r9;rw[GC,z];rfl
   unfold X7 at z;rw[Gu hne,List.getElem?_zipWith,e2]at z;cases hE:E[i]? with
   | none=>rw[hE]at z;cases z
   | some o =>
    rw[hE]at z;cases o with
    | none=>cases z
    | some o=>cases o <;> first | rfl | cases z
  .cases h
 .cases h
variable {K:Fg}{X:Cx}{i0 j:Nat}{st0:LJ}{sts rest:List LJ}{ts u:TS}{mkh:Ac->Option Regs.S}{m:DE->@M K7 Out}{mu:DE->@M fdI Out}
def tu {G:GF}{Bz B A1:List LA}{Hz H H1:Hp}{E:DE}{F:FdS}{σ:St}{d fd:LA}{μ0:Regs.S}(hlam:Regs.lam=Fam.lam)(I:@SitE fdI K G B E F σ H)(no:J5 E=true)(hi:i0<E.length)(hfd:∀a c,G=some (a,c)->a=fd)(sm:d9 H H1)(fr:∀a∈A1,H a=none)(rg:Regs.Reg K (hid H1<|A1++B) H1 d μ0 A1) :
  SitMB K i0 d (A1++B) A1 H1 (A1++B) A1 ((r9 fd E).set i0<|some<|.adr d) μ0 (σ.set i0<|some<|.ref d) H1:=by
 have te:=gN (K:=K) hlam;have tB:∀b ∈ @tabP K7 K,b∈B:=λb hb=>I.fB b<|iI<|te▸hb
 have nB:∀a∈A1,a ∉ B:=λa ha=>I.bk.nin<|fr a ha
 have sv:d9 (hid H B) (hid H1<|A1++B):=λb o eb=>by
  by_cases hb:b∈B
  .rw[x6 hb]at eb;cases eb
  .rw[i4 hb]at eb;rw[i4 λz=>(GP.1 z).elim (λz=>by rw[fr b z]at eb;cases eb) hb];exact sm b o eb
 have tb1:C6 (tabsK Regs.lam K) H1:=by rw[hlam];exact(I.fd.same sm).2
 have hE:∀i x,((r9 fd E).set i0<|some<|.adr d)[i]? = some (some x)->(i=i0/\x = .adr d)\/(i≠i0/\∃y,E[i]? = some y/\mB fd y=some x):=λi x e=>by
  by_cases h:i0=i
  .subst h;rw[GA (by unfold r9;rw[Gi];exact hi)]at e;cases e;exact .inl ⟨rfl,rfl⟩
  .rw[Gu h]at e;unfold r9 at e;rw[GC]at e;obtain⟨y,y1,y2⟩:=Hd.1 e;exact .inr ⟨Ie h,y,y1,y2⟩
 have noO:∀i es,((r9 fd E).set i0<|some<|.adr d)[i]? ≠ some (some<|DV.own es):=λi es e=>by
  rcases hE i _ e with ⟨_,z⟩ | ⟨_,y,y1,y2⟩
  .cases z
  .cases y with
   | none=>cases y2
   | some y=>cases y <;> cases y2;exact J0 no y1
 have noD:∀i w c ps,((r9 fd E).set i0<|some<|.adr d)[i]? ≠ some (some<|DV.dic w c ps):=λi w c ps e=>by
  rcases hE i _ e with ⟨_,z⟩ | ⟨_,y,y1,y2⟩
  .cases z
  .cases y with
   | none=>cases y2
   | some y=>cases y <;> cases y2;exact L8 no y1
 refine BB (by simp[r9,I.ln]) tb1 tB (λb hb=>?_) (λi x ei=>?_) rg nB ?_ noO noD
 .rcases GP.1 hb with h | h
  .exact Regs.has rg b h
  .obtain⟨o,e⟩:=I.bk b h;exact⟨o,sm b o e⟩
 .rcases hE i x ei with ⟨rfl,rfl⟩ | ⟨hne,y,y1,y2⟩
  .exact⟨.ref d,by rw[GA (by rw[<-I.ln];exact hi)],rfl⟩
  .cases y with
   | none=>cases y2
   | some y =>
    obtain⟨v,v1,v2⟩:=I.loc i y y1
    refine⟨v,by rw[Gu<|Ie hne];exact v1,?_⟩
    cases y with
    | dat z=>cases y2;exact b7.same (show b7 K (hid H B) z v from v2) sv
    | feed =>
     cases y2
     obtain⟨a,c,g,rfl⟩:=v2
     show V.ref a=V.ref fd
     rw[hfd a c g]
    | fn z=>cases y2;exact v2
    | adr z=>cases y2;exact v2
    | own z=>exact absurd y1<|J0 no
    | dic _ _ _=>exact absurd y1<|L8 no
 .unfold V4;rw[GA (by unfold r9;rw[Gi];exact hi)]
def tN {G:GF}{Bz B A1:List LA}{Hz H H1:Hp}{E E2:DE}{F:FdS}{σ:St}{d fd:LA}(hlam:Regs.lam=Fam.lam)(S:@Sit fdI K G Bz Hz E F σ H)(s:∀b∈Bz,b∈B)(sn:∀b∈B,b∈Bz\/Hz b=none)(I:@SitE fdI K G B E F σ H)(sm:d9 H H1)(fr:∀a∈A1,H a=none)
  (no:J5 E2=true) (hx:∀x:DV,E2[i0]? ≠ some (some x)) (hG:∀i:Nat,E2[i]? = some (some DV.feed)->∃c,G=some (fd,c)) {B' A':List LA} {μ':Regs.S} {σ':St} {H':Hp} (Z:SitMB K i0 d (A1++B) A1 H1 B' A' ((r9 fd E2).set i0<|some<|.adr d) μ' σ' H'):@Sit fdI K G Bz Hz E2 F σ' H':=by
 have te:=gN (K:=K) hlam;have kk:∀b o,H b=some o->b ∉ @tabP fdI K->H' b=some o:=λb o e n=>Z.kp b o (sm b o e) (λz=>n<|te▸z) λz=>by rw[fr b z]at e;cases e
 have hn0:∀b,H b=none->b∈Bz\/Hz b=none:=λb e=>by
  cases q:Hz b with
  | none=>exact .inr rfl
  | some o =>
   by_cases hb:b ∈ @j8 fdI K G
   .exact .inl<|S.fB b hb
   .rw[S.kp b o q hb]at e;cases e
 obtain⟨zl,zt,zb,zo⟩:=xG Z;have hln:E2.length = σ'.length:=by rw[<-zl];simp[r9]
 have sub:∀b∈B,b∈B':=λb hb=>Z.s b<|GP.2<|.inr hb
 refine⟨⟨B',λb hb=>sub b<|s b hb,λb hb=>?_,⟨vP I.fd (by rw[<-hlam];exact zt) kk,λb hb=>sub b<|I.fB b hb,zb,hln,λi x ei=>?_⟩⟩,S.fB,λb o e n=>kk b o (S.kp b o e n) λz=>n<|iI z,λi ds a ei _=>absurd ei<|J0 no,λi k ds es a ei _ _ _=>absurd ei<|J0 no,λi c ps a ei _=>absurd ei<|L8 no⟩
 .rcases Z.sn b hb with h | h
  .rcases GP.1 h with h | h
   .exact hn0 b<|fr b h
   .exact sn b h
  .refine hn0 b ?_;cases q:H b with
   | none=>rfl
   | some o=>rw[sm b o q]at h;cases h
 .have hne:i0≠i:=λz=>hx x<|z▸ei
  have e':((r9 fd E2).set i0<|some<|.adr d)[i]? = some (mB fd<|some x):=by
   rw[Gu hne];unfold r9;rw[GC,ei];rfl
  cases x with
  | feed =>
   obtain⟨v,v1,v2⟩:=zo i (.adr fd) e';obtain⟨c,g⟩:=hG i ei;exact⟨v,v1,fd,c,g,v2⟩
  | dat y=>exact zo i _ e'
  | fn y=>exact zo i _ e'
  | adr y=>exact zo i _ e'
  | own y=>exact absurd ei<|J0 no
  | dic _ _ _=>exact absurd ei<|L8 no
end
end
section
def lx (K:Fg)(W H:Hp)(d:LA)(μ:List (List Ac))(as:List LA):Prop :=
 (d::as).Nodup/\H d=some (.lst<|as.map V.ref)/\as.length = μ.length/\∀(i:Nat) (a:LA) (row:List Ac),as[i]? = some a->μ[i]? = some row->∃vs,H a=some (.lst vs)/\a8 K W row vs
def lx.has {K:Fg}{W H:Hp}{d:LA}{μ:List (List Ac)}{as:List LA}(h:lx K W H d μ as):∀a∈d::as,∃xs,H a=some (.lst xs):=λa ha=>by
 rcases GK.1 ha with rfl | ha
 .exact⟨_,h.2.1⟩
 .obtain⟨i,hi,rfl⟩:=KW ha;obtain⟨vs,e,_⟩:=h.2.2.2 i _ (μ[i]'(by rw[<-h.2.2.1];exact hi)) (Gm hi)<|Gm _;exact⟨vs,e⟩
@[reducible] def mP [LamC]:Regs where
 S:=List<|List Ac
 Reg:=λK W H d μ A=>∃as,A=d::as/\lx K W H d μ as
 keep:=λ⟨as,e,h⟩ s k=>⟨as,e,h.1,by rw[k _ (by rw[e];exact Gx)];exact h.2.1,h.2.2.1,λi a row h1 h2=>by
  obtain⟨vs,v1,v2⟩:=h.2.2.2 i a row h1 h2;exact⟨vs,by rw[k a (by rw[e];exact Gq _<|HF h1)];exact v1,v2.same s⟩⟩
 has:=λ⟨as,e,h⟩ a ha=>by
  obtain⟨xs,z⟩:=h.has a<|e▸ha;exact⟨_,z⟩
 noT:=λ⟨as,e,h⟩ a ha φ q=>by
  obtain⟨xs,z⟩:=h.has a<|e▸ha;rw[z]at q;cases q
 lam:=LamC.l
section
variable [Regs]
local instance regI71:Feeds:=K7
variable {K:Fg}{i0:Nat}{d:LA}{B0 A0:List LA}{H0:Hp}{B A:List LA}{E:DE}{μ μ':FS}{σ:St}{H H':Hp}
def SitMB.remakeR {A':List LA}(S:SitMB K i0 d B0 A0 H0 B A E μ σ H)(kp:∀b o,H b=some o->b ∉ A->H' b=some o)(hA:∀a∈A',a∈A\/H a=none)(al:∀a∈A,∃o,H' a=some o)(ne:∀a∈A,∀φ,H a≠some (.ext φ))(rg:∀{W:Hp},d9 (hid H B) W->Regs.Reg K W H' d μ' A'):SitMB K i0 d B0 A0 H0 (A'++B) A' E μ' σ H'/\d9 (hid H B) (hid H'<|A'++B):=by
 have tn:∀b∈A,b ∉ tabP K:=λb hb=>(S.aB b hb).2.1
 have nB:∀a,H a=none->a ∉ B:=λa e=>S.I.bk.nin e
 refine S.called ⟨?_,λa ha=>?_,λb o e _ n=>kp b o e n,?_,λb hb=>?_⟩
 .refine rg λb o eb=>?_
  by_cases hB:b∈B
  .rw[x6 hB]at eb;cases eb
  .rw[i4 hB]at eb;rw[i4 λz=>(GP.1 z).elim (λz=>(hA b z).elim (λz=>hB (S.aB b z).1) λz=>by rw[z]at eb;cases eb) hB];exact kp b o eb λz=>hB (S.aB b z).1
 .rcases hA a ha with h | h
  .exact⟨tn a h,.inl h⟩
  .exact⟨λz=>nB a h<|S.s a<|S.tB a z,.inr ⟨h,nB a h⟩⟩
 .refine S.I.fd.2.congr λb hb=>?_
  obtain⟨o,e,n⟩:∃o,H b=some o/\b ∉ A:=by
   rcases hb with hb | ⟨φ,e⟩
   .obtain⟨t,ht,rfl⟩:=GW.1 hb;obtain⟨ps,e,_⟩:=S.I.fd.2 t ht;exact⟨_,e,λz=>tn _ z<|IB ht⟩
   .exact⟨_,e,λz=>ne b z φ e⟩
  rw[e];exact kp b o e n
 .by_cases hb2:b∈A
  .exact al b hb2
  .obtain⟨o,e⟩:=S.I.bk b hb;exact⟨o,kp b o e hb2⟩
end
section
variable [LamC]
local instance rowsI:Regs:=mP
local instance regI72:Feeds:=K7
variable {K:Fg}{X:Cx}{i0:Nat}{e a:LK}{te ta:TE}{m ma:DE->M Ac}{pos p px p3 ap cp:Pos}{x:Str}
noncomputable def vS (m ma:DE->M Ac):DE->M Out:=λE μ=>(m E μ).bind λp=>(ma E μ).bind λq=>match p.1 with
 | .int i=>(ixN (List.length (α:=List Ac) μ) i).bind λn=>if (List.getD (α:=List Ac) μ n []).length<LM then some (.nx E,List.set (α:=List Ac) μ n<|List.getD (α:=List Ac) μ n []++[q.1]) else none
 | _=>none
def Br (h:TEd K te m)(h2:TEd K ta ma):TSm K i0 (eR<|tBM K "list" aS (tOp (wR K) (W0 i0) te)<|u8 ta N4) (vS m ma):=λd B0 A0 H0 B A E μ σ H D r μ' S e q=>by
 obtain⟨⟨y,μ1⟩,e1,e⟩:=bS9 e;obtain⟨⟨z,μ2⟩,e2,e⟩:=bS9 e;cases y with
 | int i =>
  obtain⟨n,en,e⟩:=bS9 e;dsimp only at e;split at e
  .rename_i hsz;cases e;refine⟨_,S.at0,?_⟩;refine h none B E μ σ H _ _ μ1 S.I e1 λv H1 k1 f1 h1=>?_
   have hv:v = .int i:=by simpa only[b7] using h1
   subst hv;have S1:=S.step k1 f1.2;obtain⟨as,ea,hr⟩:=S1.rg;obtain⟨_,hn,_,_⟩:=iK en;have hna:n<as.length:=by rw[hr.2.2.1];exact hn
   have eat:atI (as.map V.ref) i=some (.ref<|as[n]'hna):=by
    unfold atI;rw[Gi,hr.2.2.1,en,GV,GC,Gm hna];rfl
   obtain⟨vs,v1,v2⟩:=hr.2.2.2 n _ (List.get μ ⟨n,hn⟩) (Gm hna)<|Gm hn;refine⟨d,_,i,_,rfl,rfl,SqL.of hr.2.1,eat,.inl ⟨rfl,vs,SqL.of v1⟩,?_⟩;refine h2 none B E μ σ H1 _ z μ2 S1.I e2 λw H2 k2 f2 hw=>?_
   have S2:=S1.step k2 f2.2;obtain⟨as',ea',hr2⟩:=S2.rg;have:as'=as:=by rw[ea]at ea';exact(List.cons.inj ea').2.symm
   subst this;obtain⟨ws,w1,w2⟩:=hr2.2.2.2 n _ (List.get μ ⟨n,hn⟩) (Gm hna)<|Gm hn;have eg:List.getD (α:=List Ac) μ n []=List.get μ ⟨n,hn⟩:=by
    rw[Gz,Gm hn];rfl
   rw[eg]at hsz q;refine⟨_,ws,w,rfl,rfl,w1,by rw[w2.length];exact hsz,?_⟩;have nd:=IJ.1 hr2.1;have hmem:as'[n]'hna∈as':=Ir hna;have hda:d≠as'[n]'hna:=λzz=>nd.1<|zz▸hmem
   obtain⟨Z,_⟩:=S2.remakeR (A':=A) (H':=upd H2 (as'[n]'hna)<|.lst<|ws++[w]) (μ':=List.set (α:=List Ac) μ n<|List.get μ ⟨n,hn⟩++[z])
    (λb o eo nb=>by rw[d7 λzz=>nb (by rw[zz,ea];exact Gq _ hmem)];exact eo)
    (λa ha=>.inl ha)
    (λa ha=>by
     by_cases h1:a=as'[n]'hna
     .rw[h1];exact⟨_,f8⟩
     .rw[d7 h1];exact Regs.has S2.rg a ha)
    (λa ha φ eo=>by
     obtain⟨xs,ex⟩:=hr2.has a<|ea▸ha;rw[ex]at eo;cases eo)
    (λ{W} sW=>by
     refine⟨as',ea,hr2.1,by rw[d7 hda];exact hr2.2.1,by rw[Hn];exact hr2.2.2.1,λi b row h1 h2=>?_⟩;by_cases hi:n=i
     .subst hi;rw[Gm hna]at h1;cases h1;rw[GA hn]at h2;cases h2;exact⟨_,f8,(w2.same sW).snoc<|hw.same sW⟩
     .rw[Gu hi]at h2;obtain⟨us,u1,u2⟩:=hr2.2.2.2 i b row h1 h2;refine⟨us,?_,u2.same sW⟩;rw[d7 λzz=>?_]
      .exact u1
      .obtain⟨hil,hie⟩:=GE.1 h1;exact hi ((Iy.1 nd.2 |> λpw=>by
        have:=HI.1 pw;rcases JF n i with g | g | g
        .exact absurd (zz▸hie▸rfl:as'[n]'hna=as'[i]'hil) (this n i hna hil g)
        .exact g
        .exact absurd (zz▸hie▸rfl:as'[i]'hil=as'[n]'hna)<|this i n hil hna g):n=i))
   exact q _ _ _ _ Z
  .cases e
 | _=>cases e
def yI (hK:X.K=K)(h:Ev K X e te m)(h2:Ev K X a ta ma)(h0:X.N[i0]? = some x:=by rfl)(hv:Vis X.env.scope x:=by first | exact Or.inl rfl | exact Or.inr (Or.inl rfl) | exact Or.inr<|Or.inr rfl)(hd:(x == ("__debug__":Str))=false:=by decide)(hcd:(x == ("__classdict__":Str))=false:=by decide)(hix:gx e:=by intro _ _;rfl)
  (hbase:LY (.Subscript (.Name x px) e p3) "append" X.env (eval (.Subscript (.Name x px) e p3) X.env)=eval (.Subscript (.Name x px) e p3) X.env:=by rfl)
  (hfew:((LR cp<|LN [a] X.env).all (λx=>!x.1)&&(Mf cp<|Mg [] X.env).all (λx=>x.1.isSome)
   && decide ([a].length+([]:List LS).length+(if ([]:List LS).isEmpty then 0 else 1)<30))=true:=by rfl)
  (hline:(ap.endLine == cp.line)=true:=by rfl) (hst:LN [a] X.env=(false,eval a X.env)::LN [] X.env:=by rfl) (hplain:(LR cp<|LN [] X.env).any (·.1)=false:=by rfl)
  (hs:LX (.Call (.Attribute (.Subscript (.Name x px) e p3) "append" ap) [a] [] cp) none pos.line X.env=pure false:=by rfl) :
  SmR K X i0 (.Expr (.Call (.Attribute (.Subscript (.Name x px) e p3) "append" ap) [a] [] cp) pos) (eR<|tBM K "list" aS (tOp (wR K) (W0 i0) te)<|u8 ta N4) (vS m ma):=by
 subst hK;exact⟨il (qQ Kn PySem.F.slot_list_append PySem.F.type_list_append R7 (X5 K3 (Q3 h0 hv hd hcd) h.pe hix) (k9 h2.pe v6 hst) hbase hfew hline hst hplain) hs,Br h.ok h2.ok⟩
end
end
section
section
variable [Fam][Regs]
structure MkR (K:Fg) (X:Cx) (i0:Nat) (st:LJ) (t0:TS) (mk:DE->@M fdI Regs.S):Prop where
 ps:PS X st t0
 ok:∀(G:GF) (B:List LA) (E:DE) (F:FdS) (σ:St) (H:Hp) (D:Ends) (μ0:Regs.S) (F1:FdS),@SitE fdI K G B E F σ H->mk E F=some (μ0,F1) ->
  (∀H1,Kp (@j8 fdI K G) H H1->@FAt fdI K G H1 F1->∀d A1 H2,d9 H1 H2->(∀a∈A1,H1 a=none)->Regs.Reg K (hid H2<|A1++B) H2 d μ0 A1->D.nx (σ.set i0<|some<|.ref d) H2)->t0 D σ H
def mY (i0:Nat)(m:DE->@M K7 Out)(μ0 μ':Regs.S)(E E2:DE):Prop:=J5 E2=true/\∀fd d:LA,m ((r9 fd E).set i0<|some<|.adr d) μ0=some (.nx<|(r9 fd E2).set i0<|some<|.adr d,μ')
open Classical in
def sq (i0:Nat)(m:DE->@M K7 Out)(μ0:Regs.S)(E:DE):Option (DE×Regs.S):=match m ((r9 0 E).set i0<|some<|.adr 0) μ0 with
 | some (.nx E1,μ')=>if mY i0 m μ0 μ' E (X7 i0 E E1) then some (X7 i0 E E1,μ') else none
 | _=>none
def xv {i0:Nat}{m:DE->@M K7 Out}{μ0 μ':Regs.S}{E E2:DE}(h:mY i0 m μ0 μ' E E2)(hr:X7 i0 E ((r9 0 E2).set i0<|some<|.adr 0)=E2):sq i0 m μ0 E=some (E2,μ'):=by
 unfold sq;rw[h.2 0 0];dsimp only;rw[hr,Gp h]
def wc {i0:Nat}{m:DE->@M K7 Out}{μ0 μ':Regs.S}{E E2:DE}(h:sq i0 m μ0 E=some (E2,μ')):mY i0 m μ0 μ' E E2/\(∀i:Nat,E2[i]? = some (some DV.feed)->E[i]? = some (some DV.feed))/\∀x:DV,E2[i0]? ≠ some (some x):=by
 have hb:vW i0 m μ0 E=some E2/\mY i0 m μ0 μ' E E2:=by
  unfold sq at h;split at h
  .rename_i E1 μ1 hm;split at h
   .rename_i hp;cases h;refine⟨?_,hp⟩;unfold vW;rw[hm];dsimp only;rw[Gp ⟨hp.1,λfd d=>⟨_,hp.2 fd d⟩⟩]
   .cases h
  .cases h
 obtain⟨_,h2,h3⟩:=vM hb.1;exact⟨hb.2,h2,h3⟩
noncomputable def dM (i0:Nat)(pub:Regs.S->Ac)(mk:DE->@M fdI Regs.S)(m:DE->@M K7 Out):DE->@M fdI Out:=λE F=>if J5 E=true/\i0<E.length then(mk E F).bind λp=>(sq i0 m p.1 E).bind λz=>some (.nx<|z.1.set i0<|some<|.dat<|pub z.2,p.2) else none
variable {K:Fg}{X:Cx}{i0:Nat}{st0:LJ}{sts rest:List LJ}{t0 ts u:TS}{pub:Regs.S->Ac}{mk:DE->@M fdI Regs.S}{m:DE->@M K7 Out}{mu:DE->@M fdI Out}
def pC {G:GF}{Bz B A1:List LA}{Hz H H1:Hp}{E E2:DE}{F:FdS}{σ:St}{d fd:LA}(hlam:Regs.lam=Fam.lam)(S:@Sit fdI K G Bz Hz E F σ H)(s:∀b∈Bz,b∈B)(sn:∀b∈B,b∈Bz\/Hz b=none)(I:@SitE fdI K G B E F σ H)(sm:d9 H H1)(fr:∀a∈A1,H a=none)
  (no:J5 E2=true) (hx:∀x:DV,E2[i0]? ≠ some (some x)) (hG:∀i:Nat,E2[i]? = some (some DV.feed)->∃c,G=some (fd,c)) {B' A':List LA} {μ':Regs.S} {σ':St} {H':Hp}
  (hpub:∀{K:Fg} {W H:Hp} {d:LA} {μ:Regs.S} {A B2:List LA},Regs.Reg K W H d μ A->d9 W (hid H B2)->(∀a∈A,a ∉ B2)->b7 K (hid H B2) (pub μ) (.ref d)) (Z:SitMB K i0 d (A1++B) A1 H1 B' A' ((r9 fd E2).set i0<|some<|.adr d) μ' σ' H'):@Sit fdI K G Bz Hz (E2.set i0<|some<|.dat<|pub μ') F σ' H':=by
 have S2:=tN hlam S s sn I sm fr no hx hG Z;have hi:i0<E2.length:=by
  by_cases h:i0<E2.length
  .exact h
  .have:=Z.pin;unfold V4 at this;rw[HS (by simp[r9];omega)]at this;cases this
 obtain⟨B3,s3,sn3,I3⟩:=S2.ex;have te:=gN (K:=K) hlam;obtain⟨zl,zt,zb,zo⟩:=xG Z;have nB:∀a∈A',a ∉ Bz:=λa ha z=>by
  rcases(Z.aB a ha).2.2 with h | h
  .exact I.bk.nin (fr a h)<|s a z
  .exact h.2<|GP.2<|.inr<|s a z
 have sub:∀b∈wo B' A',b∈B':=λb hb=>(lC.1 hb).1
 have hmem:∀b∈Bz,b∈wo B' A':=λb hb=>lC.2 ⟨Z.s b<|GP.2<|.inr<|s b hb,λz=>nB b z hb⟩
 have hn0:∀b,H b=none->b∈Bz\/Hz b=none:=λb e=>by
  cases q:Hz b with
  | none=>exact .inr rfl
  | some o =>
   by_cases hb:b ∈ @j8 fdI K G
   .exact .inl<|S.fB b hb
   .rw[S.kp b o q hb]at e;cases e
 have hds:b7 K (hid H'<|wo B' A') (pub μ') (.ref d):=hpub Z.rg (N8 sub) λa ha z=>(lC.1 z).2 ha
 have noS:∀(i:Nat) (ds:List Ac),(E2.set i0<|some<|.dat<|pub μ')[i]? ≠ some (some<|DV.own ds):=λi ds e=>by
  by_cases hj:i0=i
  .subst hj;rw[GA hi]at e;cases e
  .rw[Gu hj]at e;exact J0 no e
 have noT:∀(i:Nat) (w:Bool) (c:Nat) (ps:List (Ac×Ac)),(E2.set i0<|some<|.dat<|pub μ')[i]? ≠ some (some<|DV.dic w c ps):=λi w c ps e=>by
  by_cases hj:i0=i
  .subst hj;rw[GA hi]at e;cases e
  .rw[Gu hj]at e;exact L8 no e
 refine⟨⟨wo B' A',hmem,λb hb=>?_,⟨I3.fd,λb hb=>hmem b<|S2.fB b hb,λb hb=>zb b<|sub b hb,?_,λi x ei=>?_⟩⟩,S2.fB,S2.kp,λi ds a ei _=>absurd ei<|noS i ds,λi k ds es a ei _ _ _=>absurd ei<|noS i ds,λi c ps a ei _=>absurd ei<|noT i _ c ps⟩
 .rcases Z.sn b (sub b hb) with h | h
  .rcases GP.1 h with h | h
   .exact hn0 b<|fr b h
   .exact sn b h
  .refine hn0 b ?_;cases q:H b with
   | none=>rfl
   | some o=>rw[sm b o q]at h;cases h
 .rw[Hn];exact I3.ln
 .by_cases h0:i0=i
  .subst h0;rw[GA hi]at ei;cases ei;have:=Z.at0;exact⟨_,this,hds⟩
  .rw[Gu h0]at ei;have e':((r9 fd E2).set i0<|some<|.adr d)[i]? = some (mB fd<|some x):=by
    rw[Gu h0];unfold r9;rw[GC,ei];rfl
   cases x with
   | feed =>
    obtain⟨v,v1,v2⟩:=zo i (.adr fd) e';obtain⟨c,g⟩:=hG i ei;exact⟨v,v1,fd,c,g,v2⟩
   | dat y =>
    obtain⟨v,v1,v2⟩:=zo i _ e';exact⟨v,v1,b7.same (show b7 K (hid H' B') y v from v2)<|N8 sub⟩
   | fn y=>exact zo i _ e'
   | adr y=>exact zo i _ e'
   | own y=>exact absurd ei<|J0 no
   | dic _ _ _=>exact absurd ei<|L8 no
def sE (hlam:Regs.lam=Fam.lam)(hpub:∀{K:Fg} {W H:Hp} {d:LA} {μ:Regs.S} {A B2:List LA},Regs.Reg K W H d μ A->d9 W (hid H B2)->(∀a∈A,a ∉ B2)->b7 K (hid H B2) (pub μ) (.ref d))
  (h0:MkR K X i0 st0 t0 mk) (hU:SmsU K X i0 sts rest ts u m) (h2:Sss K X rest u mu):Sss K X (st0::sts) (rQ t0 ts) (mSq (dM i0 pub mk m) mu):=⟨y8 h0.ps<|hU.ps h2.ps,λG Bz Hz E F σ H D r F' S e q=>by
 obtain⟨⟨o,F1⟩,e1,e⟩:=bS9 e;unfold dM at e1;split at e1
 .rename_i hc;obtain⟨no,hi⟩:=hc;obtain⟨⟨μ0,F2⟩,e3,e1⟩:=bS9 e1;obtain⟨⟨E2,μ'⟩,e4,e1⟩:=bS9 e1;cases e1;obtain⟨⟨no2,hm⟩,hf,hx⟩:=wc e4;obtain⟨B,s,sn,I⟩:=S.ex;refine h0.ok G B E F σ H _ μ0 _ I e3 λH1 k1 f1 d A1 H2 sm fr rg=>?_
  have S1:=S.step k1 f1;have I1:SitE K G B E _ σ H1:=I.step k1 f1;obtain⟨fd,hfd⟩:∃fd:LA,∀a c,G=some (a,c)->a=fd:=by
   cases G with
   | none=>exact⟨0,λa c z=>by cases z⟩
   | some p=>exact⟨p.1,λa c z=>by cases z;rfl⟩
  refine hU.ok d (A1++B) A1 H2 (A1++B) A1 _ μ0 _ H2 D _ μ' (tu (Bz:=Bz) (Hz:=Hz) hlam I1 no hi hfd sm fr rg) (hm fd d) λB' A' σ' H' Z=>?_
  refine h2.ok G Bz Hz _ F2 σ' H' D r F' (pC hlam S1 s sn I1 sm fr no2 hx (λi z=>?_) hpub Z) e q;obtain⟨w,_,a,c,g,_⟩:=I1.loc i _<|hf i z;exact⟨c,by rw[g,hfd a c g]⟩
 .cases e1⟩
end
end
section
section
variable [LamC]
local instance rowsI2:Regs:=mP
def ue (μ:List (List Ac)):Ac:=.list<|μ.map .list
theorem jZ {K:Fg}{H H2:Hp}:∀{as:List LA} {μ:List (List Ac)},as.length = μ.length->(∀(i:Nat) (a:LA) (row:List Ac),as[i]? = some a->μ[i]? = some row->∃vs,H2 a=some (.lst vs)/\a8 K H2 row vs)->a8 K H2 (μ.map .list) (as.map V.ref)
 | [],[],_,_=>a8.nil
 | [],_::_,h,_=>by simp at h
 | _::_,[],h,_=>by simp at h
 | a::as,r :: μ,h,hr=>by
  obtain⟨vs,v1,v2⟩:=hr 0 a r rfl rfl;exact .cons (b7.lst v1 v2) (jZ (H:=H) (by simpa using h) λi b row h1 h2=>hr (i+1) b row (by simpa using h1)<|by simpa using h2)
def uV {K:Fg}{W H:Hp}{d:LA}{μ:Regs.S}{A B2:List LA}(h:Regs.Reg K W H d μ A)(s:d9 W (hid H B2))(n:∀a∈A,a ∉ B2):b7 K (hid H B2) (ue μ) (.ref d):=by
 obtain⟨as,e,nd,hd,hl,hr⟩:=h;refine b7.lst (by rw[i4<|n d (by rw[e];exact Gx)];exact hd) (jZ (H:=H) hl λi a row h1 h2=>?_);obtain⟨vs,v1,v2⟩:=hr i a row h1 h2;exact⟨vs,by rw[i4<|n a (by rw[e];exact Gq _<|HF h1)];exact v1,v2.same s⟩
end
section
variable [Fam][LamC]
local instance rowsI3:Regs:=mP
noncomputable def gY (mi:DE->@M fdI (List Ac)):DE->@M fdI (List<|List Ac):=λE F=>(mi E F).bind λp=>if p.1.length<=LM then some (List.replicate p.1.length [],p.2) else none
variable {K:Fg}{X:Cx}{i0 k:Nat}{cap:List Nat}{wi:TI}{mi:DE->@M fdI (List Ac)}
def ph (hi:TIs K wi mi):∀(G:GF) (B:List LA) (E:DE) (F:FdS) (σ:St) (H:Hp) (D:Ends) (μ0:List (List Ac)) (F1:FdS),SitE K G B E F σ H->gY mi E F=some (μ0,F1) ->
  (∀H1,Kp (j8 K G) H H1->FAt K G H1 F1->∀d A1 H2,d9 H1 H2->(∀a∈A1,H1 a=none)->Regs.Reg K (hid H2<|A1++B) H2 d μ0 A1->D.nx (σ.set i0<|some<|.ref d) H2)->X3 (tLC wi k cap (E9 0) wm<|ou N4) (E9 i0) D σ H:=λG B E F σ H D μ0 F1 I e q=>by
 obtain⟨⟨items,F2⟩,e1,e⟩:=bS9 e;dsimp only at e;split at e
 .rename_i hsz;cases e;refine hi G B E F σ H _ items _ I e1 λJ H1 k1 f1 ok d hd=>?_
  have I1:SitE K G B E _ σ H1:=I.step k1 f1;have stab:∀{H':Hp},d9 H1 H'->Kp (j8 K G) H1 H'/\d9 (hid H1 B) (hid H' B):=λ{H'} s=>⟨Kp.same s,(Kp.same s).hid (fp:=j8 K G) I.fB⟩
  refine sF items.length (λi σ' acc H'=>∃as:List LA,acc=as.map V.ref/\as.length=i/\(d::as).Nodup/\H' d=some (.lst acc)/\(∀a∈as,H' a=some (.lst []))/\(∀a∈as,H1 a=none)/\d9 H1 H') ⟨[],rfl,rfl,by simp,f8,λa ha=>(by cases ha),λa ha=>(by cases ha),d9.upd hd⟩ ?_ ?_ ?_ ?_
  .rintro i σ' acc H' hlt ⟨as,rfl,_,_,_,_,_,sm⟩;exact((ok H' B<|stab sm).1 i items[i]<|by simp[hlt]).1
  .rintro σ' acc H' ⟨as,rfl,_,_,_,_,_,sm⟩;exact(ok H' B<|stab sm).2
  .rintro i σ' acc H' hlt ⟨as,rfl,hl,nd,hD,hA,hn,sm⟩ x H2 y R hR;obtain⟨s2,_⟩:=((ok H' B<|stab sm).1 i items[i]<|by simp[hlt]).2 x H2 y;refine⟨HA _,λp hp=>?_⟩;have pd:d≠p:=f9 (s2 _ _ hD) hp;have pa:∀a∈as,a≠p:=λa ha=>f9 (s2 _ _<|hA a ha) hp
   have p1:H1 p=none:=by
    cases z:H1 p with
    | none=>rfl
    | some o=>rw[s2 _ _<|sm _ _ z]at hp;cases hp
   have hD2:upd H2 p (.lst []) d=some (.lst<|as.map V.ref):=by rw[d7 pd];exact s2 _ _ hD
   refine⟨hD2,by rw[Gi];omega,hR _ _ _ ⟨as++[p],by simp,by simp[hl],?_,f8,λa ha=>?_,λa ha=>?_,λb o eb=>?_⟩⟩
   .rw[IJ]at nd ⊢;refine⟨λz=>?_,?_⟩
    .rcases GP.1 z with z | z
     .exact nd.1 z
     .simp at z;exact pd z
    .rw[List.nodup_append];refine⟨nd.2,by simp,λa ha b hb=>?_⟩;simp at hb;rw[hb];exact pa a ha
   .have ad:a≠d:=by
     rcases GP.1 ha with z | z
     .exact λw=>(IJ.1 nd).1<|w▸z
     .simp at z;rw[z];exact Ie pd
    rw[d7 ad];rcases GP.1 ha with z | z
    .rw[d7<|pa a z];exact s2 _ _<|hA a z
    .simp at z;rw[z];exact f8
   .rcases GP.1 ha with z | z
    .exact hn a z
    .simp at z;rw[z];exact p1
   .rw[d7<|f9 eb hd,d7<|f9 eb p1];exact s2 _ _<|sm b o eb
  .rintro σ' acc H' ⟨as,rfl,hl,nd,hD,hA,hn,sm⟩;refine q H1 k1 f1 d (d::as) H' sm (λa ha=>?_) ⟨as,rfl,nd,hD,by rw[hl,IG],λi a row h1 h2=>?_⟩
   .rcases GK.1 ha with rfl | ha
    .exact hd
    .exact hn a ha
   .rw[HW]at h2;split at h2
    .cases h2;exact⟨[],hA a<|HF h1,a8.nil⟩
    .cases h2
 .cases e
def xn (i0:Nat){y:Str}{py p pl pos:Pos}{tg iter:LK}{scope:LH}(osc:LH)(N:List Str){bd:Ac->DE->Option DE}(hN:X.N.Nodup)(hi:Eib K X tg iter wi mi)
  (hg:∀{cl C ex pins s H},Eg K (cxC X N scope cl C ex pins s H) tg (E9 0) bd)
  (hc:X.calm=true:=by rfl) (hosc:X.env.scope=osc:=by rfl) (hcap:Caps X.N osc N k cap scope:=by exact {})
  (hix:X.N[i0]? = some y:=by rfl) (hLy:Loc X.env.scope y:=by first | exact Or.inl rfl | exact Or.inr rfl)
  (hs:∀x,Ma iter X.env x=pure x:=by intro _;rfl) (hfy:X.fn y=true\/X.env.scope.names.lookup y=some .local:=by first | exact .inl rfl | exact .inr rfl | assumption)
  (hsw:LX (.ListComp (.List [] pl) [⟨tg,iter,[],0⟩] scope p) (some<|.Name y py) pos.line X.env=pure true:=by rfl) :
  MkR K X i0 (.Assign [.Name y py] (.ListComp (.List [] pl) [⟨tg,iter,[],0⟩] scope p) pos) (X3 (tLC wi k cap (E9 0) wm<|ou N4)<|E9 i0) (gY mi) :=
 ⟨jL hN hix hLy hc hosc hcap hi.pi (λ_ _ _ _ _ _=>hg.pg) (λcl C ex pins s H=>nQ) (λcl C ex pins s H=>bL v6) hs hfy hsw,ph hi.ok⟩
end
end
section
section
variable {X:Cx}{es:List LK}{tk:Nat}{tp apos cpos:Pos}{o:LK}{to:TE}
def qW {X:Cx}{pins:List (LA×LO)}{σ:L2.St}{H:Hp}{s:LC}{a:LA}{kvs:List (Int×V)}{vs:List (Key×Lz)}{ep:Nat}(I:Inv X pins σ H s)(e:H a=some (.ext<|FrI a kvs vs ep)) :
  s.TypeIs (.ref a) "dict" /\ (∀b,Lz.ref a = .ref b->∃ob,s.heap.get? b=some ob/\ob.dict=none)/\(a == sysModules)=false:=by
 obtain⟨z,y,r,hd⟩:=tH I e;obtain⟨o,es,eo,ex,_⟩:=hd X.prog X.w;refine⟨⟨o,eo,ex.1⟩,λb q=>?_,y⟩;cases q;exact⟨o,eo,ex.2.1⟩
def tQ {kvs:List (Int×V)}{i:Int}:cj (kvs.map aX) (.inl i:Key)=cj kvs i:=by
 unfold cj;induction kvs with
 | nil=>rfl
 | cons p kvs ih =>
  rw[GH];by_cases e:p.1=i
  .rw[Jb (by simp[aX,e]),Jb<|by simp[e]];rfl
  .rw[Jc (by simp[aX,e]),Jc<|by simp[e]];exact ih
def sR {kvs:List (Int×V)}{i:Int}{v:V}:bH (kvs.map aX) (.inl i:Key) v=(bH kvs i v).map aX:=by
 have e1:((kvs.map aX).any λkv=>decide (kv.1=(.inl i:Key)))=kvs.any λkv=>decide (kv.1=i):=by
  rw[List.any_map];congr 1;funext p;simp[aX,Function.comp]
 unfold bH;rw[e1];split
 .rw[GL,GL];refine GO λp _=>?_
  show(if (Sum.inl p.1:Key) = .inl i then _ else _)=aX (if p.1=i then _ else _);by_cases e:p.1=i
  .rw[Gp (by rw[e]),Gp e];rfl
  .rw[Gr<|λz=>e<|Sum.inl.inj z,Gr e]
 .rw[GS];rfl
end
end
section
def igD (ps:List (Ac×Ac))(n:Int):Option Ac:=(ps.find? λp=>decide (C1 p.1=some n)).map (·.2)
def ipD (ps:List (Ac×Ac))(n:Int)(e:Ac):List (Ac×Ac):=if (igD ps n).isSome then ps.map (λp=>if C1 p.1=some n then(p.1,e) else p) else ps++[(.int n,e)]
section
variable {K:Fg}{H:Hp}{n:Int}
theorem uG:∀{ps:List (Ac×Ac)} {xs:List (Int×V)},IVs K H ps xs->(∃e v,igD ps n=some e/\cj xs n=some v/\b7 K H e v)\/(igD ps n=none/\cj xs n=none)
 | [],_,h=>by cases h;exact .inr ⟨rfl,rfl⟩
 | p::ps,_,⟨i,v,r,e,h1,h3,h4⟩=>by
  subst e;unfold igD cj;by_cases hz:i=n
  .subst hz;refine .inl ⟨p.2,v,?_,?_,h3⟩
   .rw[Jb (by rw[h1];exact GX rfl)];rfl
   .rw[Jb<|by simp];rfl
  .rw[Jc (by rw[h1];simp[C1,hz]),Jc<|by simp[hz]];exact uG h4
theorem rA:∀{ps:List (Ac×Ac)} {xs:List (Int×V)},IVs K H ps xs->(xs.any λkv=>decide (kv.1=n))=(igD ps n).isSome
 | [],_,h=>by cases h;rfl
 | p::ps,_,⟨i,v,r,e,h1,h3,h4⟩=>by
  subst e;have ih:=rA h4;unfold igD at ih ⊢;rw[Lg];by_cases hz:i=n
  .rw[Jb (by rw[h1];simp[C1,hz]),GX hz];rfl
  .rw[Jc (by rw[h1];simp[C1,hz]),Hx hz,Bool.false_or];exact ih
theorem kX {e:Ac}{v:V}(he:b7 K H e v):∀{ps:List (Ac×Ac)} {xs:List (Int×V)},IVs K H ps xs->IVs K H (ps.map λp=>if C1 p.1=some n then(p.1,e) else p) (xs.map λkv=>if kv.1=n then(kv.1,v) else kv)
 | [],_,h=>by cases h;rfl
 | p::ps,_,⟨i,v',r,ex,h1,h3,h4⟩=>by
  subst ex;rw[GH,GH];by_cases hz:i=n
  .rw[Gp (by rw[h1];simp[C1,hz]),Gp hz];exact⟨i,v,_,rfl,h1,he,kX he h4⟩
  .rw[Gr (by rw[h1];simp[C1,hz]),Gr hz];exact⟨i,v',_,rfl,h1,h3,kX he h4⟩
theorem mI {e:Ac}{v:V}(he:b7 K H e v):∀{ps:List (Ac×Ac)} {xs:List (Int×V)},IVs K H ps xs->IVs K H (ps++[(.int n,e)]) (xs++[(n,v)])
 | [],_,h=>by cases h;exact⟨n,v,[],rfl,rfl,he,rfl⟩
 | p::ps,_,⟨i,v',r,ex,h1,h3,h4⟩=>by
  subst ex;exact⟨i,v',_,rfl,h1,h3,mI he h4⟩
def zc {e:Ac}{v:V}{ps:List (Ac×Ac)}{xs:List (Int×V)}(h:IVs K H ps xs)(he:b7 K H e v):IVs K H (ipD ps n e) (bH xs n v):=by
 unfold ipD bH;rw[rA h];split
 .exact kX he h
 .exact mI he h
end
end
section
section
variable {prog:LD}{w:LF}{A:LG}{E:Lz->LC->Prop}{s:LC}
variable {b1 b2:Bool}{z TI TO i1 i2 l1 l2:LA}{xs ys:Array Lz}{a b:Lz}
def cY:typeLookup (.type "zip") "__getattr__" = pure none:=by rw[typeLookup_type,builtinLookup_eq_fast];kernel_rfl
def ic:typeLookup (.type "zip") "keys" = pure none:=by rw[typeLookup_type,builtinLookup_eq_fast];kernel_rfl
def iR:entryFor table "zip.__getattribute__" = some Builtin.«object.__getattribute__» :=
 entryFor_alias (id':="object.__getattribute__") (by kernel_rfl) (by decide +kernel) (by decide +kernel) (by kernel_rfl)
def aj:entryFor table "dict.update.loop" = some Builtin.«dict.update.loop»:=entryFor_of_tree (by kernel_rfl)
def M4:plainId "dict.update.loop" = true:=by decide +kernel
def rG (a:LA)(fs:Array Lz)(sl:Array (Option Lz))(u:Tok) :
  Meets (Builtin.«object.__getattribute__» ⟨[.ref a,.str "keys" u],[]⟩) (λA R s=>s.heap.get? a=some { cls:=.type "zip",dict:=none,data:=.fields fs,slots:=sl }/\raisesAttr (.ref a) "keys" A R s) :=
 Meets.of_wp λprog w A R s hs=>by
  obtain⟨hp,g,d,tk,os⟩:=s;obtain⟨hx,hs⟩:=hs;have hmiss:=ic;have hT:(⟨hp,g,d,tk,os⟩:LC).TypeIs (.ref a) "zip":=⟨_,hx,rfl⟩;have hname:(["__module__","__name__","__qualname__","__doc__","__annotations__"]:List Str).contains ("keys":Str)=false:=by decide
  unfold Builtin.«object.__getattribute__»;repeat (any_goals (first | assumption | wp_step))
  exact wpAny_raiseAttrError hs.1 hs.2 (attrMsg_fits (by decide +kernel)<|by decide +kernel)
def vx {z:LA}{fs:Array Lz}{sl:Array (Option Lz)}{Q:Option Lz->LC->Prop}(hx:s.heap.get? z=some { cls:=.type "zip",dict:=none,data:=.fields fs,slots:=sl })(hA:A.handled=none)
  (h:∀h' tk,(∀b o,s.heap.get? b=some o->h'.get? b=some o)->Q none { s with heap:=h',toks:=tk }) :
  LU (model prog w) A (getAttr? (.ref z) "keys") Q E s:=by
 obtain⟨hp,g,d,tk,os⟩:=s;have hT:∀tk',(⟨hp,g,d,tk',os⟩:LC).TypeIs (.ref z) "zip":=λ_=>⟨_,hx,rfl⟩
 have f1:=sub_AttributeError;have f3:=Ko.lookup;have f4:=Ko.bind<|.ref z;have f5:=cY;unfold getAttr? getAttrBy? getAttrBy;repeat (any_goals (first | assumption | exact hT _ | ((with_reducible show LU _ _ (call (Lz.builtin "zip.__getattribute__") _ _) _ _ _);refine Jm Ko (hT _) iR (F.args_zip_getattribute_2 _ _) (rG z fs sl _) ⟨hx,hA,λh' tk' e hx'=>?_⟩) | wp_step))
 obtain⟨t',u',he⟩:=hx'.there;show LU _ _ (getattributeRaised _ _ _ _ _ _ _) _ _ _;unfold getattributeRaised;repeat (any_goals (first | assumption | wp_step))
 exact h _ _ hx'.keeps
end
end
section
def dzF (l:List (Int×Lz))(kvs:List (Key×Lz)):List (Key×Lz):=l.foldl (λd p=>stored d (.inl p.1:Key) p.2) kvs
section
variable {prog:LD}{w:LF}{A:LG}{E:Lz->LC->Prop}{s:LC}
variable {b1 b2:Bool}{z TI TO i1 i2 l1 l2:LA}{xs ys:Array Lz}{a b:Lz}
def pE {κ:Type}[DecidableEq κ](kvs:List (κ×Lz))(k:κ)(v:Lz):(stored kvs k v).length<=kvs.length+1:=by
 unfold stored;split
 .rw[Gi];omega
 .rw[Hm];simp
def vv {S:LA}{R:Result->LC->Prop}(hh:A.handled=none)(hn:xs.size<=LM)(hxy:xs.size=ys.size)(D:ZipApart z TI TO i1 i2 l1 l2)(L:Bel S z TI TO i1 i2 l1 l2) :
  ∀(l:List (Int×Lz)) (k:Nat) (i:Int) (t:Tok) (s:LC) (kvs:List (Key×Lz)),k+l.length=xs.size->(∀(j:Nat) p,l[j]? = some p->(∃t,xs[k+j]? = some (.int p.1 t))/\ys[k+j]? = some p.2) ->
  ZSt s.heap z TI TO i1 i2->IsPair s.heap TI (.ref i1) (.ref i2)->x4 b1 s.heap i1 l1 k->x4 b2 s.heap i2 l2 k->G2 b1 s.heap l1 xs->G2 b2 s.heap l2 ys ->
  s.heap.DictOf (m8 prog w) S kvs->kvs.length<=k ->
  (∀h' tk,(∀b o,b≠S->b≠z->b≠TO->b≠i1->b≠i2->s.heap.get? b=some o->h'.get? b=some o)->h'.DictOf (m8 prog w) S (dzF l kvs)->R (.ok<|.ret .none) { s with heap:=h',toks:=tk }) ->
  codeAny (model prog w) A (.builtin "dict.update.loop" ⟨[.ref S,.ref z,.int i t,.none],[]⟩) R s:=by
 have neS:∀{a:Nat},a<S->S≠a:=λh=>IL h
 intro l;induction l with
 | nil =>
  intro k i t s kvs hk hl hst hTI h1 h2 hl1 hl2 hS hle hR;have hin:k=xs.size:=by simpa using hk
  subst hin;refine KQ aj ?_;rw[JO M4 _];show LU _ A.in1 (pyNext (.ref z) >>= _) _ _ s;refine Gh (yE hh D hst hTI h1 h2 hl1 hl2 (by simp) λh' eb=>?_);show LU _ _ (Builtin.Dict.addKeywords S [] >>= _) _ _ _;refine Gh<|Gk<|Gk ?_;obtain⟨o,es,ep,ho,r⟩:=hS;exact hR h' s.toks (λb o _ c1 c2 c3 c4 e=>eb b o c1 c2 c3 c4 e) ⟨o,es,ep,eb S _ (neS L.a) (neS L.c) (neS L.d) (neS L.e) ho,r⟩
 | cons p l ih =>
  intro k i t s kvs hk hl hst hTI h1 h2 hl1 hl2 hS hle hR;have hlt:k<xs.size:=by simp only[GM]at hk;omega
  obtain⟨⟨tk,hx⟩,hy⟩:=hl 0 p rfl;simp only[Nat.add_zero]at hx hy;refine KQ aj ?_;rw[JO M4 _];show LU _ A.in1 (pyNext (.ref z) >>= _) _ _ s;refine Gh (vN D hst hTI h1 h2 hl1 hl2 hx hy λh' hst' h1' h2' hT hz hkp=>?_);have hS':h'.DictOf (m8 prog w) S kvs:=by
   obtain⟨o,es,ep,ho,r⟩:=hS;exact⟨o,es,ep,hkp S _ (neS L.a) (neS L.c) (neS L.d) (neS L.e) ho,r⟩
  have hSlt:S<s.heap.objs.size:=by
   obtain⟨o,es,ep,ho,r⟩:=hS;exact Gv ho
  refine Gh<|HB ?_;refine Gh<|JJ ?_;unfold Builtin.Dict.pairItems;refine Gh<|JG (T:="tuple") ⟨_,hT,rfl⟩ ?_;rw[Gp<|by decide];refine Gh<|HL hT rfl ?_;refine Gk ?_;show LU _ _ (holding _<|dictSet S (.int p.1 tk) p.2) _ _ _;refine HB (wpAny_dictSet_pairs (knd:=m8 prog w) (k:=(.inl p.1:Key)) (cH prog w p.1 tk) hS' (λh2 hd2 sb=>?_)<|He hle<|He (Ii hlt) hn);have oth:∀b o,b≠S->h'.get? b=some o->h2.get? b=some o:=λb o hb e=>(sb.2 b hb).trans e
  refine Gk ⟨JQ M4 _,ih (k+1) _ _ _ _ (by simp only[GM]at hk;omega) (λj q e=>?_) ?_ ?_ ?_ ?_ ?_ ?_ hd2 (He (pE _ _ _)<|Nat.succ_le_succ hle) λh3 tk3 hk3 hd3=>?_⟩
  .have:=hl (j+1) q e;rw[show k+(j+1)=k+1+j by omega]at this;exact this
  .refine hst'.at λb o hb e=>oth b o ?_ e
   rcases hb with rfl | hc
   .exact Ie<|neS L.a
   .intro q;subst q;obtain⟨o',es,ep,ho,⟨c1,_⟩,_⟩:=hS';rw[ho]at e;cases e;rw[c1]at hc;simp at hc
  .exact oth TI _ (Ie<|neS L.b)<|hkp TI _ D.TIz D.TITO D.TIi1 D.TIi2 hTI
  .exact h1'.at λo e=>oth i1 _ (Ie<|neS L.d) e
  .exact h2'.at λo e=>oth i2 _ (Ie<|neS L.e) e
  .exact(hl1.at λo e=>hkp l1 o D.l1z D.l1TO D.l1i1 D.l1i2 e).at λo e=>oth l1 _ (Ie<|neS L.f) e
  .exact(hl2.at λo e=>hkp l2 o D.l2z D.l2TO D.l2i1 D.l2i2 e).at λo e=>oth l2 _ (Ie<|neS L.g) e
  .exact hR h3 tk3 (λb o c0 c1 c2 c3 c4 e=>hk3 b o c0 c1 c2 c3 c4<|oth b o c0<|hkp b o c1 c2 c3 c4 e) hd3
def oz {Q:Lz->LC->Prop}{l:List (Int×Lz)}(hh:A.handled=none)(hn:xs.size<=LM)(hxy:xs.size=ys.size)(hlen:l.length=xs.size)(hl:∀(j:Nat) p,l[j]? = some p->(∃t,xs[j]? = some (.int p.1 t))/\ys[j]? = some p.2)
  (D:ZipApart z TI TO i1 i2 l1 l2) (L:Bel s.heap.objs.size z TI TO i1 i2 l1 l2)
  (hz:IsZip s.heap z TI TO .none) (hTI:IsPair s.heap TI (.ref i1) (.ref i2)) (hTO:IsPair s.heap TO a b) (h1:x4 b1 s.heap i1 l1 0) (h2:x4 b2 s.heap i2 l2 0) (hl1:G2 b1 s.heap l1 xs) (hl2:G2 b2 s.heap l2 ys)
  (q:∀h' tk,(∀b o,b≠z->b≠TO->b≠i1->b≠i2->s.heap.get? b=some o->h'.get? b=some o)->h'.DictOf (m8 prog w) s.heap.objs.size (dzF l [])->Q (.ref s.heap.objs.size) { s with heap:=h',toks:=tk }) :
  LU (model prog w) A (call (.type "dict") [.ref z]) Q E s:=by
 refine callType_codes (Q₁:=λobj s₁=>obj = .ref s.heap.objs.size/\s₁={ s with heap:=s.heap.push { cls:=.type "dict",data:=.dict #[] } }) F.kt_called_dict (F.kt_typeCall_dict_1 _) F.entry_dict_init (kt_code_dict_new _ ⟨rfl,rfl⟩) ?_;rintro obj s₁ ⟨rfl,rfl⟩;have hnew:(s.heap.push { cls:=.type "dict",data:=.dict #[] }).DictOf (m8 prog w) s.heap.objs.size []:=LL.DictOf.new s.heap;refine⟨hnew.typeIs,F.args_dict_init_2 _ _,?_⟩;have up:∀b o,s.heap.get? b=some o->(s.heap.push { cls:=.type "dict",data:=.dict #[] }).get? b=some o:=λb o e=>Gj _ e
 have hz':=up _ _ hz;unfold Builtin.«dict.__init__»;refine Gh ?_;unfold Builtin.Dict.selfAndRest;refine Gh<|wpAny_notOrdered_dict hnew.typeIs ?_;show LU _ _ (pure (s.heap.objs.size,[Lz.ref z])) _ _ _;refine Gk ?_;show LU _ _ (Builtin.Dict.updateFrom "dict.__init__" s.heap.objs.size (.ref z) [] .none) _ _ _;unfold Builtin.Dict.updateFrom;refine Gh<|JG (T:="zip") ⟨_,hz',rfl⟩ ?_;rw[Gp<|by decide];refine Gh (vx (s:={ s with heap:=s.heap.push { cls:=.type "dict",data:=.dict #[] } }) hz' hh λh3 tk hk3=>?_);rw[Gp<|by rfl];refine Gh<|Iw ?_;have hz3:=hk3 _ _ hz';refine Gh<|wpAny_pyIter_zip (s:={ s with heap:=h3,toks:=tk }) hz3 ?_;have all:∀b o,s.heap.get? b=some o->h3.get? b=some o:=λb o e=>hk3 b o<|up b o e
 refine Gk ⟨JQ M4 _,?_⟩;obtain⟨o,es,ep,ho,r⟩:=hnew;show codeAny (model prog w) A.in1 (.builtin "dict.update.loop" ⟨[.ref s.heap.objs.size,.ref z,.int 0 0,.none],[]⟩) (wants (λr s₂=>r = .none/\Q (.ref s.heap.objs.size) s₂) E) { s with heap:=h3,toks:=tk };refine vv (A:=A.in1) (s:={ s with heap:=h3,toks:=tk }) (kvs:=[]) (R:=wants (λr s₂=>r = .none/\Q (.ref s.heap.objs.size) s₂) E) hh hn hxy D L l 0 _ _ (by simpa using hlen) (λj p e=>by simpa using hl j p e) (.inl ⟨hz3,a,b,all _ _ hTO⟩) (all _ _ hTI) (h1.at λo e=>all _ o e) (h2.at λo e=>all _ o e) (hl1.at λo e=>all _ o e) (hl2.at λo e=>all _ o e) ⟨o,es,ep,hk3 _ _ ho,r⟩ (HA _) λh4 tk4 hk4 hd4=>⟨rfl,?_⟩
 exact q h4 tk4 (λb o c1 c2 c3 c4 e=>hk4 b o (GR<|Gv e) c1 c2 c3 c4<|all b o e) hd4
end
end
section
def zV (ns:List Int)(ws:List V)(kvs:List (Int×V)):List (Int×V):=(ns.zip ws).foldl (λd p=>bH d p.1 p.2) kvs
def zD (ns:List Int)(ys:List Ac)(ps:List (Ac×Ac)):List (Ac×Ac):=(ns.zip ys).foldl (λd p=>ipD d p.1 p.2) ps
def tDZ (b:Bool)(K:Fg)(tl:TA):TE:=λσ H Q=>tl σ H λxs H1=>∃a1 a2,xs=[.ref a1,.ref a2]/\∃ns ws,SqA b K H1 a1 (ns.map V.int)/\SqL K H1 a2 ws/\ns.length=ws.length/\ns.length<=1000 /\
 ∀p vs ep,H1 p=none->pT p (FrI p (zV ns ws []) vs ep)->Q (.ref p) (upd H1 p<|.ext<|FrI p (zV ns ws []) vs ep)
section
variable {X:Cx}{K:Fg}{p p2 p3 pos pos2 pos':Pos}
theorem qv:∀(ns:List Int) (ws:List V) (kvs:List (Int×V)),(zV ns ws kvs).length<=kvs.length+ns.length
 | [],_,_=>by simp[zV]
 | n::ns,[],kvs=>by simp[zV]
 | n::ns,w::ws,kvs=>by
  have h:=qv ns ws<|bH kvs n w;have h2:=jH kvs n w;simp only[zV,Jx,List.foldl_cons,GM]at h ⊢;omega
theorem qp:∀(ns:List Int) (ws:List V) (us:List Lz) (kvs:List (Int×V)) (vs:List (Key×Lz)),j6 ws us->KV (kvs.map aX) vs->KV ((zV ns ws kvs).map aX) (dzF (ns.zip us) vs)
 | [],_,_,kvs,vs,_,h=>by simpa [zV,dzF] using h
 | n::ns,_,_,kvs,vs,.nil,h=>by simpa [zV,dzF] using h
 | n::ns,w::ws,u::us,kvs,vs,.cons r rr,h=>by
  have h2:=qp ns ws us (bH kvs n w) (stored vs (.inl n) u) rr (by rw[<-sR];exact h.put _ r);simpa [zV,dzF] using h2
def AU {b:Bool}{h:LL}{l:LA}{xs:Array Lz}(x:G2 b h l xs):l<h.objs.size:=by
 cases b
 .obtain⟨o,z,_⟩:=(show h.IsTuple l xs from x);exact Gv z
 .obtain⟨o,z,_⟩:=(show h.IsList l xs from x);exact Gv z
def ve {prog:LD}{w:LF}{A:LG}{E:Lz->LC->Prop}{s:LC}{b:Bool}{l1 l2:LA}{xs ys:Array Lz}{Q:Lz->LC->Prop}(m1:G2 b s.heap l1 xs)(m2:s.heap.IsList l2 ys)
  (h:∀h',IsZip h' (s.heap.objs.size+4) (s.heap.objs.size+2) (s.heap.objs.size+3) .none->IsPair h' (s.heap.objs.size+2) (.ref s.heap.objs.size) (.ref<|s.heap.objs.size+1) ->
   IsPair h' (s.heap.objs.size+3) .none .none->x4 b h' s.heap.objs.size l1 0->x4 true h' (s.heap.objs.size+1) l2 0->(∀c o,s.heap.get? c=some o->h'.get? c=some o)->Q (.ref<|s.heap.objs.size+4) { s with heap:=h' }) :
  LU (model prog w) A (call (.type "zip") [.ref l1,.ref l2]) Q E s:=by
 cases b
 .exact uD m1 m2 h
 .exact call_zip_2 m1 m2 λh' a1 a2 a3 a4 a5 _ a6=>h h' a1 a2 a3 a4 a5 a6
def wu {b:Bool}{l1 l2:LK}{tl:TA}(hK:X.K=K)(hc:X.calm=true)(hg:Gl X "zip")(hm:X.mg "zip" = none)(hg2:Gl X "dict")(hm2:X.mg "dict" = none)(ha:PA X [l1,l2] tl)
  (hs:LN [l1,l2] X.env=(false,eval l1 X.env)::LN [l2] X.env:=by rfl) (hp:(LR pos2<|LN [l2] X.env).any (·.1)=false:=by rfl)
  (hs2:LN [.Call (.Name "zip" p2) [l1,l2] [] pos2] X.env=[(false,eval (.Call (.Name "zip" p2) [l1,l2] [] pos2) X.env)]:=by rfl) (hp2:(LR pos<|LN [] X.env).any (·.1)=false:=by rfl) :
  PE X (.Call (.Name "dict" p) [.Call (.Name "zip" p2) [l1,l2] [] pos2] [] pos) (tDZ b K tl):=by
 subst hK;intro pins s σ H Q I h;refine Call_<|Q5 I hg2 hm2 boot_dict<|Ik ?_ hs2 hp2;rw[hs2];show LU _ _ (spliced ((false,eval (.Call (.Name "zip" p2) [l1,l2] [] pos2) X.env)::[])) _ _ s;refine La ?_;refine Call_ (Q5 I hg hm boot_zip<|Ik (thn (ha pos2 pins s σ H _ I h) λus s1 ⟨vs,H1,I1,r1,q1⟩=>?_) hs hp);obtain⟨a1,a2,e,ns,ws,hq1,hq2,hl,hz,q⟩:=q1;subst e;cases r1 with
 | cons r rr =>
  cases rr with
  | cons r' rr =>
   cases rr;cases r;cases r';obtain⟨its1,rv1,p1⟩:=SqA.get (b:=b) I1 hq1;obtain⟨its2,rv2,p2'⟩:=SqA.get (b:=true) I1 hq2;have p2':s1.heap.IsList a2 its2.toArray:=p2';have n1:its1.length=ns.length:=by rw[jv rv1,Gi]
   have n2:its2.length=ws.length:=jv rv2;have l1:a1<s1.heap.objs.size:=AU p1;have l2:a2<s1.heap.objs.size:=by obtain⟨o,z,_⟩:=p2';exact Gv z
   refine ve p1 p2' λh' hzp hTI hTO hi1 hi2 hk=>?_
   have hle:s1.heap.objs.size<=h'.objs.size:=Ii<|Je (Nat.le_add_right _ 4)<|Gv hzp;refine Calls.spliced_nil ?_;have D:ZipApart (s1.heap.objs.size+4) (s1.heap.objs.size+2) (s1.heap.objs.size+3) s1.heap.objs.size (s1.heap.objs.size+1) a1 a2:=by
    generalize s1.heap.objs.size=N at l1 l2;exact yA l1 l2
   have L:Bel h'.objs.size (s1.heap.objs.size+4) (s1.heap.objs.size+2) (s1.heap.objs.size+3) s1.heap.objs.size (s1.heap.objs.size+1) a1 a2:=by
    exact⟨Gv hzp,Gv hTI,Gv hTO,by obtain⟨o,z,_⟩:=hi1.obj;exact Gv z,by obtain⟨o,z,_⟩:=hi2.obj;exact Gv z,GT l1 hle,GT l2 hle⟩
   refine oz (s:={ s1 with heap:=h' }) (b1:=b) (b2:=true) (l:=ns.zip its2) (I1.ok.hd hc) (by rw[Gw,n1];exact Ii<|R1 hz) (by rw[Gw,Gw,n1,n2,hl]) (by rw[List.length_zip,Gw,n1,n2,hl];simp) (λj pr e=>?_) D L hzp hTI hTO hi1 hi2
    (G2.at p1 λo e=>hk _ o e) (show h'.IsList a2 its2.toArray from by obtain⟨o,z,r⟩:=p2';exact⟨o,hk _ o z,r⟩) λh2 tk hk2 hd2=>?_
   .obtain⟨e1,e2⟩:=IE.1 e;obtain⟨u,hu,ru⟩:=rv1.get (i:=j) (x:=.int pr.1) (by rw[GC,e1];rfl);obtain⟨t,rfl⟩:=ru;exact⟨⟨t,by simpa using hu⟩,by simpa using e2⟩
   .have big:=I1.big;have nS:H1 h'.objs.size=none:=I1.hok.fresh hle;have kp:∀b o,s1.heap.get? b=some o->h2.get? b=some o:=λb o e=>by
     have lb:=Gv e;exact hk2 b o (GR<|Lu 4 lb) (GR<|Lu 3 lb) (GR lb) (GR<|Lu 1 lb)<|hk b o e
    have I2:Inv X pins σ (upd H1 h'.objs.size<|.dK<|(zV ns ws []).map aX) { s1 with heap:=h2,toks:=tk } :=
     I1.laid kp hle (zp (by rw[Gi];exact He (qv ns ws [])<|by simpa using Ii (R1 hz)) (by
      have:(sysModules:Nat)<h'.objs.size:=GT big hle;exact JR.2<|IL this) (qp ns ws its2 [] [] rv2 .nil) hd2)
    obtain⟨vs',ep',I3,dn⟩:=Ck I2 f8;rw[wC]at I3;exact⟨.ref h'.objs.size,_,I3,rfl,q _ _ _ nS dn⟩
theorem uU {H:Hp}:∀(ns:List Int) (ys:List Ac) (ws:List V) (ps:List (Ac×Ac)) (xs:List (Int×V)),a8 K H ys ws->IVs K H ps xs->IVs K H (zD ns ys ps) (zV ns ws xs)
 | [],_,_,ps,xs,_,h=>by simpa [zD,zV] using h
 | n::ns,[],ws,ps,xs,h1,h=>by
  simp only[a8]at h1;subst h1;simpa [zD,zV] using h
 | n::ns,y::ys,ws,ps,xs,h1,h=>by
  simp only[a8]at h1;obtain⟨v,vr,rfl,dv,dr⟩:=h1;have h2:=uU ns ys vr (ipD ps n y) (bH xs n v) dr<|zc h dv;simpa [zD,zV] using h2
end
section
variable [Feeds]{X:Cx}{K:Fg}{p p2 p3 pos pos2 pos':Pos}{e1 e2:LK}{te1 te2:TE}{m1 m2:DE->M Ac}
def pD:Bool->Ac->Option (List Ac)
 | false,.tuple xs=>some xs
 | true,.list xs=>some xs
 | _,_=>none
def vI {b:Bool}{H:Hp}{B:List LA}{d:Ac}{v:V}{ds:List Ac}(h:b7 K (hid H B) d v)(e:pD b d=some ds):∃a xs,v = .ref a/\SqA b K H a xs/\a8 K (hid H B) ds xs:=by
 cases b
 .cases d <;> simp only[pD]at e <;> try cases e
  simp only[b7]at h;obtain⟨a,xs,rfl,ha,hd⟩:=h;exact⟨a,xs,rfl,ha.same d4,hd⟩
 .cases d <;> simp only[pD]at e <;> try cases e
  simp only[b7]at h;obtain⟨a,xs,rfl,ha,hd⟩:=h;exact⟨a,xs,rfl,SqL.of<|d4 _ _ ha,hd⟩
noncomputable def mDZ (k:Bool)(i:Nat)(a b:DE->M Ac):DE->M Out:=λE F=>(a E F).bind λp=>(b E p.2).bind λr=>match pD k p.1,r.1 with
 | some xs,.list ys=>match G5 xs with
  | some ns=>if i<E.length/\xs.length=ys.length/\xs.length<=1000 then some (.nx<|E.set i<|some<|.dic true 9<|zD ns ys [],r.2) else none
  | none=>none
 | _,_=>none
def vB (b:Bool)(i:Nat){x:Str}(hN:X.N.Nodup)(h1:Ev K X e1 te1 m1)(h2:Ev K X e2 te2 m2)(hc:X.calm=true)(hm:X.mg "zip" = none)(hm2:X.mg "dict" = none)(hi:X.N[i]? = some x:=by rfl)(hx:Loc X.env.scope x:=by first | exact Or.inl rfl | exact Or.inr rfl)(hK:X.K=K:=by rfl)(hg:Gl X "zip":=by rfl)(hg2:Gl X "dict":=by rfl)
  (hsw:LX (.Call (.Name "dict" p) [.Call (.Name "zip" p2) [e1,e2] [] pos2] [] p3) (some<|.Name x pos') pos.line X.env=pure false:=by rfl) (hf:X.fn x=true\/X.env.scope.names.lookup x=some .local:=by first | exact .inl rfl | exact .inr rfl | assumption)
  (hs:LN [e1,e2] X.env=(false,eval e1 X.env)::LN [e2] X.env:=by rfl) (hs2:LN [e2] X.env=[(false,eval e2 X.env)]:=by rfl) (hp:(LR pos2<|LN [e2] X.env).any (·.1)=false:=by rfl)
  (hs3:LN [.Call (.Name "zip" p2) [e1,e2] [] pos2] X.env=[(false,eval (.Call (.Name "zip" p2) [e1,e2] [] pos2) X.env)]:=by rfl) (hp2:(LR p3<|LN [] X.env).any (·.1)=false:=by rfl) :
  Ss K X (.Assign [.Name x pos'] (.Call (.Name "dict" p) [.Call (.Name "zip" p2) [e1,e2] [] pos2] [] p3) pos) (X3 (tDZ b K<|u8 te1<|u8 te2 N4)<|E9 i) (mDZ b i m1 m2) :=
 ⟨Y0 hN hi hx (wu hK hc hg hm hg2 hm2 (k9 h1.pe (k9 h2.pe v6 hs2) hs) hs hp hs3 hp2) hsw hf,λG B0 H0 E F σ H D r F' S e q=>by
  obtain⟨⟨y,F1⟩,e1,e⟩:=bS9 e;obtain⟨⟨z,F2⟩,e2,e⟩:=bS9 e;obtain⟨B,s,sn,I⟩:=S.ex;refine h1.ok G B E F σ H _ y F1 I e1 λv H1 k1 f1 r1=>?_
  refine h2.ok G B E F1 σ H1 _ z F2 (I.step k1 f1) e2 λu H2 k2 f2 r2=>?_
  have r1:=r1.same<|k2.hid I.fB;have I2:=(I.step k1 f1).step k2 f2;have S2:=S.step (k1.trans k2) f2;dsimp only at e;cases hsq:pD b y with
  | none=>rw[hsq]at e;cases e
  | some xs0 =>
   rw[hsq]at e;cases z with
   | list zs =>
    dsimp only at e;split at e
    .rename_i ns hns;split at e
     .rename_i hl;cases e;obtain⟨a,xs,rfl,ha,hd⟩:=vI r1 hsq;simp only[b7]at r2;obtain⟨a',xs',rfl,ha',hd'⟩:=r2;have ey:=J3 hns;subst ey;obtain rfl:=bR hd;have n1:ns.length=(ns.map Ac.int).length:=by rw[Gi]
      refine⟨a,a',rfl,ns,xs',ha,SqL.of<|d4 _ _ ha',by rw[hd'.length,n1];exact hl.2.1,by rw[n1];exact hl.2.2,λt vs ep ht dn=>?_⟩;have k3:Kp (j8 K G) H2 (upd H2 t<|.ext<|FrI t (zV ns xs' []) vs ep):=Kp.upd ht;have sm:d9 (hid H2 B) (hid (upd H2 t<|.ext<|FrI t (zV ns xs' []) vs ep) (t::B)):=jw ht;have r:tJ K B H2 (upd H2 t<|.ext<|FrI t (zV ns xs' []) vs ep) (.dic true 9<|zD ns zs []) (.ref t):=⟨rfl,t,_,rfl,ht,f8,dn,.inr ⟨rfl,_,vs,ep,rfl,(uU ns zs xs' [] [] hd' rfl).same sm⟩⟩;exact q _ _ (S2.putC s sn I2 k3 (I2.fd.same<|d9.upd ht) r hl.1).1
     .cases e
    .cases e
   | _=>cases e⟩
end
end
section
def qX (td ty:TE):TE:=λσ H Q=>td σ H λx H1=>∃a kvs vs ep,x = .ref a/\H1 a=some (.ext<|FrI a kvs vs ep)/\ty σ H1 λy H2=>∃i,y = .int i/\H2 a=some (.ext<|FrI a kvs vs ep)/\Q ((cj kvs i).getD .non) H2
section
variable {X:Cx}{o:LK}{to:TE}{apos cpos:Pos}
def rT {e:LK}{ty:TE}(ho:PE X o to)(he:PE X e ty)(m:M1 X o "get" apos e cpos):PE X (.Call (.Attribute o "get" apos) [e] [] cpos) (qX to ty):=by
 intro pins s σ H Q I h;refine wpAny_Call_method m.base m.few m.line PySem.F.plainAttrs_dict PySem.F.slot_dict_get PySem.F.type_dict_get (thn (ho pins s σ H _ I h) λu s1 ⟨x,H1,I1,rx,a,kvs,vs,ep,ex,eH,q1⟩=>?_);subst ex;obtain rfl:u=Lz.ref a:=rx;obtain⟨t1,t2,hd⟩:=qW I1 eH;refine⟨t1,t2,?_⟩;rw[m.trees];refine Calls.callWith_builtin rfl (Calls.evalArgs_plain<|La<|thn (he pins s1 σ H1 _ I1 q1) λiv s2 ⟨y,H2,I2,ry,n,ey,eH3,q3⟩=>Calls.spliced_nil ?_);subst ey;obtain⟨z0,y0,r0,hdd⟩:=tH I2 eH3;obtain⟨o',es',eo,c⟩:=hdd X.prog X.w;have dd:s2.heap.DictOf (m8 X.prog X.w) a vs:=⟨o',es',ep,eo,c⟩;refine call_meetsIn PySem.F.slot_dict_get dd.typeIs PySem.F.entry_dict_get (PySem.F.args_dict_get_2 _ _) (meets_dict_get (m8 X.prog X.w) a (AK (k:=.inl n) ry) hd) ⟨_,dd.mapOf,⟨_,H2,I2.tok _,?_,q3⟩⟩;rw[<-tQ];exact(r0.val<|.inl n).getD rfl
end
section
variable [Feeds]{K:Fg}{X:Cx}{e:LK}{ty:TE}{px apos cpos:Pos}
noncomputable def md (i:Nat)(k:DE->M Ac):DE->M Ac:=λE F=>(k E F).bind λq=>(qZ E i).bind λd=>(C1 q.1).bind λn=>if d.2.1=9 then some ((igD d.2.2 n).getD .none,q.2) else none
def qD (i:Nat){x:Str}{mb:DE->M Ac}(hk:Ev K X e ty mb)(hK:X.K=K)(m1:M1 X (.Name x px) "get" apos e cpos)(hN:X.N[i]? = some x:=by rfl)(hvis:Vis X.env.scope x:=by first | exact Or.inl rfl | exact Or.inr (Or.inl rfl) | exact Or.inr<|Or.inr rfl)(hd:(x == ("__debug__":Str))=false:=by decide)(hcd:(x == ("__classdict__":Str))=false:=by decide) :
  Ev K X (.Call (.Attribute (.Name x px) "get" apos) [e] [] cpos) (qX (W0 i) ty) (md i mb):=by
 subst hK;refine⟨rT (Q3 hN hvis hd hcd) hk.pe m1,λG B E F σ H Q r F' I e q=>?_⟩;obtain⟨⟨kd,F2⟩,e2,e⟩:=bS9 e;obtain⟨⟨w,c',ps⟩,e4,e⟩:=bS9 e;obtain⟨n,en,e5⟩:=bS9 e;clear e;dsimp only at e5 en;split at e5;case isFalse=>cases e5
 rename_i hc;subst hc;cases e5;obtain rfl:=U2 en;have eo:=lL e4;obtain⟨u,w1,a,φ,rfl,hB,hf,hx,hn,hdv⟩:=I.loc i _ eo;obtain⟨kvs,vs,ep,rfl,hdx⟩:=hdv.is9;refine⟨_,w1,a,kvs,vs,ep,rfl,hx,hk.ok G B E F σ H _ _ _ I e2 λy H2 k2 f2 h2=>?_⟩;have hd2:=hdx.same<|k2.hid I.fB;simp only[b7]at h2;subst h2;refine⟨n,rfl,k2 a _ hx hf,q _ _ k2 f2 ?_⟩;rcases uG (n:=n) hd2 with ⟨z',v,g1,g2,g3⟩ | ⟨g1,g2⟩
 .rw[g1,g2];exact g3
 .rw[g1,g2];simp[b7]
end
end
section
section
variable {prog:LD}{w:LF}{A:LG}{R:Result->LC->Prop}{I:LA}{fp wr:List LA}{n:Nat}{P:Nat->Lz->Prop}{St:Nat->LL->Prop}{dv:Lz}
def xI (bt:Nat->Nat->Bool)(P:Nat->Lz->Prop)(dv:Lz)(n:Nat)(v:Lz):Prop:=(n=0/\v=dv)\/(0<n/\P (argBest bt<|n-1) v)
def zf (bt:Nat->Nat->Bool)(P:Nat->Lz->Prop)(i:Nat)(old:Array Lz):Prop:=(i=0/\old = #[])\/∃j vb,i=j+1/\P (argBest bt j) vb/\old = #[vb,vb]
def qc (W:Walks prog w A.in1 I fp wr n P St)(bt:Nat->Nat->Bool)(hcmp:CmpOf prog w A.in1 .Gt P bt)(S:LA)(hSf:S ∉ fp) :
  ∀(k i:Nat) (s:LC) (old:Array Lz) (c:Nat),n-i=k->i<=n->St i s.heap->zf bt P i old ->
  s.heap.get? S=some { cls:=.type "list",dict:=none,data:=.seq old c,slots:=#[] } ->
  (∀v h' tk,xI bt P dv n v->(∀b o,b ∉ wr->b≠S->s.heap.get? b=some o->h'.get? b=some o)->R (.ok<|.ret v) { s with heap:=h',toks:=tk }) ->
  codeAny (model prog w) A (.builtin "max.loop" ⟨[.ref I,.none,.ref S],[("default",dv)]⟩) R s:=by
 have hSw:S ∉ wr:=λh=>hSf<|W.sub _ h
 have hname:(toString "max" ++ toString ".loop":String) = "max.loop":=by decide
 intro k;induction k with
 | zero =>
  intro i s old c hk hi hst hc hS hR;have hin:i=n:=by omega
  refine KQ F.entry_max_loop ?_;rw[JO Js _];rcases hc with ⟨rfl,rfl⟩ | ⟨j,vb,rfl,hP,rfl⟩
  .show LU _ A.in1 (seqItems? (.ref S) >>= _) _ _ s;refine Gh<|HL hS rfl ?_;show LU _ A.in1 (tryCatch (pyNext<|.ref I) _ >>= _) _ _ s;refine Gh (JJ<|W.done s _ _ (hin▸hst) λh' tk hk'=>?_);show LU _ A.in1 (rule _ >>= _) _ _ _;refine Gh<|Iw<|Gk ?_;exact hR dv h' tk (.inl ⟨hin.symm,rfl⟩) λb o hbw _ e=>hk' b o hbw e
  .show LU _ A.in1 (seqItems? (.ref S) >>= _) _ _ s;refine Gh<|HL hS rfl ?_;show LU _ A.in1 (tryCatch (pyNext<|.ref I) _ >>= _) _ _ s;refine Gh (JJ<|W.done s _ _ (hin▸hst) λh' tk hk'=>?_);have hS':=hk' S _ hSw hS;show LU _ A.in1 (updateSeq S (λ_=>#[]) >>= _) _ _ _;refine Gh ?_;refine wpAny_updateSeq hS' rfl<|Gh<|JA<|Gk ?_;exact hR vb _ tk (.inr ⟨by omega,by rw[<-hin];exact hP⟩) λb o hbw hbS e=>(Iz _ _<|Ie hbS).trans<|hk' b o hbw e
 | succ k ih =>
  intro i s old c hk hi hst hc hS hR;have hlt:i<n:=by omega
  refine KQ F.entry_max_loop ?_;rw[JO Js _];rcases hc with ⟨rfl,rfl⟩ | ⟨j,vb,rfl,hPb,rfl⟩
  .show LU _ A.in1 (seqItems? (.ref S) >>= _) _ _ s;refine Gh<|HL hS rfl ?_;show LU _ A.in1 (tryCatch (pyNext<|.ref I) _ >>= _) _ _ s;refine Gh (JJ<|W.item 0 s _ _ hlt hst λv h' tk hP hst' hk'=>?_);have hS':=hk' S _ hSw hS;show LU _ A.in1 (updateSeq S (λ_=>#[v,v]) >>= _) _ _ _;refine Gh ?_;refine wpAny_updateSeq hS' rfl ?_;rw[hname];refine Gk ⟨JQ Js _,ih 1 _ #[v,v] _ (by omega) hlt (W.frame _ _ _ hst' λb hbf o e=>?_) (.inr ⟨0,v,rfl,hP,rfl⟩) (JH _ hS' rfl) λv' h'' tk'' hP' hk''=>?_⟩
   .exact(Iz _ _ (λh:S=b=>hSf (by rw[h];exact hbf))).trans e
   .exact hR v' h'' tk'' hP' λb o hbw hbS e=>hk'' b o hbw hbS<|(Iz _ _<|Ie hbS).trans<|hk' b o hbw e
  .show LU _ A.in1 (seqItems? (.ref S) >>= _) _ _ s;refine Gh<|HL hS rfl ?_;show LU _ A.in1 (tryCatch (pyNext<|.ref I) _ >>= _) _ _ s;refine Gh (JJ<|W.item (j+1) s _ _ hlt hst λv h' tk hP hst' hk'=>?_);have hS':=hk' S _ hSw hS;show LU _ A.in1 (tryCatch (holding [v,v]<|richCompare .Gt v vb >>= _) _ >>= _) _ _ _;refine Gh<|JJ<|HB<|Gh<|hcmp (j+1) (argBest bt j) v vb _ _ _ hP hPb ?_;refine Gh<|HB<|IV ?_;refine Gh<|JA<|Gk ?_;cases hb:bt (j+1) (argBest bt j) with
   | true =>
    simp only[Ig];refine Gh ?_;refine wpAny_updateSeq hS' rfl<|Gh<|JA ?_;rw[hname];refine Gk ⟨JQ Js _,ih (j+2) _ #[v,v] _ (by omega) hlt (W.frame _ _ _ hst' λb hbf o e=>?_) (.inr ⟨j+1,v,rfl,by simp only[argBest,hb,Ig];exact hP,rfl⟩) (JH _ hS' rfl)
     λv' h'' tk'' hP' hk''=>?_⟩
    .exact(Iz _ _ (λh:S=b=>hSf (by rw[h];exact hbf))).trans e
    .exact hR v' h'' tk'' hP' λb o hbw hbS e=>hk'' b o hbw hbS<|(Iz _ _<|Ie hbS).trans<|hk' b o hbw e
   | false =>
    simp only[GY,HP];refine Gh<|JA ?_;rw[hname];refine Gk ⟨JQ Js _,ih (j+2) _ #[vb,vb] c (by omega) hlt hst' (.inr ⟨j+1,vb,rfl,by simp only[argBest,hb,GY,HP];exact hPb,rfl⟩) hS' λv' h'' tk'' hP' hk''=>?_⟩;exact hR v' h'' tk'' hP' λb o hbw hbS e=>hk'' b o hbw hbS<|hk' b o hbw e
end
section
variable {prog:LD}{w:LF}{A:LG}{E:Lz->LC->Prop}{s:LC}{dv:Lz}
def ot (a d:Lz):argsOk "max" ⟨[a],[("default",d)]⟩:=by unfold argsOk;kernel_rfl
def gq {id:String}{b:Builtin}{args:List Lz}{kw:List (Str×Lz)}{Q:Lz->LC->Prop}(hk:builtinKind id=none)(hp:plainId id=true)
  (hb:entryFor table id=some b) (ha:argsOk id ⟨args,kw⟩)
  (hc:LU (model prog w) A.in1 (b ⟨args,kw⟩) (λfin s'=>match fin with
   | .done f=>(match (Except.ok f:Result) with | .ok (.ret v)=>Q v s' | .ok _=>False | .error e=>E e s')
   | .again c'=>c'.quiet=true/\codeAny (model prog w) A c' (λr s'=>match r with | .ok (.ret v)=>Q v s' | .ok _=>False | .error e=>E e s') s') E s) :
  LU (model prog w) A (call (.builtin id) args kw) Q E s:=by
 refine wpAny_call<|codeAny_call_builtin hp hb ?_;simp only[checkBuiltinCall,hk];cases hsig:Manifest.signature? id with
 | none=>exact Gk hc
 | some sig =>
  have ha':Bind.checkArgs id sig ⟨args,kw⟩=pure ():=by simpa only[argsOk,hsig] using ha
  simp only[ha'];exact Gk hc
def pR:Builtin.Builtins.bindParams "max" ["key","default"] 0 ⟨[],[("default",dv)]⟩=pure [none,some dv]:=rfl
def gu {l:LA}{xs:Array (Int×Tok)}{Q:Lz->LC->Prop}(hh:A.handled=none)(hl:s.heap.IsList l (intItems xs))
  (h:∀v h' tk,xI (λi j=>decide (numAt xs i > numAt xs j)) (λi v=>(intItems xs)[i]? = some v) dv xs.size v->(∀b o,s.heap.get? b=some o->h'.get? b=some o)->Q v { s with heap:=h',toks:=tk }) :
  LU (model prog w) A (call (.builtin "max") [.ref l] [("default",dv)]) Q E s:=by
 have hname:(toString "max" ++ toString ".loop":String) = "max.loop":=by decide
 refine gq F.kind_max F.plain_max F.entry_max (ot _ _) ?_;show LU _ A.in1 (Builtin.Builtins.bindParams "max" ["key","default"] 0 ⟨[],[("default",dv)]⟩ >>= _) _ _ s;refine Gh<|wpAny_of_eq pR ?_;refine Gh<|Gk ?_;refine Gh (iter_intList hl λs₂ e st hfp hlI=>?_);subst e;refine Gh<|Hr ?_;rw[hname];have W:=Walks.list (prog:=prog) (w:=w) (A:=A.in1) hh _ l hlI<|intItems xs;refine Gk ⟨JQ Js _,qc W _ (CmpOf.ints_gt (numAt xs)<|λ_ _=>intItems_at) _ (λhm=>Im _<|hfp _ hm) _ 0 _ #[] _ rfl (HA _) (W.frame _ _ _ st λb _ o e=>Gj _ e) (.inl ⟨rfl,rfl⟩) (GN _ rfl) λv h' tk hP hk=>?_⟩;exact h v h' tk (by simpa [intItems] using hP) (old_kept λb o hbw e=>hk b o hbw (GR<|Gv e)<|Gj _ e)
end
section
variable {X:Cx}{K:Fg}{pos p kp:Pos}{e e2:LK}{te te2:TE}
def pG (hK:X.K=K)(hc:X.calm=true){pins:List (LA×LO)}{s:LC}{σ:St}{H:Hp}{a:LA}{ns:List Int}{y:V}{u:Lz}{Q:VK}(I:Inv X pins σ H s)(hq:SqL K H a (ns.map V.int))(ry:m7 y u)
  (q:Q (if ns=[] then y else .int (bQ ns)) H):LU (model X.prog X.w) X.A (call (.builtin "max") [.ref a] [("default",u)]) (EP X pins σ Q) X.xe s:=by
 subst hK;obtain⟨its,rv,p,hz⟩:=I.list hq;have hlen:its.length=ns.length:=by rw[<-rv.length,Gi]
 have hi:=U9 rv;obtain⟨zs,hzs⟩:=hi.allInts.items;have hl:s.heap.IsList a (intItems zs):=hzs▸p.isList;have hsz:zs.size=ns.length:=by
  have:(intItems zs).size=its.length:=by rw[<-hzs];simp
  rw[<-hlen,<-this];simp[intItems]
 have hval:∀(i:Nat) (v:Lz),its.toArray[i]? = some v->∃t,v = .int (ns.getD i 0) t:=λi v hv=>by
  have hv:its[i]? = some v:=by simpa using hv
  obtain⟨hi,_⟩:=GE.1 hv;have hb:(ns.map V.int)[i]? = some (V.int<|ns.getD i 0):=by
   rw[GC,Gm<|by omega];simp[List.getD,Gm<|show i<ns.length by omega]
  obtain⟨u,hu,ru⟩:=rv.get hb;rw[hv]at hu;cases hu;exact ru
 have hnum:∀i,i<ns.length->numAt zs i=ns.getD i 0:=λi hi=>by
  have hi2:i<its.length:=by omega
  obtain⟨t,e⟩:=hval i its[i] (by simp[hi2]);have e2:(intItems zs)[i]? = some its[i]:=by rw[<-hzs];simp[hi2]
  obtain⟨t2,e3⟩:=intItems_at e2;rw[e]at e3;injection e3 with e4 _
  exact e4.symm
 refine gu (I.ok.hd hc) hl λv h' tk hv hk=>?_
 rcases hv with ⟨h0,rfl⟩ | ⟨hpos,hv⟩
 .have:ns=[]:=Il.1 (by omega);rw[Gp this]at q;exact⟨y,H,I.kept hk,ry,q⟩
 .have hne:ns≠[]:=KS.1 (by omega);rw[Gr hne]at q;obtain⟨h1,h2⟩:=argBest_gt (numAt zs)<|zs.size-1;obtain⟨t,e⟩:=intItems_at hv;subst e;generalize argBest (λi j=>decide (numAt zs i > numAt zs j)) (zs.size-1)=j at *;have hj:j<ns.length:=by omega
  have em:numAt zs j=bQ ns:=by
   rw[hnum j hj];refine Int.le_antisymm (iw<|getD_mem hj) ?_;obtain⟨i,hi,e⟩:=mem_getD<|eO hne;have:=h2 i (by omega);rw[hnum i hi,hnum j hj]at this;rw[<-e];exact this
  rw[em];exact⟨.int<|bQ ns,H,I.kept hk,⟨t,rfl⟩,q⟩
def fk:List Ac->Option Ac
 | [.list ds,z]=>(G5 ds).bind λns=>if ns=[] then(match z with
  | .int i=>some (.int i)
  | _=>none) else some (.int<|bQ ns)
 | _=>none
def qN (X:Cx)(r:List V->Hp->VK->Prop):Prop:=∀{pins:List (LA×LO)} {s:LC} {σ:St} {H:Hp} {xs:List V} {y:V} {us:List Lz} {z:Lz} {Q:VK},Inv X pins σ H s->j6 xs us->m7 y z->r (xs++[y]) H Q->LU (model X.prog X.w) X.A (call (.builtin "max") us [("default",z)]) (EP X pins σ Q) X.xe s
def xw {r:List V->Hp->VK->Prop}(hr:qN X r)(hm:X.mg "max" = none)(ha:PA X [e] (u8 te N4))(hb:PE X e2 te2)(hg:Gl X "max":=by rfl)(he:LN [e] X.env=[(false,eval e X.env)]:=by rfl):PE X (.Call (.Name "max" p) [e] [⟨some "default",e2,kp⟩] pos) (tCB r<|u8 te<|u8 te2 N4):=by
 intro pins s σ H Q I h;refine Kb (Q5 I hg hm rfl ?_ (by decide)<|by decide);refine callWith_kw (thn (ha pos pins s σ H (λvs H1=>te2 σ H1 λy H2=>r (vs++[y]) H2 Q) I h) λus s1 ⟨vs,H1,I1,r1,q1⟩=>?_) (by rw[he];rfl) (by rw[he];rfl);refine kws_cons (thn (hb pins s1 σ H1 _ I1 q1) λz s2 ⟨y,H2,I2,r2,q2⟩=>kws_nil ?_);exact hr I2 r1 r2 q2
variable [Feeds]{m m2:DE->M Ac}
def xc (hK:X.K=K)(hc:X.calm=true):qN X (rDN K fk):=λ{pins s σ H xs y us z Q} I r ry h=>by
 obtain⟨fp,B,ds,d,bk,h1,hf,q⟩:=h;unfold fk at hf;split at hf <;> try cases hf
 rename_i ds w;obtain⟨ns,e,hg⟩:=bS9 hf;clear hf;cases J3 e;obtain⟨v1,v2,e1,⟨a,ws,rfl,ha,hd⟩,a2⟩:=Cc h1 rfl;cases bR hd;obtain⟨rfl,rfl⟩:xs=[.ref a]/\y=v2:=by
  match xs,e1 with
  | [x],e1=>cases e1;exact⟨rfl,rfl⟩
  | x::x2::r,e1=>simp at e1
 obtain⟨u,rfl,ru⟩:=Y6 r;cases ru;refine pG hK hc I (SqL.of<|d4 _ _ ha) ry ?_;by_cases h0:ns=[]
 .rw[Gp h0]at hg ⊢;cases w <;> simp at hg;subst hg;cases a2;exact q _ H (d9.refl H) b7.int
 .rw[Gr h0]at hg ⊢;cases hg;exact q _ H (d9.refl H) b7.int
def vE (hK:X.K=K)(hc:X.calm=true)(hm:X.mg "max" = none)(ha:Eb K X e te m)(hb:Eb K X e2 te2 m2)(hg:Gl X "max":=by rfl)(he:LN [e] X.env=[(false,eval e X.env)]:=by rfl)(he2:LN [e2] X.env=[(false,eval e2 X.env)]:=by rfl)(he3:LN [e,e2] X.env=(false,eval e X.env)::LN [e2] X.env:=by rfl) :
  Ev K X (.Call (.Name "max" p) [e] [⟨some "default",e2,kp⟩] pos) (tCB (rDN K fk)<|u8 te<|u8 te2 N4) (sN fk<|c7 m<|c7 m2 j4) :=
 ⟨xw (xc hK hc) hm (k9 ha.pe v6 he) hb.pe hg he,qF (i9 ha (i9 hb l3 he2) he3).ok⟩
end
end
end L3
namespace L2
open PySem PySem.Spec PyProof.Rows
def lT {X:Cx}{y:Str}{py:Pos}{ix:Nat}{elt tg iter tg1 iter1:LK}{ifs ifs1:List LK}{scope osc:LH}{pos:Pos}{N:List Str}{k:Nat}{cap:List Nat}{g:TG}{tt:TT}{tm:TM}{cl:List (Str×LA)}
  {pins:List (LA×LO)} {σ:St} {H3:Hp} {s3:LC} {D it:LA} {fp:List LA} {tn:Nat->LL->Prop} {J:It} {Q:St->Hp->Prop} {W:Nat->Nat->St->Hp->Prop} {m0:Nat}
  (hNd:X.N.Nodup) (hix:X.N[ix]? = some y) (hLy:Loc X.env.scope y) (hfy:X.fn y=true\/X.env.scope.names.lookup y=some .local)
  (hc:X.calm=true) (hosc:X.env.scope=osc) (hcap:Caps X.N osc N k cap scope)
  (hcl:∀{x:Str} {c:LA},cl.lookup x=some c->X.env.cells.lookup x=some c) (hhas:∀x,(x,Me.free)∈scope.names->∃c,cl.lookup x=some c)
  (hg:∀cl C ex pins s H,PG (cxC X N scope cl C ex pins s H) tg g)
  (ht:∀cl C ex pins s H,PTs (cxC X N scope cl C ex pins s H) ifs tt)
  (he:∀cl C ex pins s H,PM (cxC X N scope cl C ex pins s H) (iW (.ListComp elt [⟨tg,iter,ifs,0⟩,⟨tg1,iter1,ifs1,0⟩] scope pos) iter1 (.ref D) (cxC X N scope cl C ex pins s H).env) tm)
  (I3:Inv X pins σ H3 s3) (T:Turn X.prog X.w X.K tg J fp it tn) (st:tn 0 s3.heap) (f3:∀b∈fp,aC X pins H3 b) (w0:W 0 m0 (Z9 k cap σ) H3)
  (turn:∀i m σ' H',W i m σ' H'->(J.stop i H'/\Q (σ.set ix<|some<|.ref D) H') \/
   (J.go i H'/\∀x H2,J.yld i H' x H2->g x σ' H2 λσ2 H3=>tt σ2 H3 λok H4=>if ok=true then tm σ2 H4 λσ3 H5=>∃m',m'<m/\W (i+1) m' σ3 H5 else ∃m',m'<m/\W (i+1) m' σ2 H4)) :
  LU (model X.prog X.w) X.A (newFunctionEnv scope X.env.globals cl [] X.env.qual none .none<|some X.env) (λcenv s₄ =>
   codeAny (model X.prog X.w) X.A (.compStart (.ListComp elt [⟨tg,iter,ifs,0⟩,⟨tg1,iter1,ifs1,0⟩] scope pos) 0 (.ref it) (.ref D) { cenv with scope:=relabel scope X.env }) (compPost (model X.prog X.w) X.A X.xe (some<|assign (.Name y py) X.env) (λ_ s'=>∃σ' H',Inv X pins σ' H' s'/\Q σ' H') (.ref D) cenv.locals) s₄) X.xe s3:=by
 refine dw (P:=λC=>compPost (model X.prog X.w) X.A X.xe (some<|assign (.Name y py) X.env) (λ_ s'=>∃σ' H',Inv X pins σ' H' s'/\Q σ' H') (.ref D) C) (Qs:=λH'=>Q (σ.set ix<|some<|.ref D) H') (W:=W) (λenv=>jz ..) hc hosc hcap hcl hhas hg ht I3 T st f3 w0 (λs6 σ5 H5 I6 I7 q=>?_) λi m σ' H' w=>?_
 .obtain⟨m,hn,_⟩:=id I6.loc;obtain⟨g0,g1,g2,g3,g4,g5⟩:=I3.fpOk (H':=H5) (b:=s3.heap.objs.size) (Gs _) I6.free;obtain⟨o,es,ep,ho,hdat,rest⟩:=id hn;have I7p:Inv X (pins++[(s3.heap.objs.size,o)]) σ H5 s6:=I7.pins_of λp hp=>by
   rcases GP.1 hp with z | z
   .exact I7.pin p<|GG _ z
   .rw[HQ.1 z];exact⟨ho,g0,g1,g2,λv z=>by have z':o.data = .cell v:=z;rw[hdat]at z';cases z'⟩
  show LU (model X.prog X.w) X.A (assign (.Name y py) X.env<|.ref D) _ _ s6;refine wpAny_assign_Name (D8 I7p hNd hix hLy (v:=.ref D) rfl (λs7 I8=>?_) hfy);have hC7:=(I8.pin (s3.heap.objs.size,o)<|GG _<|GG _<|HQ.2 rfl).1;refine⟨m,⟨o,es,ep,hC7,hdat,rest⟩,λh' hsb=>?_⟩;exact⟨_,H5,I8.unpinned.turned (t':=s7.toks) (λb o hb e=>(hsb.2 b hb).trans e) g0 g1 g3 g4 g5,q⟩
 .rcases turn i m σ' H' w with h | ⟨go,step⟩
  .exact .inl h
  .exact .inr ⟨go,_,step,λσ2 H4 h=>h,λpins' s σ2 H4 I h k R E hk=>he _ _ _ _ _ _ _ s σ2 H4 _ I h k R E hk⟩
def pF {X:Cx}{y:Str}{py spos:Pos}{ix:Nat}{elt tg iter tg1 iter1:LK}{ifs ifs1:List LK}{scope osc:LH}{pos:Pos}{N:List Str}{k:Nat}{cap:List Nat}{wi:TI}{g:TG}{tt:TT}{wi1:TI}{g1:TG}{tt1:TT}{te:TE}
  (hNd:X.N.Nodup) (hix:X.N[ix]? = some y) (hLy:Loc X.env.scope y)
  (hc:X.calm=true) (hosc:X.env.scope=osc) (hcap:Caps X.N osc N k cap scope) (hi:PI X tg iter wi)
  (hg:∀cl C ex pins s H,PG (cxC X N scope cl C ex pins s H) tg g)
  (ht:∀cl C ex pins s H,PTs (cxC X N scope cl C ex pins s H) ifs tt)
  (hi1:∀cl C ex pins s H,PI (cxC X N scope cl C ex pins s H) tg1 iter1 wi1)
  (hg1:∀cl C ex pins s H,PG (cxC X N scope cl C ex pins s H) tg1 g1)
  (ht1:∀cl C ex pins s H,PTs (cxC X N scope cl C ex pins s H) ifs1 tt1)
  (he:∀cl C ex pins s H,PE (cxC X N scope cl C ex pins s H) elt te)
  (hs1:∀cl C ex pins s H x,Ma iter1 (cxC X N scope cl C ex pins s H).env x=pure x:=by intros;rfl)
  (hs:∀x,Ma iter X.env x=pure x:=by intro _;rfl) (hfy:X.fn y=true\/X.env.scope.names.lookup y=some .local:=by first | exact .inl rfl | exact .inr rfl | assumption)
  (hsw:LX (.ListComp elt [⟨tg,iter,ifs,0⟩,⟨tg1,iter1,ifs1,0⟩] scope pos) (some<|.Name y py) spos.line X.env=pure true:=by rfl) :
  PS X (.Assign [.Name y py] (.ListComp elt [⟨tg,iter,ifs,0⟩,⟨tg1,iter1,ifs1,0⟩] scope pos) spos) (X3 (tE wi k cap g tt wi1 g1 tt1 te)<|E9 ix):=by
 intro pins s σ H D0 I h;have hcell:∀y∈scope.names,y.2 = .free->∃c,X.env.cells.lookup y.1=some c:=λy hy hk=>I.ok.has y.1 (by
  show X.env.scope.names.lookup y.1=_\/X.env.scope.names.lookup y.1=_;rw[hosc];exact hcap.free y hy hk)
 let f:Str->LA:=λx=>(X.env.cells.lookup x).getD 0
 have hf:∀y∈scope.names,y.2 = .free->X.env.cells.lookup y.1=some (f y.1):=λy hy hk=>by
  obtain⟨c,e⟩:=hcell y hy hk;show _=some ((X.env.cells.lookup y.1).getD 0);rw[e];rfl
 have hclos:closureFor scope X.env=pure (v8 f scope.names []):=y9 λy hy hk=>by
  unfold cellOf;rw[hf y hy hk]
 have hcl:∀{x:Str} {c:LA},(v8 f scope.names []).lookup x=some c->X.env.cells.lookup x=some c:=λ{x c} e=>by
  rcases C9 _ _ e with ⟨h1,h2⟩ | h1
  .rw[h2];exact hf (x,.free) h1 rfl
  .simp at h1
 have hhas:∀x,(x,Me.free)∈scope.names->∃c,(v8 f scope.names []).lookup x=some c:=λx hx=>⟨_,O1 _ _<|.inl hx⟩
 generalize v8 f scope.names []=cl at hclos hcl hhas;rw[exec_Assign_Name_used _ _ _ _ hsw];refine Gh<|IM<|Gh ?_;show LU _ X.A (do let _ <-comprehension (.ListComp elt [⟨tg,iter,ifs,0⟩,⟨tg1,iter1,ifs1,0⟩] scope pos) scope X.env _ (newList []) false (eval iter X.env) (some<|assign (.Name y py) X.env)) _ _ s;refine Gh (Hg (Jp (use:=some<|assign (.Name y py) X.env) (cl:=cl) (Q:=λ_ s'=>∃σ' H',Inv X pins σ' H' s'/\D0.nx σ' H') rfl hs hclos hcap.kind hcap.loc ?_) (λ_ s' hq=>Gk<|Gk hq) λ_ _ e=>e);refine thn (hi pins s σ H _ I h) λv s1 h1=>thn h1 λitv s2 h2=>?_
 obtain⟨it,fp,tn,J,H2,e,I2,T,st2,f2,q2⟩:=h2;subst e;obtain⟨W,⟨m0,w0⟩,turn⟩:=q2 s2.heap.objs.size<|I2.hok.fresh<|Gs _;refine Hr ?_;have I3:Inv X pins σ (upd H2 s2.heap.objs.size<|.lst []) { s2 with heap:=s2.heap.push { cls:=.type "list",data:=.seq ([]:List Lz).toArray } }:=I2.lnew (ys:=[]) (its:=[]) (t':=s2.toks) .nil<|HA _;have lt2:∀b∈fp,b≠s2.heap.objs.size:=λb hb=>by
  obtain⟨o,e,_⟩:=T.obj _ _ st2 b hb;exact GR<|Gv e
 exact lT hNd hix hLy hfy hc hosc hcap hcl hhas hg ht (λcl C ex pins s H=>xM (Y:=cxC X N scope cl C ex pins s H) rfl hc (hi1 cl C ex pins s H) (hg1 cl C ex pins s H) (ht1 cl C ex pins s H) (he cl C ex pins s H)<|hs1 cl C ex pins s H) I3 T (T.keep _ _ (s2.heap.push { cls:=.type "list",data:=.seq ([]:List Lz).toArray }) st2 λb _ o e=>Gj _ e) (λb hb=>⟨by rw[d7<|lt2 b hb];exact(f2 b hb).1,(f2 b hb).2⟩) w0 turn
end L2
namespace L3
open PySem PySem.Spec PyProof.Rows L2
section
variable [Feeds]
variable {K:Fg}{X:Cx}{tg iter tg1 iter1 elt:LK}{te:TE}{pos:Pos}
def oV (i:Nat){y:Str}{py spos:Pos}{ifs ifs1:List LK}{scope:LH}(osc:LH)(N:List Str){k:Nat}{cap:List Nat}{wi wi1:TI}{g g1:TG}{tt tt1:TT}{mi mi1:DE->M (List Ac)}{bd bd1:Ac->DE->Option DE}{mt mt1:DE->M Bool}{me:DE->M Ac}
  (hN:X.N.Nodup) (hi:Eib K X tg iter wi mi)
  (hg:∀{cl C ex pins s H},Eg K (cxC X N scope cl C ex pins s H) tg g bd)
  (ht:∀{cl C ex pins s H},Ets K (cxC X N scope cl C ex pins s H) ifs tt mt)
  (hi1:∀{cl C ex pins s H},Ei K (cxC X N scope cl C ex pins s H) tg1 iter1 wi1 mi1)
  (hg1:∀{cl C ex pins s H},Eg K (cxC X N scope cl C ex pins s H) tg1 g1 bd1)
  (ht1:∀{cl C ex pins s H},Ets K (cxC X N scope cl C ex pins s H) ifs1 tt1 mt1)
  (he:∀{cl C ex pins s H},Ev K (cxC X N scope cl C ex pins s H) elt te me)
  (hc:X.calm=true:=by rfl) (hosc:X.env.scope=osc:=by rfl) (hcap:Caps X.N osc N k cap scope:=by exact {})
  (hs1:∀cl C ex pins s H x,Ma iter1 (cxC X N scope cl C ex pins s H).env x=pure x:=by intros;rfl)
  (hix:X.N[i]? = some y:=by rfl) (hLy:Loc X.env.scope y:=by first | exact Or.inl rfl | exact Or.inr rfl)
  (hs:∀x,Ma iter X.env x=pure x:=by intro _;rfl) (hfy:X.fn y=true\/X.env.scope.names.lookup y=some .local:=by first | exact .inl rfl | exact .inr rfl | assumption)
  (hsw:LX (.ListComp elt [⟨tg,iter,ifs,0⟩,⟨tg1,iter1,ifs1,0⟩] scope pos) (some<|.Name y py) spos.line X.env=pure true:=by rfl) :
  Ss K X (.Assign [.Name y py] (.ListComp elt [⟨tg,iter,ifs,0⟩,⟨tg1,iter1,ifs1,0⟩] scope pos) spos) (X3 (tE wi k cap g tt wi1 g1 tt1 te)<|E9 i) (y3 i<|lF mi k cap bd mt mi1 bd1 mt1 me) :=
 ⟨pF hN hix hLy hc hosc hcap hi.pi (λ_ _ _ _ _ _=>hg.pg) (λ_ _ _ _ _ _=>ht.pts) (λ_ _ _ _ _ _=>hi1.pi) (λ_ _ _ _ _ _=>hg1.pg) (λ_ _ _ _ _ _=>ht1.pts) (λ_ _ _ _ _ _=>he.pe) hs1 hs hfy hsw,
  nC (xH hi.ok (@hg [] 0 [] [] X.s₀ X.H₀).ok (@ht [] 0 [] [] X.s₀ X.H₀).ok (@hi1 [] 0 [] [] X.s₀ X.H₀).ok (@hg1 [] 0 [] [] X.s₀ X.H₀).ok (@ht1 [] 0 [] [] X.s₀ X.H₀).ok (@he [] 0 [] [] X.s₀ X.H₀).ok) (ik i)⟩
end
end L3
namespace K32
open PySem L2 L3
section
def top (i:Nat):LJ:=PySem.Challenge.pw_hatchwaits_k32_whole_two_houses_exchange.main.body.getD i<|.Pass ⟨0,0,0,0⟩
instance famI:Fam:=CA ["lined_up","picked"]
instance lamI:LamC:=⟨["lined_up","picked"]⟩
instance nv:Regs:=mP
abbrev CZ:LJ:=top 1
abbrev Dz:LJ:=top 4
abbrev Ds:LJ:=top 6
abbrev CT:LJ:=top 7
abbrev Dt:LJ:=top 8
abbrev Dg:LJ:=top 9
abbrev DN:LJ:=top 10
abbrev Fo:LJ:=top 12
abbrev Dd:LJ:=top 13
abbrev CW:LJ:=top 14
abbrev Du:LJ:=top 15
abbrev CM:LJ:=top 17
abbrev Dj:LJ:=top 18
abbrev Dh:LJ:=top 20
abbrev Di:LJ:=top 21
abbrev Dm:LJ:=top 22
abbrev CQ:LJ:=top 23
abbrev Do:LJ:=top 24
abbrev CN:LJ:=top 25
structure Txt (K:Fg) (mg:Str->Option Lz):Prop where
 dict:mg "dict" = none
 enumerate:mg "enumerate" = none
 len:mg "len" = none
 list:mg "list" = none
 max:mg "max" = none
 range:mg "range" = none
 sorted:mg "sorted" = none
 sum:mg "sum" = none
 tuple:mg "tuple" = none
 zip:mg "zip" = none
 g_KEEPING:GD K mg "KEEPING" (.tuple [.str "first",.str "last",.str "short",.str "front"])
section
variable {P:LD}{w:LF}{K:Fg}{mg:Str->Option Lz}{base:LL}
def cV:FnScope ["rows","way"] ["rows"] (defScope CZ):={}
def L9:List DV->M Ac:=S4 ["rows","way"] (mSq (y3 1<|sN x5<|c7 (sLC (N6<|sW 0) 1 [] (bN 0) M5<|sN x5<|c7 (sLC (N6<|sW 0) 2 [] (E8 2<|i5 (bN 0)<|i5 (bN 1) G3) M5<|sV 0) j4) j4)
  (mRt<|M7<|c7 (sV 1)<|c7 (sN x5<|c7 (lF (N6<|sW 0) 3 [] (bN 0) M5 (N6<|sV 0) (E8 2<|i5 (bN 1)<|i5 (bN 2) G3) M5<|sV 2) j4) j4))
def DQ {f:LA}{fd:LI}(Fn:Fun K "told_way" "told_way" CZ f fd)(T:Txt K mg) :FnOk P w K mg base CX0 1 f fd ["rows"] (spD K 1 L9):=by
 refine K4 Fn cV λcdv A outer s H E hr=>?_
 exact⟨_,(c6 (m4 1 cV.nd<|u5 (u4 rfl) T.tuple u7<|i9 (Ev.bw<|cA (defScope CZ) ["row"] (G1<|i6 0) (M9 (i:=0)) B8<|u5 (u4 rfl) T.tuple u7<|i9 (Ev.bw<|ux ["comer","number"] (G1<|i6 0) (u6 (n:=2) rfl<|d6 (M9 (i:=0))<|d6 (M9 (i:=1)) m9) B8<|g9 0) l3) l3)
   (k8<|A7<|A3<|d5 (g9 1)<|d5 (u5 (u4 rfl) T.tuple u7<|i9 (Ev.bw<|yB (defScope CZ) ["row","comer","number"] (G1<|i6 0) (M9 (i:=0)) B8 (cq<|g9 0) (u6 (n:=2) rfl<|d6 (M9 (i:=1))<|d6 (M9 (i:=2)) m9) B8<|g9 2) l3) j5))⟩
def qS:FnScope ["rule"] ["rule"] (defScope Dz):={}
abbrev iq:=aT
def Fp {f:LA}{fd:LI}(Fn:Fun K "keeps" "keeps" Dz f fd)(T:Txt K mg) :FnOk P w K mg base CX0 1 f fd ["rule"] (spD K 1 iq):=by
 refine K4 Fn qS λcdv A outer s H E hr=>?_
 have hu5:(A.deeper<|PyProof.Rows.envOfC "keeps" (defScope Dz) s.heap.objs.size f cdv).units+65<Mc:=by have:=hr.un;omega
 exact⟨_,(k8<|A7<|gR (kl rfl hu5) (i6 0)<|Ev.bw<|Cs T.g_KEEPING)⟩
def Z1:FnScope ["house","stand","beat","places","room","entered"] ["house","stand","beat"] (defScope Ds):={}
abbrev dP:=W2
def EH {f:LA}{fd:LI}(Fn:Fun K "let_in" "let_in" Ds f fd)(T:Txt K mg) :FnOk P w K mg base CX0 1 f fd ["house","stand","beat"] (spD K 3 dP):=by
 refine K4 Fn Z1 λcdv A outer s H E hr=>?_
 exact⟨_,(c6 (m4 3 Z1.nd<|Y2 0)
   (c6 (m4 4 Z1.nd<|mQ (C8 rO (i6 3)<|Ev.bw bV) (n9 (M0 rfl) T.len L5<|i9 (i6 2) l3)<|B7 gZ (i6 3)<|Ev.bw<|n9 (M0 rfl) T.len L5<|i9 (i6 1) l3)
   (c6 (jJ 5 (hN:=Z1.nd) (defScope Ds) ["rank","work"] (G1<|Ev.bw<|rE (i6 2) ya<|Bf<|g9 4) (u6 (n:=2) rfl<|d6 (M9 (i:=0))<|d6 (M9 (i:=1)) m9) B8<|A3<|d5 (g9 0)<|d5 (g9 1)<|d5 xF j5)
   (k8<|A7<|A3<|d5 (B7 (G4 rfl) (i6 1)<|Ev.bw<|u5 (u4 rfl) T.tuple u7<|i9 (i6 5) l3)<|d5 (B7 gZ (Ev.bw<|n9 (M0 rfl) T.len L5<|i9 (i6 2) l3)<|Ev.bw<|n9 (M0 rfl) T.len L5<|i9 (i6 5) l3) j5))))⟩
def cB:FnScope ["rule","stand","places"] ["rule","stand"] (defScope CT):={}
abbrev dQ:=CY
def DR {f c P0:LA}{fd:LI}(Fn:Fun K "lined_up" "lined_up" CT f fd)(T:Txt K mg)(LB:LamB K mg base "lined_up" fd c P0) :FnOk P w K mg base CX0 1 f fd ["rule","stand"] (spD K 2 dQ):=by
 refine mS Fn cB λcdv A outer s H E hcd hr=>?_
 obtain rfl:cdv = .ref c:=hcd.symm.trans LB.code;have hu5:(A.deeper<|PyProof.Rows.envOfC "lined_up" (defScope CT) s.heap.objs.size f<|.ref c).units+65<Mc:=by have:=hr.un;omega
 exact⟨_,(c6 (m4 2 cB.nd<|sD (d5 (n9 (M0 rfl) T.len L5<|i9 (i6 1) l3) j5) rfl T.range T.list iG)
   (c6 (cL (C8 (kl rfl hu5) (i6 0)<|Ev.bw<|eX (.tuple [.str "last",.str "lastoff"]) rfl) (k8<|A7<|yP<|i6 2) au)
   (c6 (cL (C8 (kl rfl hu5) (i6 0)<|Ev.bw<|eX (.tuple [.str "short",.str "shortoff"]) rfl) (k8<|A7<|uq (osc:=(defScope CT)) (N:=["place","stand"]) (cap:=[1]) (y:="place") LB rfl T.sorted hr rfl (d5 (g9 2) j5) rfl ⟨rfl,rfl,rfl,by decide +kernel,rfl,rfl,by decide +kernel,rfl,rfl,by decide +kernel⟩ rfl rfl<|λcl f c' Y s H=>(E3 (F0 rfl) (Ev.bw<|E3 (F0 rfl) (i6 1)<|i6 0)<|Ev.bw l5)) au)
   (c6 (cL (C8 (kl rfl hu5) (i6 0)<|Ev.bw<|eX (.tuple [.str "front",.str "frontoff"]) rfl) (k8<|A7<|uq (osc:=(defScope CT)) (N:=["place","stand"]) (cap:=[1]) (y:="place") LB rfl T.sorted hr rfl (d5 (g9 2) j5) rfl ⟨rfl,rfl,rfl,by decide +kernel,rfl,rfl,by decide +kernel,rfl,rfl,by decide +kernel⟩ rfl rfl<|λcl f c' Y s H=>(E3 (F0 rfl) (Ev.bw<|E3 (F0 rfl) (i6 1)<|i6 0)<|Ev.bw l5)) au)
   (k8<|A7<|g9 2)))))⟩
def N9:FnScope ["house","stand","hands","places","rule","order"] ["house","stand"] (defScope Dt):={}
abbrev iV:=Df
def EI {f c P0:LA}{fd:LI}(Fn:Fun K "picked" "picked" Dt f fd)(T:Txt K mg)(LB:LamB K mg base "picked" fd c P0)(Dp:l4 P w K mg base "lined_up" 1 ["rule","stand"] (spD K 2 dQ))(Dk:l4 P w K mg base "keeps" 1 ["rule"] (spD K 1 iq)):FnOk P w K mg base CX0 2 f fd ["house","stand"] (spD K 2 iV):=by
 refine mS Fn N9 λcdv A outer s H E hcd hr=>?_
 obtain rfl:cdv = .ref c:=hcd.symm.trans LB.code;exact⟨_,(c6 (Q1 (g9 0)<|u6 (n:=3) rfl<|d6 (z9 (i:=2) N9.nd)<|d6 (z9 (i:=3) N9.nd)<|d6 (z9 (i:=4) N9.nd) m9)
   (c6 (m4 5 N9.nd<|r8 Dp hr<|l6 (g9 4)<|l6 (g9 1) l8)
   (c6 (cL (ql<|Ev.bw<|r8 Dk hr<|l6 (g9 4) l8) (k8<|m4 5 N9.nd<|uq (osc:=(defScope Dt)) (N:=["place","stand"]) (cap:=[1]) (y:="place") LB rfl T.sorted hr rfl (d5 (g9 5) j5) rfl ⟨rfl,rfl,rfl,by decide +kernel,rfl,rfl,by decide +kernel,rfl,rfl,by decide +kernel⟩ rfl rfl<|λcl f c' Y s H=>(Aq<|E3 (F0 rfl) (Ev.bw<|E3 (F0 rfl) (i6 1)<|i6 0)<|Ev.bw l5)) au)
   (k8<|A7<|u5 (u4 rfl) T.tuple u7<|i9 (Ev.bw<|n9 (gg rfl) T.sorted fX<|i9 (Ev.bw<|rE (i6 5) ya<|Bf<|g9 2) l3) l3))))⟩
def B5:FnScope ["house","stand","rule","hands_on","waiting","served","gone","place","rank","left","begun","staying"] ["house","stand"] (defScope Dg):={}
abbrev dY:=Y4
def EJ {f:LA}{fd:LI}(Fn:Fun K "worked" "worked" Dg f fd)(T:Txt K mg)(DA:l4 P w K mg base "picked" 2 ["house","stand"] (spD K 2 iV))(Dk:l4 P w K mg base "keeps" 1 ["rule"] (spD K 1 iq)):FnOk P w K mg base CX0 3 f fd ["house","stand"] (spD K 2 dY):=by
 refine K4 Fn B5 λcdv A outer s H E hr=>?_
 have hu5:(A.deeper<|PyProof.Rows.envOfC "worked" (defScope Dg) s.heap.objs.size f cdv).units+65<Mc:=by have:=hr.un;omega
 exact⟨_,(c6 (m4 2 B5.nd<|Y2 0)
   (c6 (m4 3 B5.nd<|r8 DA hr<|l6 (g9 0)<|l6 (g9 1) l8)
   (c6 (jJ 4 (hN:=B5.nd) (defScope Dg) ["place","person","hands_on"] (jO (i6 1) T.enumerate) (u6 (n:=2) rfl<|d6 (M9 (i:=0))<|d6 (M9 (i:=1)) m9) (mM<|C8 (jg rfl hu5) (i6 0)<|i6 2)<|A3<|d5 (g9 0)<|d5 (g9 1) j5)
   (c6 (vw 5 6 rfl B5.nd (pK<|N3 j5)<|pK<|N3 j5)
   (c6 (T8 rfl (cq<|g9 3) (z9 (i:=7) B5.nd) (c6 (Q1 (E3 (F0 rfl) (i6 1)<|i6 7)<|u6 (n:=3) rfl<|d6 (z9 (i:=8) B5.nd)<|d6 (z9 (i:=9) B5.nd)<|d6 (z9 (i:=10) B5.nd) m9)
   (k8<|cL (C8 yg (i6 9)<|Ev.bw l5) (k8<|V1 5 rfl<|A3<|d5 (g9 7)<|d5 (A3<|d5 (g9 8)<|d5 (B7 gZ (i6 9)<|Ev.bw l5)<|d5 (r8 Dk hr<|l6 (g9 2) l8) j5) j5)<|k8<|V1 6 rfl<|g9 7)))
   (c6 (m4 11 B5.nd<|mQ (C8 (iX rfl hr.units) (i6 2)<|Ev.bw U5) (B7 (G4 rfl) (i6 4)<|i6 5)<|n9 (gg rfl) T.sorted fX<|i9 (Ev.bw<|B7 (G4 rfl) (i6 4)<|i6 5) l3)
   (k8<|A7<|A3<|d5 (g9 11)<|d5 (g9 3)<|d5 (u5 (u4 rfl) T.tuple u7<|i9 (i6 6) l3) j5)))))))⟩
def Z2:FnScope ["house","stand","beat","filled","lost","staying","hands_on","gone"] ["house","stand","beat"] (defScope DN):={}
abbrev kR:=eh
def FD {f:LA}{fd:LI}(Fn:Fun K "step" "step" DN f fd)(T:Txt K mg)(Da:l4 P w K mg base "let_in" 1 ["house","stand","beat"] (spD K 3 dP))(Dc:l4 P w K mg base "worked" 3 ["house","stand"] (spD K 2 dY)):FnOk P w K mg base CX0 4 f fd ["house","stand","beat"] (spD K 3 kR):=by
 refine K4 Fn Z2 λcdv A outer s H E hr=>?_
 exact⟨_,(c6 (Q1 (r8 Da hr<|l6 (g9 0)<|l6 (g9 1)<|l6 (g9 2) l8)<|u6 (n:=2) rfl<|d6 (z9 (i:=3) Z2.nd)<|d6 (z9 (i:=4) Z2.nd) m9)
   (c6 (Q1 (r8 Dc hr<|l6 (g9 0)<|l6 (g9 3) l8)<|u6 (n:=3) rfl<|d6 (z9 (i:=5) Z2.nd)<|d6 (z9 (i:=6) Z2.nd)<|d6 (z9 (i:=7) Z2.nd) m9)
   (k8<|A7<|A3<|d5 (u5 (u4 rfl) T.tuple u7<|i9 (Ev.bw<|cA (defScope DN) ["place","person"] (G1<|i6 5) (u6 (n:=2) rfl<|d6 (M9 (i:=0))<|d6 (M9 (i:=1)) m9) B8<|g9 1) l3)<|d5 (g9 4)<|d5 (g9 7) j5)))⟩
def bK:FnScope ["house","way","stand","stands","lost","gone","beat","following","turned_away","places"] ["house","way","stand"] (defScope Fo):={}
abbrev xU:=nY
def FR {f:LA}{fd:LI}(Fn:Fun K "run" "run" Fo f fd)(T:Txt K mg)(Dv:l4 P w K mg base "step" 4 ["house","stand","beat"] (spD K 3 kR)):FnOk P w K mg base CX0 5 f fd ["house","way","stand"] (spD K 3 xU):=by
 refine K4 Fn bK λcdv A outer s H E hr=>?_
 exact⟨_,(c6 (sP 3 4 5 rfl bK.nd (pK<|N3<|d5 (g9 2) j5) (pK<|N3 j5)<|pK<|N3 j5)
   (c6 (T8 rfl (cq<|g9 1) (z9 (i:=6) bK.nd) (c6 (Q1 (r8 Dv hr<|l6 (g9 0)<|l6 (E3 (F0 rfl) (i6 3)<|Ev.bw<|uM kE<|Ev.bw l5)<|l6 (g9 6) l8)<|u6 (n:=3) rfl<|d6 (z9 (i:=7) bK.nd)<|d6 (z9 (i:=8) bK.nd)<|d6 (z9 (i:=9) bK.nd) m9)
   (c6 (V1 3 rfl<|g9 7)
   (c6 (V1 4 rfl<|g9 8)
   (k8<|V1 5 rfl<|n9 (M0 rfl) T.len L5<|i9 (i6 9) l3)))))
   (k8<|A7<|A3<|d5 (u5 (u4 rfl) T.tuple u7<|i9 (i6 3) l3)<|d5 (u5 (u4 rfl) T.tuple u7<|i9 (i6 4) l3)<|d5 (u5 (u4 rfl) T.tuple u7<|i9 (i6 5) l3) j5)))⟩
def D6:FnScope ["course","waited","gone_at","word","beat","waits"] ["course","waited","gone_at"] (defScope Dd):={}
abbrev aW:=D4
def DD {f:LA}{fd:LI}(Fn:Fun K "after_beat" "after_beat" Dd f fd)(T:Txt K mg) :FnOk P w K mg base CX0 1 f fd ["course","waited","gone_at"] (spD K 3 aW):=by
 refine K4 Fn D6 λcdv A outer s H E hr=>?_
 exact⟨_,(c6 (Q1 (g9 0)<|u6 (n:=3) rfl<|d6 (z9 (i:=3) D6.nd)<|d6 (z9 (i:=4) D6.nd)<|d6 (z9 (i:=5) D6.nd) m9)
   (c6 (nL 5 D6.nd<|mQ (ql<|i6 1) l5 l5)
   (c6 (cL (C8 rO (i6 2)<|Ev.bw bV) (k8<|A7<|A3<|d5 (g9 3)<|d5 (g9 4)<|d5 (g9 5) j5) au)
   (k8<|A7<|A3<|d5 U5<|d5 (g9 4)<|d5 (g9 2)<|d5 (g9 5) j5))))⟩
def l0:FnScope ["house","way","told","stand","inside","at","beat","filled","lost","entered","staying","hands_on","gone","place","number"] ["house","way"] (defScope CW):={}
abbrev G8:=Z8
def Ep {f:LA}{fd:LI}(Fn:Fun K "courses" "courses" CW f fd)(T:Txt K mg)(Da:l4 P w K mg base "let_in" 1 ["house","stand","beat"] (spD K 3 dP))(Dc:l4 P w K mg base "worked" 3 ["house","stand"] (spD K 2 dY))(De:l4 P w K mg base "after_beat" 1 ["course","waited","gone_at"] (spD K 3 aW)):FnOk P w K mg base CX0 4 f fd ["house","way"] (spD K 2 G8):=by
 refine K4 Fn l0 λcdv A outer s H E hr=>?_
 have hu5:(A.deeper<|PyProof.Rows.envOfC "courses" (defScope CW) s.heap.objs.size f cdv).units+65<Mc:=by have:=hr.un;omega
 exact⟨_,(c6 (aI 2 l0.nd<|N3 j5)
   (c6 (ub 3 4 rfl rfl l0.nd (Cg<|eX (.tuple []) rfl)<|pK<|N3 j5)
   (c6 (T8 rfl (ib (g9 1) T.enumerate) (u6 (n:=2) rfl<|d6 (z9 (i:=5) l0.nd)<|d6 (z9 (i:=6) l0.nd) m9) (c6 (Q1 (r8 Da hr<|l6 (g9 0)<|l6 (g9 3)<|l6 (g9 6) l8)<|u6 (n:=2) rfl<|d6 (z9 (i:=7) l0.nd)<|d6 (z9 (i:=8) l0.nd) m9)
   (c6 (m4 9 l0.nd<|B7 gZ (Ev.bw<|n9 (M0 rfl) T.len L5<|i9 (i6 6) l3)<|i6 8)
   (c6 (mO 4 l0.nd<|Ev.bw<|rW (d5 (n9 (M0 rfl) T.len L5<|i9 (i6 2) l3)<|d5 (B7 (G4 rfl) (Ev.bw<|n9 (M0 rfl) T.len L5<|i9 (i6 2) l3)<|i6 9) j5) rfl T.range T.list iG)
   (c6 (mO 2 l0.nd<|Ev.bw<|B7 (G4 rfl) (Ev.bw<|B7 (bf rfl) (Ev.bw<|lY<|d5 (A3<|d5 U5<|d5 (g9 5)<|d5 l5 j5) j5)<|i6 9)<|Ev.bw<|B7 (bf rfl) (Ev.bw<|lY<|d5 (A3<|d5 U5<|d5 (g9 5) j5) j5)<|i6 8)
   (c6 (Q1 (r8 Dc hr<|l6 (g9 0)<|l6 (g9 7) l8)<|u6 (n:=3) rfl<|d6 (z9 (i:=10) l0.nd)<|d6 (z9 (i:=11) l0.nd)<|d6 (z9 (i:=12) l0.nd) m9)
   (c6 (sy 4<|T8 rfl (ib (g9 4) T.enumerate) (u6 (n:=2) rfl<|d6 (z9 (i:=13) l0.nd)<|d6 (z9 (i:=14) l0.nd) m9)<|k8<|zS 2 (r8 De hr<|l6 (E3 (F0 rfl) (i6 2)<|i6 14)<|l6 (gR (jg rfl hu5) (i6 13)<|i6 11)<|l6 (mQ (C8 (kl rfl hu5) (i6 13)<|i6 12) (B7 (G4 rfl) (i6 5)<|Ev.bw l5) bV) l8)<|g9 14)
   (c6 (aI 4 l0.nd<|BL (defScope CW) ["place","person","inside"] (G1<|i6 10) (u6 (n:=2) rfl<|d6 (M9 (i:=0))<|d6 (M9 (i:=1)) m9) B8<|E3 (F0 rfl) (i6 2)<|i6 0)
   (k8<|m4 3 l0.nd<|u5 (u4 rfl) T.tuple u7<|i9 (Ev.bw<|cA (defScope CW) ["place","person"] (G1<|i6 10) (u6 (n:=2) rfl<|d6 (M9 (i:=0))<|d6 (M9 (i:=1)) m9) B8<|g9 1) l3)))))))))
   (k8<|gO 2))))⟩
def O3:FnScope ["house","way","stand","voids"] ["house","way"] (defScope Du):={}
abbrev J4:=Z3
def Er {f:LA}{fd:LI}(Fn:Fun K "drained" "drained" Du f fd)(T:Txt K mg)(Fq:l4 P w K mg base "run" 5 ["house","way","stand"] (spD K 3 xU))(Dv:l4 P w K mg base "step" 4 ["house","stand","beat"] (spD K 3 kR)):FnOk P w K mg base CX0 6 f fd ["house","way"] (spD K 2 J4):=by
 refine K4 Fn O3 λcdv A outer s H E hr=>?_
 exact⟨_,(c6 (m4 2 O3.nd<|E3 (F0 rfl) (Ev.bw<|E3 (F0 rfl) (Ev.bw<|r8 Fq hr<|l6 (g9 0)<|l6 (g9 1)<|l6 (eX (.tuple []) rfl) l8)<|Ev.bw l5)<|Ev.bw<|uM kE<|Ev.bw l5)
   (c6 (m4 3 O3.nd l5)
   (c6 (sL (C8 yg (Ev.bw<|n9 (M0 rfl) T.len L5<|i9 (i6 2) l3)<|Ev.bw l5) (c6 (m4 2 O3.nd<|E3 (F0 rfl) (Ev.bw<|r8 Dv hr<|l6 (g9 0)<|l6 (g9 2)<|l6 (eX (.tuple []) rfl) l8)<|Ev.bw l5)
   (k8<|nL 3 O3.nd l5)))
   (k8<|A7<|B7 (G4 rfl) (i6 1)<|Ev.bw<|B7 (bf rfl) (Ev.bw<|eX (.tuple [.tuple []]) rfl)<|i6 3))))⟩
def C4:FnScope ["house","way","works","comers","ended","last","rows","number","course"] ["house","way","works"] (defScope CM):={}
section
local instance regL_gone_way:Feeds:=K7
def J7:DE->M Out:=(pSq (oo (X6<|sV 4) (E8 2<|i5 (bN 7)<|i5 (bN 8) G3)<|mIf (mE<|uB<|s2 (eqD false) (s2 ixD (sW 8)<|sC<|.int 0)<|sC<|.str "gone") (vS (s2 ixD (sW 8)<|sC<|.int 2)<|M7<|c7 (M7<|c7 (s2 ixD (s2 ixD (sW 3)<|sW 7)<|sC<|.int 0)<|c7 (s2 ixD (sW 2)<|sW 7) j4)<|c7 (sV 7) j4) mNx)
  mNx)
def iA {f:LA}{cdv:Lz}{A:LG}{outer:List LQ}{s:LC}{H:Hp}{E:XK}(T:Txt K mg)(hr:Room 6 (A.deeper<|PyProof.Rows.envOfC "gone_way" (defScope CM) s.heap.objs.size f cdv))(hu5:(A.deeper<|PyProof.Rows.envOfC "gone_way" (defScope CM) s.heap.objs.size f cdv).units+65<Mc){rest:List LJ}{u:TS}:∃ts,SmsU K (Q9 CX0 P w K mg base ["house","way","works","comers","ended","last","rows","number","course"] "gone_way" (defScope CM) f cdv A outer s H E).nox 6 ((nth (defBody CM) 4)::rest) rest ts u J7:=by
 unfold J7;exact⟨_,(xk (zZ rfl (ib (g9 4) T.enumerate) (u6 (n:=2) rfl<|d6 (z9 (i:=7) C4.nd)<|d6 (z9 (i:=8) C4.nd) m9) (pY<|dU (mN<|by decide)<|dU (mN<|by decide) oU)<|uY<|By (zu<|C8 (iX rfl hr.units) (Ev.bw<|Y2 8)<|Ev.bw U5) (uY<|yI rfl (Y2 8)<|A3<|d5 (A3<|d5 (E3 (F0 rfl) (Ev.bw<|E3 (F0 rfl) (i6 3)<|i6 7)<|Ev.bw l5)<|d5 (E3 (F0 rfl) (i6 2)<|i6 7) j5)<|d5 (g9 7) j5) zK)
   yT)⟩
end
def O2:List DV->M Ac:=S4 ["house","way","works","comers","ended","last","rows","number","course"] (mSq (y3 3<|lF (N6<|sW 1) 2 [] (bN 0) M5 (N6<|sV 0) (bN 1) M5<|sV 1)
  (mSq (y3 4<|l9 G8<|vD (sV 0)<|vD (l9 J4<|vD (sV 0)<|vD (sV 1) A9) A9)
  (mSq (y3 5<|sN fk<|c7 (sLC (N6<|sW 4) 1 [] (bN 0) (uB<|s2 (eqD false) (s2 ixD (sW 0)<|sC<|.int 0)<|sC<|.str "gone")<|s2 ixD (sW 0)<|sC<|.int 2)<|c7 (s1 ua<|sC<|.int 1) j4)
  (mSq (dM 6 ue (gY<|eI<|c7 (s2 Q2 (sW 5)<|sC<|.int 1) j4) J7)<|mRt<|l9 L9<|vD (sV 6) A9))))
def DS {f:LA}{fd:LI}(Fn:Fun K "gone_way" "gone_way" CM f fd)(T:Txt K mg)(CU:l4 P w K mg base "courses" 4 ["house","way"] (spD K 2 G8))(CV:l4 P w K mg base "drained" 6 ["house","way"] (spD K 2 J4))(Dq:l4 P w K mg base "told_way" 1 ["rows"] (spD K 1 L9)):FnOk P w K mg base CX0 7 f fd ["house","way","works"] (spD K 3 O2):=by
 refine K4 Fn C4 λcdv A outer s H E hr=>?_
 have hu5:(A.deeper<|PyProof.Rows.envOfC "gone_way" (defScope CM) s.heap.objs.size f cdv).units+65<Mc:=by have:=hr.un;omega
 obtain⟨t8,h8⟩:∃t,Sss K (Q9 CX0 P w K mg base ["house","way","works","comers","ended","last","rows","number","course"] "gone_way" (defScope CM) f cdv A outer s H E).nox (List.drop 5<|defBody CM) t (mRt<|l9 L9<|vD (sV 6) A9):=⟨_,(k8<|A7<|r8 Dq hr<|l6 (g9 6) l8)⟩;obtain⟨t9,h9⟩:=iA (f:=f) (cdv:=cdv) (A:=A) (outer:=outer) (s:=s) (H:=H) (E:=E) (rest:=List.drop 5<|defBody CM) (u:=t8) T hr hu5;exact⟨_,(c6 (oV 3 (hN:=C4.nd) (defScope CM) ["beat","comer"] (G1<|i6 1) (M9 (i:=0)) B8 (cq<|g9 0) (M9 (i:=1)) B8<|g9 1)
   (c6 (m4 4 C4.nd<|r8 CU hr<|l6 (g9 0)<|l6 (r8 CV hr<|l6 (g9 0)<|l6 (g9 1) l8) l8)
   (c6 (m4 5 C4.nd<|vE rfl rfl T.max (Ev.bw<|cA (defScope CM) ["course"] (G1<|i6 4) (M9 (i:=0)) (mM<|C8 (iX rfl hr.units) (Ev.bw<|Y2 0)<|Ev.bw U5)<|Y2 0)<|Ev.bw<|uM kE<|Ev.bw l5)
   (sE (show Regs.lam=Fam.lam from rfl) uV (xn 6 (k:=1) (cap:=[]) (defScope CM) ["moment"] C4.nd (Ei.bw<|dh (d5 (B7 (G4 rfl) (i6 5)<|Ev.bw l5) j5) T.range)<|M9 (i:=0)) h9 h8))))⟩
def M3:FnScope ["houses","way","works","first","second","way_on","numbers","courses_on"] ["houses","way","works"] (defScope Dj):={}
def T4:List DV->M Ac:=S4 ["houses","way","works","first","second","way_on","numbers","courses_on"] (mSq (bO (E8 2<|i5 (bN 3)<|i5 (bN 4) G3)<|sV 0)
  (mSq (bO (E8 2<|i5 (bN 5)<|i5 (bN 6) G3)<|l9 O2<|vD (sV 3)<|vD (sV 1)<|vD (sV 2) A9)
  (mSq (mDZ false 7 (sV 6)<|l9 G8<|vD (sV 4)<|vD (l9 J4<|vD (sV 4)<|vD (sV 5) A9) A9)
  (mRt<|sLC (X6<|l9 G8<|vD (sV 3)<|vD (l9 J4<|vD (sV 3)<|vD (sV 1) A9) A9) 2 [7] (E8 2<|i5 (bN 0)<|i5 (bN 1) G3) M5<|M7<|c7 (sV 1)<|c7 (md 2<|sV 0) j4))))
def Eu {f:LA}{fd:LI}(Fn:Fun K "through" "through" Dj f fd)(T:Txt K mg)(Dr:l4 P w K mg base "gone_way" 7 ["house","way","works"] (spD K 3 O2))(CU:l4 P w K mg base "courses" 4 ["house","way"] (spD K 2 G8))(CV:l4 P w K mg base "drained" 6 ["house","way"] (spD K 2 J4)):FnOk P w K mg base CX0 8 f fd ["houses","way","works"] (spD K 3 T4):=by
 refine K4 Fn M3 λcdv A outer s H E hr=>?_
 exact⟨_,(c6 (Q1 (g9 0)<|u6 (n:=2) rfl<|d6 (z9 (i:=3) M3.nd)<|d6 (z9 (i:=4) M3.nd) m9)
   (c6 (Q1 (r8 Dr hr<|l6 (g9 3)<|l6 (g9 1)<|l6 (g9 2) l8)<|u6 (n:=2) rfl<|d6 (z9 (i:=5) M3.nd)<|d6 (z9 (i:=6) M3.nd) m9)
   (c6 (vB false 7 M3.nd (g9 6) (r8 CU hr<|l6 (g9 4)<|l6 (r8 CV hr<|l6 (g9 4)<|l6 (g9 5) l8) l8) rfl T.zip T.dict)
   (k8<|A7<|cA (defScope Dj) ["number","course","courses_on"] (jO (Ev.bw<|r8 CU hr<|l6 (g9 3)<|l6 (r8 CV hr<|l6 (g9 3)<|l6 (g9 1) l8) l8) T.enumerate) (u6 (n:=2) rfl<|d6 (M9 (i:=0))<|d6 (M9 (i:=1)) m9) B8<|A3<|d5 (g9 1)<|d5 (qD 2 (g9 0) rfl ⟨rfl,rfl,rfl,rfl⟩) j5))))⟩
def iN (K:Fg):Sp:=λvs H Q _=>∃(a:LA) (ns:List Int),vs=[.ref a]/\SqL K H a (ns.map V.int)/\ns.length<=63 /\
 ∀(d c:LA) (H':Hp),Feeds.At d c H' (lV ns)->d9 H H'->Q (.ref d) H'
def BI {ns:List Int}(h:ns.length<=63):bC (ns.map V.int) none (some 63)=ns.map V.int:=by
 unfold bC;have e:HT.sIx (ns.map V.int).length (ns.map V.int).length (some 63)=min 63 (ns.map V.int).length:=HT.sIx_nat _ _ 63;rw[e,HT.sIx_none,List.drop_zero,Nat.sub_zero,HD (by rw[Gi];omega)]
def gJ:FnScope ["_law_script"] ["_law_script"] (defScope Dh):={}
def DO {f:LA}{fd:LI}(F:Fun K "_law_feed" "_law_feed" Dh f fd)(T:Txt K mg):FnOk P w K mg base CX0 1 f fd ["_law_script"] (iN K):=by
 refine F.ok gJ (λvs H Q E h=>?_) (λcdv A outer s H vs Q E hr h=>?_)
 .obtain⟨a,ns,rfl,_⟩:=h;rfl
 .obtain⟨a,ns,rfl,hS,hl,k⟩:=h;refine⟨_,Z7<|bu<|bL<|k9 (Z4 gU rfl T.list iG<|k9 (jE nj (pv 0) mD<|iu k4) v6)<|k9 k4<|k9 k4 v6,?_⟩;refine⟨_,rfl,63,rfl,a,_,rfl,hS,λq0 hq0=>?_⟩;rw[BI hl];refine⟨q0,_,rfl,.inl<|SqL.of f8,λq hq=>⟨Ii<|R1 (by show 3<=1000;decide),λp hp=>?_⟩⟩;have s0:d9 H (upd H q0<|.lst<|ns.map V.int):=d9.upd hq0;have nqp:q≠p:=f9 f8 hp;refine k p q _ ⟨f8,by rw[d7 nqp];exact f8,hl,(by show(0:Int)<=0;decide),(by show(0:Int)<=0;decide),Ie nqp⟩ λb o e=>?_
  have e1:upd (upd H q0<|.lst<|ns.map V.int) q (.lst<|ns.map V.int) b=some o:=by rw[d7<|f9 (s0 b o e) hq];exact s0 b o e
  rw[d7<|f9 e1 hp];exact e1
def K5:FnScope ["_law_feed_here","_law_many","_law_digit","_law_at","_law_cell","_law_first"] ["_law_feed_here","_law_many"] (defScope Di):={}
def DP {f:LA}{fd:LI}(Fn:Fun K "_law_next" "_law_next" Di f fd)(T:Txt K mg):FnOk P w K mg base CX0 1 f fd ["_law_feed_here","_law_many"] (spD K 2 R0):=by
 refine Fn.ok K5 (λvs H Q E h=>?_) (λcdv A outer s H vs Q E hr h=>?_)
 .obtain⟨G,B,F,args,d,F',hl,_⟩:=h;exact hl
 .obtain⟨G,B,F,args,dd,F',hl,fB,bk,fa,ha,hm0,q⟩:=h;obtain⟨m,rfl⟩:∃m,args=[.feed,.dat<|.int m]:=by
   unfold R0 at hm0;split at hm0
   .exact⟨_,rfl⟩
   .cases hm0
  obtain⟨v,r,rfl,_,⟨d,c,rfl,rfl⟩,v2,r2,rfl,_,hv2,rfl⟩:=ha;have hv2:v2 = .int m:=by simpa only[DVr,b7] using hv2
  subst hv2;obtain⟨⟨r0,F1⟩,e1,e2⟩:=bS9 hm0;cases e2;replace e1:cS m F=some (r0,F1):=e1;have hcond:0<m/\m<1073741824/\F.t<199999:=by
   unfold cS at e1;split at e1
   .assumption
   .cases e1
  obtain⟨hm,hm2,htl⟩:=hcond;obtain⟨ns,a,l,t⟩:=F;obtain⟨⟨hd,hc,hl63,ha0,ht0,ndc⟩,tbo⟩:=fa;simp only at hd hc hl63 ha0 ht0 htl;have k:∀(r:Int) (H':Hp) (F2:FdS),cS m ⟨ns,a,l,t⟩=some (r,F2)->Feeds.At d c H' F2->(∀b o,H b=some o->b≠d->H' b=some o)->Q (.int r) H':=λr H' F2 er fa' kp=>by
   rw[er]at e1;cases e1;exact q _ H' (λb o e nb=>kp b o e λz=>nb<|by simp[j8,z]) ⟨fa',tbo.but hd ⟨λ_ z=>(by cases z),λ_ z=>(by cases z)⟩ kp⟩ b7.int
  have hdr:cS m ⟨ns,a,l,t⟩=some (if 0<l then(l % m,⟨ns,a,l / m,t+1⟩) else if 10 ^ 18<=(FdS.cellL ⟨ns,a,l,t⟩)/\a<ns.length then((FdS.cellL ⟨ns,a,l,t⟩) % m,⟨ns,a+1,(FdS.cellL ⟨ns,a,l,t⟩) / m,t+1⟩) else((FdS.mixN ⟨ns,a,l,t⟩) % m,⟨ns,a+1,l,t+1⟩)):=by
   unfold cS;rw[Gp ⟨hm,hm2,htl⟩]
  have ncd:c≠d:=Ie ndc;refine⟨_,y8 (nH (aZ xD (X5 K3 (pv 0) k4<|λ_ _=>rfl) k4<|bJ _)
    (y8 (Y0 (i:=2) K5.nd rfl (Or.inl rfl)<|y4 Y1 (X5 K3 (pv 0) k4<|λ_ _=>rfl)<|pv 1)
     (y8 (cx (y4 gn (X5 K3 (pv 0) k4<|λ_ _=>rfl)<|pv 1)<|ia (pv 0) k4 aM<|λ_=>rfl)<|Z7<|bu<|pv 2)) dz)
   (y8 (Y0 (i:=3) K5.nd rfl (Or.inl rfl)<|X5 K3 (pv 0) k4<|λ_ _=>rfl)
   (y8 (cx (y4 aF (pv 3) k4)<|ia (pv 0) k4 aM<|λ_=>rfl)
   (y8 (Y0 (i:=4) K5.nd rfl (Or.inl rfl) (km (aZ (tL<|Je (Nat.le_add_right _ 64) hr.units) (X5 K3 (pv 0) k4<|λ_ _=>rfl) (bL v6)<|bJ _)
    (X5 K3 (X5 K3 (pv 0) k4<|λ_ _=>rfl) (y4 Y1 (pv 3)<|eK U7 (by rfl) T.len PySem.boot_len<|k9 (X5 K3 (pv 0) k4<|λ_ _=>rfl) v6)<|λ_ _=>rfl) k4))
   (y8 (nH (PW.pt<|Ai (aZ AI (pv 4) (y4 qJ k4 k4)<|bJ _)<|wG<|aZ xE (pv 3) (eK U7 (by rfl) T.len PySem.boot_len<|k9 (X5 K3 (pv 0) k4<|λ_ _=>rfl) v6)<|bJ _)
    (y8 (cx (y4 gn (pv 4)<|pv 1)<|ia (pv 0) k4 aM<|λ_=>rfl)<|Z7<|bu<|y4 Y1 (pv 4)<|pv 1) dz)
   (y8 (Y0 (i:=5) K5.nd rfl (Or.inl rfl)<|y4 Y1 (y4 aA (y4 aF (y4 aF (y4 aF (y4 Y1 (pv 4) k4)<|y4 aA (y4 aA k4<|pv 3)<|pv 3)<|y4 aA k4<|pv 3) k4) k4) k4)
   (Z7<|bu<|y4 Y1 (y4 gn (y4 Y1 (y4 aA (y4 Y1 (y4 aF (y4 aF (y4 aA (pv 5)<|pv 5)<|y4 aA k4<|pv 3) k4) k4) k4) k4) k4)<|pv 1)))))),?_⟩
  refine⟨_,rfl,d,_,_,_,rfl,rfl,SqL.of hd,rfl,_,_,rfl,rfl,_,rfl,?_⟩;refine qj (λhleft=>?_) (λhleft=>?_)
  .have hleft:0<l:=Hf hleft;refine⟨_,rfl,d,_,_,_,rfl,rfl,SqL.of hd,rfl,_,rfl,_,_,rfl,rfl,hm,?_⟩;refine⟨_,rfl,d,_,_,_,rfl,rfl,SqL.of hd,rfl,_,rfl,_,_,rfl,rfl,⟨hm,hm2⟩,_,rfl,d,_,_,2,rfl,rfl,hd,rfl,_,rfl,?_⟩;exact k _ _ ⟨ns,a,l / m,t+1⟩ (by rw[hdr,Gp hleft]) ⟨f8,by rw[d7 ncd];exact hc,hl63,ha0,by simp only;omega,ndc⟩ (λb o e hb=>by rw[d7 hb];exact e)
  .have hleft:¬0<l:=λz=>hleft<|GX z
   refine⟨_,rfl,d,_,_,_,rfl,rfl,SqL.of hd,rfl,?_⟩;refine⟨_,rfl,_,_,rfl,rfl,_,rfl,d,_,_,1,rfl,rfl,hd,rfl,?_⟩;have hd1:(upd H d<|.lst [.ref c,.int<|a+1,.int l]) d=some (.lst [.ref c,.int<|a+1,.int l]):=f8;have hc1:(upd H d<|.lst [.ref c,.int<|a+1,.int l]) c=some (.lst<|ns.map V.int):=by rw[d7 ncd];exact hc
   have kp1:∀b o,H b=some o->b≠d->(upd H d<|.lst [.ref c,.int<|a+1,.int l]) b=some o:=λb o e hb=>by rw[d7 hb];exact e
   show rQ _ _ _ _<|upd H d<|.lst [.ref c,.int<|a+1,.int l];generalize upd H d (.lst [.ref c,.int<|a+1,.int l])=H1 at hd1 hc1 kp1;refine⟨_,rfl,d,_,_,_,rfl,rfl,SqL.of hd1,rfl,?_⟩;refine⟨Ii<|R1 (by show 0<=1000;decide),λp hp=>?_⟩;replace kp1:∀b o,H b=some o->b≠d->(upd H1 p<|.lst []) b=some o:=λb o e hb=>by rw[d7<|f9 (kp1 b o e hb) hp];exact kp1 b o e hb
   replace hd1:(upd H1 p<|.lst []) d=some (.lst [.ref c,.int<|a+1,.int l]):=by rw[d7<|f9 hd1 hp];exact hd1
   replace hc1:(upd H1 p<|.lst []) c=some (.lst<|ns.map V.int):=by rw[d7<|f9 hc1 hp];exact hc1
   have hpp:(upd H1 p<|.lst []) p=some (.lst []):=f8;generalize upd H1 p (.lst [])=H1 at hd1 hc1 kp1 hpp;refine⟨c,p,_,rfl,rfl,SqL.of hc1,SqL.of hpp,_,rfl,?_⟩;have big:10 ^ 18<=(FdS.cellL ⟨ns,a,l,t⟩)/\a<ns.length->Q (.int<|FdS.cellL ⟨ns,a,l,t⟩ % m) (upd H1 d<|.lst [.ref c,.int<|a+1,.int<|FdS.cellL ⟨ns,a,l,t⟩ / m]):=λhb =>
    k _ _ ⟨ns,a+1,FdS.cellL ⟨ns,a,l,t⟩ / m,t+1⟩ (by rw[hdr,Gr hleft,Gp hb]) ⟨f8,by rw[d7 ncd];exact hc1,hl63,by simp only;omega,by simp only;omega,ndc⟩ (λb o e hb=>by rw[d7 hb];exact kp1 b o e hb)
   have small:¬(10 ^ 18<=(FdS.cellL ⟨ns,a,l,t⟩)/\a<ns.length)->Q (.int<|FdS.mixN ⟨ns,a,l,t⟩ % m) H1:=λhb =>
    k _ _ ⟨ns,a+1,l,t+1⟩ (by rw[hdr,Gr hleft,Gr hb]) ⟨hd1,hc1,hl63,by simp only;omega,by simp only;omega,ndc⟩ kp1
   unfold FdS.mixN FdS.fstN at small;simp only at small;refine qj (λhne=>?_) (λhe=>?_)
   .have h0:¬ns=[]:=by intro e;rw[e]at hne;simp at hne
    have hne:(0:Int)<ns.length:=by have:=KS.2 h0;omega
    refine⟨_,rfl,d,_,_,_,rfl,rfl,SqL.of hd1,rfl,_,rfl,_,rfl,d,_,_,_,rfl,rfl,SqL.of hd1,rfl,c,_,rfl,.inl<|SqL.of hc1,_,_,rfl,rfl,(by rw[Gi];exact hne),c,_,_,_,rfl,rfl,SqL.of hc1,rP (F:=⟨ns,a,l,t⟩) h0,?_⟩;generalize FdS.cellL ⟨ns,a,l,t⟩=z at big small;obtain⟨q1,q2⟩:=lQ (x:=(z % 1000003+37*a*a+13*a+5)*48271) (m:=999983) (by decide);have tl:¬(10 ^ 18<=(z:Int)/\a<ns.length)->Q (.int<|((z % 1000003+37*a*a+13*a+5)*48271 % 999983*((z % 1000003+37*a*a+13*a+5)*48271 % 999983)+7919*a+11) % 2097143*69621 % 2147483629 / 7 % m) H1:=small;refine⟨_,rfl,_,_,rfl,rfl,⟨by decide,by decide,by decide⟩,_,_,rfl,rfl,_,rfl,?_⟩;refine qj (λhb1=>⟨_,rfl,_,rfl,d,_,_,_,rfl,rfl,SqL.of hd1,rfl,c,_,rfl,.inl<|SqL.of hc1,_,_,rfl,rfl,_,rfl,qj (λhb2=>?_)<|λhb2=>?_⟩) (λhb1=>AJ ?_)
    .have hb1:=Hf hb1;have hb2:=Hf hb2;rw[Gi]at hb2;exact⟨_,rfl,_,rfl,_,_,rfl,rfl,⟨hm,hm2⟩,_,rfl,d,_,_,2,rfl,rfl,hd1,rfl,_,rfl,_,rfl,_,_,rfl,rfl,hm,big ⟨hb1,hb2⟩⟩
    all_goals
     have hq:=tl λhb=>by first | exact hb2 (GX (by rw[Gi];exact hb.2)) | exact hb1<|GX hb.1
     refine⟨_,rfl,_,_,rfl,rfl,(by show(0:Int)<1000003;decide),_,rfl,_,_,rfl,rfl,.inl ⟨by decide,by decide⟩,_,rfl,_,_,rfl,rfl,.inr ⟨by omega,by omega⟩,_,_,rfl,rfl,_,rfl,_,_,rfl,rfl,.inl ⟨by decide,by decide⟩,_,_,rfl,rfl,_,_,rfl,rfl,_,_,rfl,rfl,.inr ⟨by decide,by decide⟩,_,_,rfl,rfl,(by show(0:Int)<999983;decide),?_⟩
     refine⟨_,rfl,_,rfl,_,_,rfl,rfl,.inl ⟨by omega,by omega⟩,_,rfl,_,_,rfl,rfl,.inl ⟨by decide,by decide⟩,_,_,rfl,rfl,_,_,rfl,rfl,_,_,rfl,rfl,(by show(0:Int)<2097143;decide),?_⟩
     exact⟨_,_,rfl,rfl,.inr ⟨by decide,by decide⟩,_,_,rfl,rfl,(by show(0:Int)<2147483629;decide),_,_,rfl,rfl,⟨by decide,by decide⟩,_,rfl,_,_,rfl,rfl,hm,hq⟩
   .have h0:ns=[]:=by
     cases ns with
     | nil=>rfl
     | cons x y=>exact absurd rfl he
    have hcell:FdS.cellL ⟨ns,a,l,t⟩=0:=by unfold FdS.cellL;rw[Gp h0]
    rw[hcell]at big small;obtain⟨q1,q2⟩:=lQ (x:=((0:Int) % 1000003+37*a*a+13*a+5)*48271) (m:=999983) (by decide);have tl:¬(10 ^ 18<=((0:Int):Int)/\a<ns.length)->Q (.int<|(((0:Int) % 1000003+37*a*a+13*a+5)*48271 % 999983*(((0:Int) % 1000003+37*a*a+13*a+5)*48271 % 999983)+7919*a+11) % 2097143*69621 % 2147483629 / 7 % m) H1:=small;refine⟨_,rfl,_,_,rfl,rfl,⟨by decide,by decide,by decide⟩,_,_,rfl,rfl,_,rfl,?_⟩;refine qj (λhb1=>⟨_,rfl,_,rfl,d,_,_,_,rfl,rfl,SqL.of hd1,rfl,c,_,rfl,.inl<|SqL.of hc1,_,_,rfl,rfl,_,rfl,qj (λhb2=>?_)<|λhb2=>?_⟩) (λhb1=>AJ ?_)
    .have hb1:=Hf hb1;have hb2:=Hf hb2;rw[Gi]at hb2;exact⟨_,rfl,_,rfl,_,_,rfl,rfl,⟨hm,hm2⟩,_,rfl,d,_,_,2,rfl,rfl,hd1,rfl,_,rfl,_,rfl,_,_,rfl,rfl,hm,big ⟨hb1,hb2⟩⟩
    all_goals
     have hq:=tl λhb=>by first | exact hb2 (GX (by rw[Gi];exact hb.2)) | exact hb1<|GX hb.1
     refine⟨_,rfl,_,_,rfl,rfl,(by show(0:Int)<1000003;decide),_,rfl,_,_,rfl,rfl,.inl ⟨by decide,by decide⟩,_,rfl,_,_,rfl,rfl,.inr ⟨by omega,by omega⟩,_,_,rfl,rfl,_,rfl,_,_,rfl,rfl,.inl ⟨by decide,by decide⟩,_,_,rfl,rfl,_,_,rfl,rfl,_,_,rfl,rfl,.inr ⟨by decide,by decide⟩,_,_,rfl,rfl,(by show(0:Int)<999983;decide),?_⟩
     refine⟨_,rfl,_,rfl,_,_,rfl,rfl,.inl ⟨by omega,by omega⟩,_,rfl,_,_,rfl,rfl,.inl ⟨by decide,by decide⟩,_,_,rfl,rfl,_,_,rfl,rfl,_,_,rfl,rfl,(by show(0:Int)<2097143;decide),?_⟩
     exact⟨_,_,rfl,rfl,.inr ⟨by decide,by decide⟩,_,_,rfl,rfl,(by show(0:Int)<2147483629;decide),_,_,rfl,rfl,⟨by decide,by decide⟩,_,rfl,_,_,rfl,rfl,hm,hq⟩
def C3:FnScope ["_law_feed_here","_law_beats","_law_works","_law_way_here","_law_many","_law_k","_law_beat","_law_j"] ["_law_feed_here","_law_beats","_law_works"] (defScope Dm):={}
abbrev O7:=iF nmB
def DT {f:LA}{fd:LI}(Fn:Fun K "_law_way" "_law_way" Dm f fd)(T:Txt K mg)(CK:l4 P w K mg base "_law_next" 1 ["_law_feed_here","_law_many"] (spD K 2 R0)):FnOk P w K mg base CX0 2 f fd ["_law_feed_here","_law_beats","_law_works"] (spD K 3 O7):=by
 refine K4 Fn C3 λcdv A outer s H E hr=>?_
 exact⟨_,(c6 (aI 3 C3.nd<|N3 j5)
   (c6 (m4 4 C3.nd l5)
   (c6 (T8 rfl (dh (d5 (r8 CK hr<|jU 0<|l6 (B7 (G4 rfl) (i6 1)<|Ev.bw l5) l8) j5) T.range) (z9 (i:=5) C3.nd) (c6 (aI 6 C3.nd<|N3 j5)
   (c6 (T8 rfl (dh (d5 (E3 (F0 rfl) (Ev.bw<|eX (.list [.int 0,.int 0,.int 1,.int 1,.int 2,.int 3]) rfl)<|Ev.bw<|r8 CK hr<|jU 0<|l6 l5 l8) j5) T.range) (z9 (i:=7) C3.nd) (k8 (cL (C8 Ba (i6 4)<|Ev.bw l5) (c6 (V1 6 rfl<|A3<|d5 (r8 CK hr<|jU 0<|l6 l5 l8)<|d5 (B7 (G4 rfl) (Ev.bw l5)<|Ev.bw<|r8 CK hr<|jU 0<|l6 (g9 2) l8) j5)
   (k8<|m4 4 C3.nd<|B7 (G4 rfl) (i6 4)<|Ev.bw l5)) au)))
   (k8<|V1 3 rfl<|u5 (u4 rfl) T.tuple u7<|i9 (i6 6) l3))))
   (k8<|A7<|u5 (u4 rfl) T.tuple u7<|i9 (i6 3) l3))))⟩
def p9:FnScope ["_law_way_here","_law_one","_law_other","_law_house","_law_worked","_law_told","_law_found","_law_first","_law_following"] ["_law_way_here","_law_one","_law_other"] (defScope CQ):={}
def u0:List DV->M Ac:=S4 ["_law_way_here","_law_one","_law_other","_law_house","_law_worked","_law_told","_law_found","_law_first","_law_following"] (mSq (y3 3<|sC<|.tuple [.int 1,.none,.str "first"])
  (mSq (y3 4<|sN x5<|c7 (sLC (N6<|sW 0) 1 [1] (bN 0) M5<|sN x5<|c7 (sLC (N6<|sW 0) 2 [1] (E8 2<|i5 (bN 0)<|i5 (bN 1) G3) M5<|M7<|c7 (sV 0)<|c7 (sV 2) j4) j4) j4)
  (mSq (y3 5<|l9 T4<|vD (M7<|c7 (sV 3)<|c7 (sV 3) j4)<|vD (sV 4)<|vD (s2 ag (M7<|c7 (sV 2) j4)<|sN jD<|c7 (sLC (N6<|sW 0) 1 [] (bN 0) M5<|sN V0<|c7 (sW 0) j4) j4) A9)
  (mSq (eC 6<|aH j4)
  (mSq (bE (N6<|sV 5) (E8 2<|i5 (bN 7)<|i5 (bN 8) G3) (mSq (mIf (uOr (uB<|s2 (eqD true) (s2 ixD (sW 7)<|sC<|.int 0)<|sC<|.str "gone")<|uOr (uB<|s2 (isD false) (sW 8)<|sC .none)<|uOr (uB<|s2 (eqD true) (s2 ixD (sW 8)<|sC<|.int 0)<|sC<|.str "gone")<|uB<|s2 (eqD true) (s2 ixD (sW 8)<|sC<|.int 1)<|s2 ixD (sW 7)<|sC<|.int 2) (mRt<|sC .none) mNx)
  (bF 6<|s2 ixD (sW 8)<|sC<|.int 2)))
  (mRt<|sW 6))))))
def Dy {f:LA}{fd:LI}(Fn:Fun K "_law_moments" "_law_moments" CQ f fd)(T:Txt K mg)(Dw:l4 P w K mg base "through" 8 ["houses","way","works"] (spD K 3 T4)):FnOk P w K mg base CX0 9 f fd ["_law_way_here","_law_one","_law_other"] (spD K 3 u0):=by
 refine K4 Fn p9 λcdv A outer s H E hr=>?_
 exact⟨_,(c6 (m4 3 p9.nd<|eX (.tuple [.int 1,.none,.str "first"]) rfl)
   (c6 (m4 4 p9.nd<|u5 (u4 rfl) T.tuple u7<|i9 (Ev.bw<|cA (defScope CQ) ["_law_beat","_law_one"] (G1<|i6 0) (M9 (i:=0)) B8<|u5 (u4 rfl) T.tuple u7<|i9 (Ev.bw<|ux ["_law_rank","_law_work","_law_one"] (G1<|i6 0) (u6 (n:=2) rfl<|d6 (M9 (i:=0))<|d6 (M9 (i:=1)) m9) B8<|A3<|d5 (g9 0)<|d5 (g9 2) j5) l3) l3)
   (c6 (m4 5 p9.nd<|r8 Dw hr<|l6 (A3<|d5 (g9 3)<|d5 (g9 3) j5)<|l6 (g9 4)<|l6 (B7 (bf rfl) (Ev.bw<|A3<|d5 (g9 2) j5)<|Ev.bw<|n9 (xi rfl rfl) T.sum yW<|i9 (Ev.bw<|cA (defScope CQ) ["_law_beat"] (G1<|i6 0) (M9 (i:=0)) B8<|n9 (M0 rfl) T.len L5<|i9 (i6 0) l3) l3) l8)
   (c6 (aI 6 p9.nd<|N3 j5)
   (c6 (T8 rfl (cq<|g9 5) (u6 (n:=2) rfl<|d6 (z9 (i:=7) p9.nd)<|d6 (z9 (i:=8) p9.nd) m9) (c6 (cL (Ew.t<|uK (C8 (qt rfl hr.units) (Ev.bw<|Y2 7)<|Ev.bw U5)<|uK (C8 rO (i6 8)<|Ev.bw bV)<|uK (C8 (qt rfl hr.units) (Ev.bw<|Y2 8)<|Ev.bw U5)<|ym<|C8 (qt rfl hr.units) (Ev.bw<|Y2 8)<|Ev.bw<|Y2 7) (k8<|A7 bV) au)
   (k8<|V1 6 rfl<|Y2 8)))
   (k8<|gO 6))))))⟩
def w6:FnScope ["_law_way_here","_law_one","_law_other","_law_found","_law_begins","_law_at","_law_free","_law_gone","_law_begin"] ["_law_way_here","_law_one","_law_other"] (defScope Do):={}
def L4:List DV->M Ac:=S4 ["_law_way_here","_law_one","_law_other","_law_found","_law_begins","_law_at","_law_free","_law_gone","_law_begin"] (mSq (eC 3<|aH j4)
  (mSq (eC 4<|aH j4)
  (mSq (bE (eI<|c7 (sN V0<|c7 (sW 0) j4) j4) (bN 5)<|ie 4<|s2 ag (oq<|c7 (sV 5) j4)<|sN V0<|c7 (s2 ixD (sW 0)<|sW 5) j4)
  (mSq (y3 6<|sC<|.int 0)
  (mSq (y3 7<|sC<|.int 0)
  (mSq (jj 4 (bE (N6<|sV 4) (bN 8) (mSq (y3 6<|s2 Q2 (sN ji<|c7 (sW 8)<|c7 (sW 6) j4)<|sW 1)
  (mSq (y3 7<|s2 Q2 (sN ji<|c7 (sW 6)<|c7 (sW 7) j4)<|sW 2)
  (bF 3<|sV 7)))))
  (mRt<|sW 3)))))))
def DU {f:LA}{fd:LI}(Fn:Fun K "_law_due" "_law_due" Do f fd)(T:Txt K mg) :FnOk P w K mg base CX0 1 f fd ["_law_way_here","_law_one","_law_other"] (spD K 3 L4):=by
 refine K4 Fn w6 λcdv A outer s H E hr=>?_
 exact⟨_,(c6 (aI 3 w6.nd<|N3 j5)
   (c6 (aI 4 w6.nd<|N3 j5)
   (c6 (T8 rfl (dh (d5 (n9 (M0 rfl) T.len L5<|i9 (i6 0) l3) j5) T.range) (z9 (i:=5) w6.nd)<|k8<|yN 4 rfl<|Ev.bw<|B7 (bf rfl) (Ev.bw<|lY<|d5 (g9 5) j5)<|Ev.bw<|n9 (M0 rfl) T.len L5<|i9 (Ev.bw<|E3 (F0 rfl) (i6 0)<|i6 5) l3)
   (c6 (m4 6 w6.nd l5)
   (c6 (m4 7 w6.nd l5)
   (c6 (sy 4 (T8 rfl (cq<|g9 4) (z9 (i:=8) w6.nd) (c6 (m4 6 w6.nd<|B7 (G4 rfl) (Ev.bw<|n9 (nh rfl rfl) T.max uf<|i9 (i6 8)<|i9 (i6 6) l3)<|i6 1)
   (c6 (m4 7 w6.nd<|B7 (G4 rfl) (Ev.bw<|n9 (nh rfl rfl) T.max uf<|i9 (i6 6)<|i9 (i6 7) l3)<|i6 2)
   (k8<|V1 3 rfl<|g9 7)))))
   (k8<|gO 3)))))))⟩
end
end
section
section
variable {P:LD}{w:LF}{K:Fg}{mg:Str->Option Lz}{base:LL}
def X1:FnScope ["_law_script","_law_feed_here","_law_size","_law_way_here","_law_most","_law_one","_law_other","_law_due_here"] ["_law_script"] (defScope CN):={}
def dA:DE->M Out:=(y3 2<|l9 R0<|vF 1<|vD (sC<|.int 2) A9)
def du:DE->M Out:=(y3 3<|l9 O7<|vF 1<|vD (s2 ixD (sC<|.list [.int 8,.int 24])<|sW 2)<|vD (sC<|.int 1) A9)
def dj:DE->M Out:=(y3 4<|s2 ixD (sC<|.list [.int 6,.int 2])<|sW 2)
def di:DE->M Out:=(y3 5<|s2 Q2 (sC<|.int 1)<|l9 R0<|vF 1<|vD (sV 4) A9)
def dm:DE->M Out:=(y3 6<|s2 Q2 (sC<|.int 1)<|l9 R0<|vF 1<|vD (sV 4) A9)
def df:DE->M Out:=(y3 7<|l9 L4<|vD (sV 3)<|vD (sV 5)<|vD (sV 6) A9)
def dC:DE->M Out:=(mRt<|we (s2 (eqD false) (l9 u0<|vD (sV 3)<|vD (sV 5)<|vD (sV 6) A9)<|sW 7)<|s2 (eqD false) (l9 u0<|vD (sV 3)<|vD (sV 6)<|vD (sV 5) A9)<|sW 7)
section
variable {f:LA}{cdv:Lz}{A:LG}{outer:List LQ}{s:LC}{H:Hp}{E:XK}(T:Txt K mg)(hr:Room 9 (A.deeper<|PyProof.Rows.envOfC "law" (defScope CN) s.heap.objs.size f cdv))(hu5:(A.deeper<|PyProof.Rows.envOfC "law" (defScope CN) s.heap.objs.size f cdv).units+65<Mc)(CK:l4 P w K mg base "_law_next" 1 ["_law_feed_here","_law_many"] (spD K 2 R0))(CO:l4 P w K mg base "_law_way" 2 ["_law_feed_here","_law_beats","_law_works"] (spD K 3 O7))(CP:l4 P w K mg base "_law_due" 1 ["_law_way_here","_law_one","_law_other"] (spD K 3 L4))(CL:l4 P w K mg base "_law_moments" 9 ["_law_way_here","_law_one","_law_other"] (spD K 3 u0))
include T hr hu5 CK CO CP CL
theorem qT:∃ts,Ss K (Q9 CX0 P w K mg base ["_law_script","_law_feed_here","_law_size","_law_way_here","_law_most","_law_one","_law_other","_law_due_here"] "law" (defScope CN) f cdv A outer s H E).nox (nth (defBody CN) 1) ts dA:=by
 unfold dA;exact⟨_,(m4 2 X1.nd<|r8 CK hr<|jU 1<|l6 l5 l8)⟩
theorem tD:∃ts,Ss K (Q9 CX0 P w K mg base ["_law_script","_law_feed_here","_law_size","_law_way_here","_law_most","_law_one","_law_other","_law_due_here"] "law" (defScope CN) f cdv A outer s H E).nox (nth (defBody CN) 2) ts du:=by
 unfold du;exact⟨_,(m4 3 X1.nd<|r8 CO hr<|jU 1<|l6 (E3 (F0 rfl) (Ev.bw<|eX (.list [.int 8,.int 24]) rfl)<|i6 2)<|l6 l5 l8)⟩
theorem tG:∃ts,Ss K (Q9 CX0 P w K mg base ["_law_script","_law_feed_here","_law_size","_law_way_here","_law_most","_law_one","_law_other","_law_due_here"] "law" (defScope CN) f cdv A outer s H E).nox (nth (defBody CN) 3) ts dj:=by
 unfold dj;exact⟨_,(m4 4 X1.nd<|E3 (F0 rfl) (Ev.bw<|eX (.list [.int 6,.int 2]) rfl)<|i6 2)⟩
theorem vc:∃ts,Ss K (Q9 CX0 P w K mg base ["_law_script","_law_feed_here","_law_size","_law_way_here","_law_most","_law_one","_law_other","_law_due_here"] "law" (defScope CN) f cdv A outer s H E).nox (nth (defBody CN) 4) ts di:=by
 unfold di;exact⟨_,(m4 5 X1.nd<|B7 (G4 rfl) (Ev.bw l5)<|Ev.bw<|r8 CK hr<|jU 1<|l6 (g9 4) l8)⟩
theorem qR:∃ts,Ss K (Q9 CX0 P w K mg base ["_law_script","_law_feed_here","_law_size","_law_way_here","_law_most","_law_one","_law_other","_law_due_here"] "law" (defScope CN) f cdv A outer s H E).nox (nth (defBody CN) 5) ts dm:=by
 unfold dm;exact⟨_,(m4 6 X1.nd<|B7 (G4 rfl) (Ev.bw l5)<|Ev.bw<|r8 CK hr<|jU 1<|l6 (g9 4) l8)⟩
theorem uj:∃ts,Ss K (Q9 CX0 P w K mg base ["_law_script","_law_feed_here","_law_size","_law_way_here","_law_most","_law_one","_law_other","_law_due_here"] "law" (defScope CN) f cdv A outer s H E).nox (nth (defBody CN) 6) ts df:=by
 unfold df;exact⟨_,(m4 7 X1.nd<|r8 CP hr<|l6 (g9 3)<|l6 (g9 5)<|l6 (g9 6) l8)⟩
theorem sT:∃ts,Ss K (Q9 CX0 P w K mg base ["_law_script","_law_feed_here","_law_size","_law_way_here","_law_most","_law_one","_law_other","_law_due_here"] "law" (defScope CN) f cdv A outer s H E).nox (nth (defBody CN) 7) ts dC:=by
 unfold dC;exact⟨_,(A7<|yr (gR (iX rfl hr.units) (Ev.bw<|r8 CL hr<|l6 (g9 3)<|l6 (g9 5)<|l6 (g9 6) l8)<|i6 7)<|An<|gR (iX rfl hr.units) (Ev.bw<|r8 CL hr<|l6 (g9 3)<|l6 (g9 6)<|l6 (g9 5) l8)<|i6 7)⟩
end
def jm:DE->M Out:=(mSq dA<|mSq du<|mSq dj<|mSq di<|mSq dm<|mSq df dC)
def zG {α:Type}(l:List α)(d:α)(h:0<l.length):l=l.getD 0 d::l.drop 1:=by
 cases l with
 | nil=>simp at h
 | cons a r=>rfl
def spLaw (K:Fg):Sp:=λvs H Q _=>∃(a:LA) (ns:List Int),vs=[.ref a]/\SqL K H a (ns.map V.int)/\ns.length<=63/\C6 (tabsK Feeds.lam K) H/\∀H',Q (.bl true) H'
def qO {f:LA}{cdv:Lz}{A:LG}{outer:List LQ}{s:LC}{H:Hp}{E:XK}(hr:Room 9 (A.deeper<|PyProof.Rows.envOfC "law" (defScope CN) s.heap.objs.size f cdv))(CF:l4 P w K mg base "_law_feed" 1 ["_law_script"] (iN K)) :
  PS (Q9 CX0 P w K mg base ["_law_script","_law_feed_here","_law_size","_law_way_here","_law_most","_law_one","_law_other","_law_due_here"] "law" (defScope CN) f cdv A outer s H E).nox ((defBody CN).getD 0<|.Pass ⟨0,0,0,0⟩) (X3 (gk (iN K) [] E0<|u8 (W0 0) N4)<|E9 1) :=
 Y0 (i:=1) X1.nd rfl (by first | exact Or.inl rfl | exact Or.inr rfl) (fY CF (hr.mono<|by decide) rfl<|k9 (pv 0) v6)
def FT {f:LA}{fd:LI}(Fn:Fun K "law" "law" CN f fd)(T:Txt K mg)(CF:l4 P w K mg base "_law_feed" 1 ["_law_script"] (iN K))(CK:l4 P w K mg base "_law_next" 1 ["_law_feed_here","_law_many"] (spD K 2 R0))(CO:l4 P w K mg base "_law_way" 2 ["_law_feed_here","_law_beats","_law_works"] (spD K 3 O7))(CP:l4 P w K mg base "_law_due" 1 ["_law_way_here","_law_one","_law_other"] (spD K 3 L4))(CL:l4 P w K mg base "_law_moments" 9 ["_law_way_here","_law_one","_law_other"] (spD K 3 u0))
  (fin:∀ns:List Int,ns.length<=63->∃F',jm ([none,some .feed]++List.replicate (["_law_script","_law_feed_here","_law_size","_law_way_here","_law_most","_law_one","_law_other","_law_due_here"].length-2) none) (lV ns)=some (.rt<|.bool true,F')):FnOk P w K mg base CX0 10 f fd ["_law_script"] (spLaw K):=by
 refine Fn.ok X1 (λvs H Q E h=>?_) (λcdv A outer s H vs Q E hr h=>?_)
 .obtain⟨a,ns,rfl,_⟩:=h;rfl
 .obtain⟨a,ns,rfl,hS,hl,tbo,k⟩:=h;have hu5:(A.deeper<|PyProof.Rows.envOfC "law" (defScope CN) s.heap.objs.size f cdv).units+65<Mc:=by have:=hr.un;omega
  obtain⟨t_law_1,h_law_1⟩:=qT (f:=f) (cdv:=cdv) (A:=A) (outer:=outer) (s:=s) (H:=H) (E:=E) T hr hu5 CK CO CP CL;obtain⟨t_law_2,h_law_2⟩:=tD (f:=f) (cdv:=cdv) (A:=A) (outer:=outer) (s:=s) (H:=H) (E:=E) T hr hu5 CK CO CP CL;obtain⟨t_law_3,h_law_3⟩:=tG (f:=f) (cdv:=cdv) (A:=A) (outer:=outer) (s:=s) (H:=H) (E:=E) T hr hu5 CK CO CP CL;obtain⟨t_law_4,h_law_4⟩:=vc (f:=f) (cdv:=cdv) (A:=A) (outer:=outer) (s:=s) (H:=H) (E:=E) T hr hu5 CK CO CP CL;obtain⟨t_law_5,h_law_5⟩:=qR (f:=f) (cdv:=cdv) (A:=A) (outer:=outer) (s:=s) (H:=H) (E:=E) T hr hu5 CK CO CP CL;obtain⟨t_law_6,h_law_6⟩:=uj (f:=f) (cdv:=cdv) (A:=A) (outer:=outer) (s:=s) (H:=H) (E:=E) T hr hu5 CK CO CP CL;obtain⟨t_law_7,h_law_7⟩:=sT (f:=f) (cdv:=cdv) (A:=A) (outer:=outer) (s:=s) (H:=H) (E:=E) T hr hu5 CK CO CP CL;obtain⟨ts,hq,hk⟩:∃ts,Sss K (Q9 CX0 P w K mg base ["_law_script","_law_feed_here","_law_size","_law_way_here","_law_most","_law_one","_law_other","_law_due_here"] "law" (defScope CN) f cdv A outer s H E).nox ((defBody CN).drop 1) ts jm:=⟨_,(c6 h_law_1<|c6 h_law_2<|c6 h_law_3<|c6 h_law_4<|c6 h_law_5<|c6 h_law_6<|k8 h_law_7)⟩;have h0:=qO (P:=P) (w:=w) (K:=K) (mg:=mg) (base:=base) (f:=f) (cdv:=cdv) (A:=A) (outer:=outer) (s:=s) (H:=H) (E:=E) hr CF;have hsp:=zG (defBody CN) (.Pass ⟨0,0,0,0⟩) (by decide +kernel);generalize List.drop 1 (defBody CN)=R at hq hsp;generalize (defBody CN).getD 0 (LJ.Pass { line:=0,col:=0,endLine:=0,endCol:=0 })=S0 at h0 hsp;have hp:=y8 h0 hq;rw[<-hsp]at hp;refine⟨_,hp,?_⟩;refine⟨_,rfl,a,ns,rfl,hS,hl,λd c H1 f1 s1=>?_⟩;obtain⟨F',e⟩:=fin ns hl;have fat:FAt K (some (d,c)) H1 (lV ns):=⟨f1,tbo.congr λb hb=>by
   obtain⟨o,e⟩:∃o,H b=some o:=by
    rcases hb with hb | ⟨φ,e⟩
    .obtain⟨t,ht,rfl⟩:=GW.1 hb;obtain⟨ps,e,_⟩:=tbo t ht;exact⟨_,e⟩
    .exact⟨_,e⟩
   rw[e];exact s1 b o e⟩
  refine hk (some (d,c)) (j8 K<|some (d,c)) H1 _ (lV ns) _ H1 _ _ F' ⟨⟨j8 K<|some (d,c),λ_ z=>z,λb hb=>.inl hb,⟨fat,λ_ z=>z,fat.bok,by simp[L2.P1],λi x ei=>?_⟩⟩,λ_ z=>z,Kp.refl,λi ds b ei=>?_,λi j ds es b ei=>?_,λi c ps b ei=>?_⟩ e (λv H' _ _ hv=>?_)
  .match i,ei with
   | 0,ei=>cases ei
   | 1,ei=>cases ei;exact⟨.ref d,rfl,d,c,rfl,rfl⟩
   | i+2,ei=>simp only[Hh,Ho,IZ,HW]at ei;split at ei <;> cases ei
  .match i,ei with
   | 0,ei=>cases ei
   | 1,ei=>cases ei
   | i+2,ei=>simp only[Hh,Ho,IZ,HW]at ei;split at ei <;> cases ei
  .match i,ei with
   | 0,ei=>cases ei
   | 1,ei=>cases ei
   | i+2,ei=>simp only[Hh,Ho,IZ,HW]at ei;split at ei <;> cases ei
  .match i,ei with
   | 0,ei=>cases ei
   | 1,ei=>cases ei
   | i+2,ei=>simp only[Hh,Ho,IZ,HW]at ei;split at ei <;> cases ei
  .simp only[b7]at hv;subst hv;exact k H'
end
end
end K32
namespace L3
open L2
def Dn (t:Nat->Nat)(w:Nat->Int):Nat->Int
 | 0=>t 0+w 0
 | n+1=>max (t (n+1):Int) (Dn t w n)+w (n+1)
section
variable {t:Nat->Nat}{w:Nat->Int}{cnt:Nat->Nat}{N:Nat}
def nK (n:Nat):t n+w n<=Dn t w n:=by
 cases n with
 | zero=>exact Ja _
 | succ n=>unfold Dn;omega
theorem qM (hw:∀n,n<N->1<=w n):∀{i j:Nat},i<j->j<N->Dn t w i+w j<=Dn t w j
 | i,0,h,_=>absurd h<|JY _
 | i,j+1,h,hj=>by
  have h1:Dn t w j+w (j+1)<=Dn t w (j+1):=by show _<=max _ _+w (j+1);omega
  by_cases hij:i=j
  .rw[hij];exact h1
  .have h2:=qM hw (i:=i) (j:=j) (by omega) (by omega);have:=hw j (by omega);omega
def Bn (hw:∀n,n<N->1<=w n){n:Nat}(hn:n<N)(m:Int):Dn t w n-w n<=m↔(t n:Int)<=m/\∀x,x<n->Dn t w x<=m:=by
 constructor
 .intro h;have:=nK (t:=t) (w:=w) n;refine⟨by omega,λx hx=>?_⟩;have:=qM (t:=t) hw hx hn;omega
 .rintro ⟨h1,h2⟩;cases n with
  | zero=>show(t 0:Int)+w 0-w 0<=m;omega
  | succ n =>
   have:=h2 n (by omega);show max (t (n+1):Int) (Dn t w n)+w (n+1)-w (n+1)<=m;omega
theorem fg (hw:∀n,n<N->1<=w n)(hc:∀m n,n<cnt m↔n<N/\t n<m):∀m n,n<N->fL 1 cnt w m n=max 0 (min (w n)<|Dn t w n-m)
 | 0,n,hn=>by
  have:=nK (t:=t) (w:=w) n;have:=hw n hn;show w n=_;omega
 | m+1,n,hn=>by
  have ih:=fg hw hc m n hn;have h1:=hw n hn;have hs:=Bn (t:=t) hw hn m;show nxt 1 (cnt<|m+1) (fL 1 cnt w m) n=_;unfold nxt;by_cases hp:pkd 1 (cnt<|m+1) (fL 1 cnt w m) n=true
  .rw[Gp hp];obtain⟨a1,a2,a3⟩:=Z0 hp;have b1:=((hc (m+1) n).1 a1).2;have b2:Dn t w n-w n<=m:=hs.2 ⟨by omega,λx hx=>by
    have hxN:x<N:=by omega
    have hxc:x<cnt (m+1):=by omega
    have e0:(List.range n).filter (prs (cnt<|m+1)<|fL 1 cnt w m)=[]:=Il.1 (by omega);have e1:=JD.1 e0 x<|GJ.2 hx;unfold prs at e1;simp only[IP,II,not_and]at e1;have e2:=e1 hxc;rw[fg hw hc m x hxN]at e2;have:=hw x hxN;omega⟩
   rw[ih]at a2 ⊢;omega
  .rw[Gr hp,ih];by_cases hD:Dn t w n<=m
   .omega
   .by_cases hS:Dn t w n-w n<=m
    .exfalso;obtain⟨c1,c2⟩:=hs.1 hS;refine hp (sQ ((hc (m+1) n).2 ⟨hn,by omega⟩) (by rw[ih];omega) ?_);have e0:(List.range n).filter (prs (cnt<|m+1)<|fL 1 cnt w m)=[]:=JD.2 λx hx=>by
      have hx:=GJ.1 hx;have:=c2 x hx;unfold prs;simp only[IP,II,not_and];intro _;rw[fg hw hc m x<|by omega];omega
     rw[e0];exact Nat.one_pos
    .omega
def zR (hw:∀n,n<N->1<=w n)(h0:∀n,0<=w n)(hc:∀m n,n<cnt m↔n<N/\t n<m){M n:Nat}(hn:n<N)(e:fL 1 cnt w M n=0):((fM 1 cnt w M n:Nat):Int)=Dn t w n:=by
 have h1:=hw n hn;have hg:=nK (t:=t) (w:=w) n;rcases jB (h:=1) (cnt:=cnt) h0 n h1 M with ⟨a,_⟩ | ⟨_,a2,a3⟩
 .omega
 .rw[fg hw hc _ n hn]at a2;by_cases hlt:Dn t w n<(fM 1 cnt w M n:Nat)
  .have:=a3 (Dn t w n).toNat (by omega);rw[fg hw hc _ n hn]at this;omega
  .omega
end
def Mx (t:Nat->Int)(c:Int):Nat->Int
 | 0=>t 0
 | n+1=>max (t<|n+1)<|Mx t c n+c
def D1 (t:Nat->Int)(a:Int):Nat->Int
 | 0=>t 0+a
 | n+1=>max (t<|n+1) (D1 t a n)+a
def D2 (t:Nat->Int)(a b:Int):Nat->Int
 | 0=>t 0+a+b
 | n+1=>max (D1 t a<|n+1) (D2 t a b n)+b
theorem tO (t:Nat->Int)(a b:Int):∀n,D2 t a b n=Mx t (max a b) n+a+b/\D1 t a n<=Mx t (max a b) n+a/\(b<=a->D1 t a n=Mx t (max a b) n+a)
 | 0=>by simp[D2,D1,Mx]
 | n+1=>by
  obtain⟨i1,i2,i3⟩:=tO t a b n;simp only[D2,D1,Mx];by_cases h:b<=a
  .have:=i3 h;refine⟨by omega,by omega,λ_=>by omega⟩
  .refine⟨by omega,by omega,λz=>absurd z h⟩
def vh (t:Nat->Int)(a b:Int)(n:Nat):D2 t a b n=D2 t b a n:=by
 rw[(tO t a b n).1,(tO t b a n).1,Int.max_comm];omega
end L3
namespace K32
open PySem L2 L3
section
def kN:G8=Z8:=rfl
def kY:J4=Z3:=rfl
def jk (k:Nat):f7 (List.replicate k ([]:Bt))=0:=by
 unfold f7;rw[Le];induction k with
 | zero=>rfl
 | succ k ih=>rw[Ht,IH,ih];rfl
def cM (a b:List Bt):f7 (a++b)=f7 a+f7 b:=by unfold f7;rw[GS,KO]
def fx (way:List Bt)(v:Nat):d0 (way++List.replicate v [])=d0 way:=by
 funext m;unfold d0;rw[List.take_append,cM,List.take_replicate,jk];rfl
def zU (way:List Bt)(v:Nat):(way++List.replicate v []).flatten=way.flatten:=by
 rw[KU];have:(List.replicate v ([]:Bt)).flatten=[]:=by
  induction v with
  | zero=>rfl
  | succ v ih=>rw[Ht,HN,ih];rfl
 rw[this,HE]
def xS (way:List Bt)(v:Nat):wkW (way++List.replicate v [])=wkW way:=by funext n;unfold wkW;rw[zU]
def Bo {way:List Bt}(h:W1s way)(v:Nat):W1s (way++List.replicate v []):=λb hb=>by
 rcases GP.1 hb with hb | hb
 .exact h b hb
 .rw[(List.mem_replicate.1 hb).2];intro c hc;cases hc
theorem yl {way:List Bt}:∀(j:Nat),j<=way.length->∀k,k<d0 way j->∃m,m<j/\d0 way m<=k/\k<d0 way (m+1)
 | 0,_,k,hk=>by unfold d0 at hk;simp[f7]at hk
 | j+1,hj,k,hk=>by
  by_cases hz:k<d0 way j
  .obtain⟨m,h1,h2,h3⟩:=yl j (by omega) k hz;exact⟨m,by omega,h2,h3⟩
  .exact⟨j,by omega,by omega,hk⟩
def tS {way:List Bt}{k:Nat}(hk:k<f7 way):d0 way (arW way k)<=k/\k<d0 way (arW way k+1)/\arW way k<way.length:=by
 obtain⟨m,h1,h2,h3⟩:=yl way.length (Gs _) k (by rw[T5<|Gs _];exact hk);rw[ee h1 h2 h3];exact⟨h2,h3,h1⟩
def Cj {way:List Bt}{v k:Nat}(hk:k<f7 way):arW (way++List.replicate v []) k=arW way k:=by
 obtain⟨h1,h2,h3⟩:=tS hk;refine ee (by rw[Hm];omega) ?_ ?_
 .rw[fx];exact h1
 .rw[fx];exact h2
def Gn (h:Nat)(way:List Bt)(M:Nat):Prop:=∀k,k<f7 way->fL h (d0 way) (wkW way) M k=0
abbrev moW (way:List Bt)(h M:Nat)(k:Nat):Nat:=fM h (d0 way) (wkW way) M k
abbrev wtW (way:List Bt)(h M:Nat)(k:Nat):Nat:=fW h (d0 way) (wkW way) M k
def BZ {h:Nat}{way:List Bt}(hw:W1s way){v:Nat}(e:psW h way (way.length+v)=[]):Gn h way (way.length+v):=λk hk=>by
 have h0:=uh (h:=h) (cnt:=d0 way) (rj hw) (way.length+v) k;have e2:cX h way (way.length+v)=[]:=List.map_eq_nil_iff.1 e;by_cases hz:0<fL h (d0 way) (wkW way) (way.length+v) k
 .have:k∈cX h way (way.length+v):=GU.2 ⟨GJ.2 (by rw[T5<|by omega];exact hk),GX hz⟩;rw[e2]at this;cases this
 .omega
def rz {h:Nat}{way:List Bt}{v:Nat}(g:Gn h way (way.length+v)):(List.range<|d0 (way++List.replicate v []) (way++List.replicate v []).length).map (coW h (way++List.replicate v []) (way++List.replicate v []).length)=goL (f7 way) (arW way) (moW way h<|way.length+v) (wtW way h<|way.length+v):=by
 have el:(way++List.replicate v []).length=way.length+v:=by simp
 rw[el,fx,T5<|by omega];unfold goL;refine GO λk hk=>?_
 have hk:=GJ.1 hk;have hz:=g k hk;unfold coW;rw[fx,xS,Cj hk];rw[Gr (by
  show ¬0<fL h (d0<|way++List.replicate v []) (wkW<|way++List.replicate v []) (way.length+v) k;rw[fx,xS,hz];decide)]
def CJ {ps:List Pn}(h:∀p∈ps,p.2.1<=6):X9 ps<=6*ps.length:=by
 induction ps with
 | nil=>exact Ja _
 | cons p ps ih =>
  have a:=h p Gx;have i:=ih λx hx=>h x<|Gq _ hx
  unfold X9 at i ⊢;simp only[GH,IH,GM];omega
structure WO (T w:Nat) (way:List Bt):Prop where
 len:way.length<=T
 many:f7 way<=40
 one:1<=w
 six:w<=6
 all:∀b∈way,∀c∈b,c.2=(w:Int)
def WO.w1 {T w:Nat}{way:List Bt}(h:WO T w way):W1s way:=λb hb c hc=>by have:=h.all b hb c hc;have:=h.one;omega
def WO.wk {T w:Nat}{way:List Bt}(h:WO T w way){n:Nat}(hn:n<f7 way):wkW way n=w:=by
 unfold wkW;rw[<-G0]at hn;rw[Gz,Gm hn];obtain⟨b,hb,hc⟩:=List.mem_flatten.1<|Ir hn;exact h.all b hb _ hc
def WO.wk6 {T w:Nat}{way:List Bt}(h:WO T w way)(n:Nat):wkW way n<=6:=by
 by_cases hn:n<f7 way
 .rw[h.wk hn];have:=h.six;omega
 .unfold wkW;rw[<-G0]at hn;rw[Gz,HS<|Lm.1 hn];show(0:Int)<=6;decide
def Aa {T w:Nat}{way:List Bt}(hw:WO T w way):X9 (psW 1 way way.length)<=500:=by
 have h1:=CJ (ps:=psW 1 way way.length) λp hp=>by
  obtain⟨n,hn,rfl⟩:=GW.1 hp;have:=(nr (h:=1) (cnt:=d0 way) (w:=wkW way) way.length).le n;have:=hw.wk6 n;show fL 1 (d0 way) (wkW way) way.length n<=6;omega
 have h9:=Hj (λn=>decide (0<LW 1 way way.length n))<|List.range<|d0 way way.length;rw[GB]at h9;have:=U6 way way.length;have:=hw.many;have h2:(psW 1 way way.length).length<=40:=by
  rw[Gi];show(j3 _ _).length<=40;unfold j3;omega
 omega
abbrev DW (way:List Bt):Nat->Int:=Dn (arW way)<|wkW way
def yw {way:List Bt}(m n:Nat):n<d0 way m↔n<f7 way/\arW way n<m:=by
 constructor
 .intro h;have h1:=U6 way m;have hn:n<f7 way:=by omega
  obtain⟨a,_,_⟩:=tS hn;refine⟨hn,Nat.lt_of_not_le λhle=>?_⟩;have:=dk (S7 way) hle;omega
 .rintro ⟨hn,hm⟩;obtain⟨_,b,_⟩:=tS hn;have:=dk (S7 way) (show arW way n+1<=m from hm);omega
def BJ {T w:Nat}{way:List Bt}(hw:WO T w way){n:Nat}(hn:n<f7 way):0<=DW way n:=by
 have:=nK (t:=arW way) (w:=wkW way) n;have:=T9 hw.w1 hn;show 0<=Dn _ _ n;omega
def BG {T w:Nat}{way:List Bt}(hw:WO T w way){M n:Nat}(hn:n<f7 way)(g:Gn 1 way M):moW way 1 M n=(DW way n).toNat:=by
 have:=zR (N:=f7 way) (t:=arW way) (w:=wkW way) (cnt:=d0 way) (λn hn=>T9 hw.w1 hn) (rj hw.w1) (λm n=>yw m n) hn<|g n hn;show fM 1 (d0 way) (wkW way) M n=_;unfold DW;omega
section
variable {F:FdS}{Q:Ac->FdS->Prop}
def lh {T w i j:Nat}{way:List Bt}(hT:T<=400)(hw:WO T w way){E:DE}(ei:E[i]? = some (some<|.dat<|fiD 1))(ej:E[j]? = some (some<|.dat<|.tuple<|way.map btD))
  (q:∀f,Q (.list<|goL (f7 way) (arW way) (λk=>(DW way k).toNat) f) F):wp (l9 G8 (vD (sV i)<|vD (l9 J4<|vD (sV i)<|vD (sV j) A9) A9) E F) Q:=by
 have h1:=hw.len;have h2:=hw.many;rw[kN,kY];refine w9l<|v4.2<|u9 ei<|L1.2<|w9l<|v4.2<|u9 ei<|L1.2<|v4.2<|u9 ej<|x8.2 ?_;refine pZ (h:=1) (Gs _) hw.w1 (by omega) (by omega) (Aa hw) λv hv hnil=>x8.2 ?_
 have g:=BZ hw.w1 hnil;refine oP (Bo hw.w1 v) (by rw[cM,jk];omega) (by simp;omega) ?_;rw[rz g];have e:goL (f7 way) (arW way) (moW way 1<|way.length+v) (wtW way 1<|way.length+v)=goL (f7 way) (arW way) (λk=>(DW way k).toNat) (wtW way 1<|way.length+v):=by
  unfold goL;refine GO λk hk=>?_
  rw[BG hw (GJ.1 hk) g]
 rw[e];exact q _
end
abbrev En:=(Int×Int)×Int
abbrev enD (e:En):Ac:=.tuple [cmD e.1,.int e.2]
abbrev qk (r:List En):Ac:=.list<|r.map enD
section
variable {F:FdS}
def AW {α:Type}{x y:α->Ac}{o0:Option DV}:∀(ds:List α) (o1 o2:Option DV) (F:FdS) (Q:List Ac×DE->FdS->Prop),(∀o1 o2,Q (ds.map y,[o0,o1,o2]) F) ->
  wp (eF (E8 2<|i5 (bN 1)<|i5 (bN 2) G3) M5 (sV 2) (ds.map λd=>.tuple [x d,y d]) [o0,o1,o2] F) Q
 | [],o1,o2,F,Q,q=>b9.2<|q o1 o2
 | d::ds,o1,o2,F,Q,q=>by
  rw[GH,eF];have e:E8 2 (i5 (bN 1)<|i5 (bN 2) G3) (.tuple [x d,y d]) [o0,o1,o2]=some [o0,some<|.dat<|x d,some<|.dat<|y d]:=rfl;rw[e,GV,b8];refine ak.2 ?_;rw[Gp rfl,b8];refine w9g rfl ?_;rw[b8];refine AW ds _ _ F _ λo1 o2=>b9.2<|q o1 o2
def yk:∀(rows:List (List En)) (o0 o1 o2:Option DV) (F:FdS) (Q:List Ac->FdS->Prop),Q (rows.flatten.map λe=>.int e.2) F ->
  wp (X2 (bN 0) M5 (N6<|sV 0) (E8 2<|i5 (bN 1)<|i5 (bN 2) G3) M5 (sV 2) (rows.map qk) [o0,o1,o2] F) Q
 | [],o0,o1,o2,F,Q,q=>b9.2 q
 | r::rows,o0,o1,o2,F,Q,q=>by
  rw[GH,X2];have e:bN 0 (qk r) [o0,o1,o2]=some [some<|.dat<|qk r,o1,o2]:=rfl;rw[e,GV,b8];refine ak.2 ?_;rw[Gp rfl,b8];refine A5.2<|w9g rfl<|c9 L0 ?_;rw[b8];refine AW (x:=λe:En=>cmD e.1) (y:=λe:En=>.int e.2) r o1 o2 F _ λo1 o2=>?_
  rw[b8];refine yk rows _ _ _ F _<|b9.2 ?_;rw[HN,GS]at q;exact q
variable {Q:Ac->FdS->Prop}
def pI {rows:List (List En)}(hl:rows.length<=1000)(hr:∀r∈rows,r.length<=1000)(ht:rows.flatten.length<=1000)(q:Q (.tuple [.tuple (rows.map λr=>btD (r.map (·.1))),.tuple<|rows.flatten.map λe=>.int e.2]) F) :
  wp (L9 [.dat<|.list<|rows.map qk] F) Q:=by
 unfold L9;refine R9.2 ?_;dsimp only[v5,GH,HY,GM,HR,List.replicate,Hh,Ho,Nat.reduceAdd,Nat.reduceSub];refine w9q (J9.2<|c8.2<|V7.2<|A5.2<|w9w rfl<|c9 L0 ⟨sz (by simp;omega),?_⟩);refine yu (x:=qk) (f:=λr=>btD (r.map (·.1))) _ _ (λr hr' F Q q=>?_)<|d8.2<|c9 av ⟨i8 rfl,h7 ?_⟩
 .have:=hr r hr';refine J9.2 (c8.2<|V7.2<|A5.2<|w9w rfl<|c9 L0 ⟨sz (by rw[Gi];omega),?_⟩);refine jt (x:=λe:En=>cmD e.1) (y:=λe:En=>.int e.2) (f:=λe=>cmD e.1) _ _ _ (λe _ F Q q=>w9g rfl q)<|d8.2<|c9 av ?_;have e:r.map (λe:En=>cmD e.1)=(r.map (·.1)).map cmD:=by rw[GL];rfl
  rw[e];exact q
 refine P2.2<|C2.2<|w9c rfl<|c8.2<|J9.2<|c8.2 ?_;unfold lF;rw[b8];refine A5.2<|w9w rfl<|c9 L0 ?_;dsimp only;rw[b8];refine yk rows _ _ _ _ _ ?_;have hnl:(rows.flatten.map λe:En=>Ac.int e.2).length<=LM:=sz (by rw[Gi];omega);dsimp only;rw[Gp hnl];exact b9.2<|d8.2<|c9 av<|d8.2 ⟨p8 rfl,O4 q⟩
end
section
variable [Feeds]{F:FS}
def nJ {bd:Ac->DE->Option DE}{body:DE->M Out}{Q:Out->FS->Prop}(I:Nat->DE->FS->Prop):∀(items:List Ac) (n:Nat) (E:DE) (F:FS),I n E F ->
  (∀i d,items[i]? = some d->∀E F,I (n+i) E F->∃E1,bd d E=some E1/\wp (body E1 F) λo F'=>∃E2,o = .nx E2/\I (n+i+1) E2 F')->(∀E F,I (n+items.length) E F->Q (.nx E) F)->wp (K9 bd body items E F) Q
 | [],n,E,F,h,_,hq=>b9.2<|hq E F h
 | d::r,n,E,F,h,st,hq=>by
  obtain⟨E1,e1,h1⟩:=st 0 d rfl E F h;rw[K9,e1,GV,b8];refine j7 h1 λo F1 ⟨E2,e2,h2⟩=>?_
  subst e2;refine nJ I r (n+1) E2 F1 h2 (λi d e E F hI=>?_) (λE F hI=>hq E F (by rw[GM];rw[show n+(r.length+1)=n+1+r.length by omega];exact hI));have:=st (i+1) d (by simpa using e) E F (by rw[show n+(i+1)=n+1+i by omega];exact hI);rw[show n+(i+1)+1=n+1+i+1 by omega]at this;exact this
def vq {a:DE->M Ac}{E:DE}{Q:List Ac->FS->Prop}(h:wp (a E F) λx F1=>oB (dX x) λds=>Q (C5 0 ds) F1):wp (X6 a E F) Q:=by
 unfold X6;rw[b8];refine j7 h λx F1 ⟨ds,e,q⟩=>?_
 simp only[q5];exact⟨ds,e,b9.2 q⟩
end
def vt [Regs]{i0:Nat}{pub:Regs.S->Ac}{mk:DE->@M fdI Regs.S}{m:DE->@M K7 Out}{E:DE}{F:FdS}{Q:Out->FdS->Prop}(no:J5 E=true)(hi:i0<E.length)
  (h:wp (mk E F) λμ0 F1=>∃E2 μ',J5 E2=true/\(∀fd d:LA,m ((r9 fd E).set i0<|some<|.adr d) μ0=some (.nx<|(r9 fd E2).set i0<|some<|.adr d,μ'))/\X7 i0 E ((r9 0 E2).set i0<|some<|.adr 0)=E2/\Q (.nx<|E2.set i0<|some<|.dat<|pub μ') F1):wp (dM i0 pub mk m E F) Q:=by
 obtain⟨μ0,F1,e,E2,μ',h1,h2,h3,q⟩:=h;refine⟨_,F1,?_,q⟩;unfold dM;rw[Gp ⟨no,hi⟩,e,GV,xv ⟨h1,h2⟩ h3];rfl
def y6 (T:Nat)(mo:Nat->Nat)(en:Nat->En)(i:Nat):List (List En):=(List.range T).map λm=>((List.range i).filter λk=>decide (mo k=m)).map en
def kZ (T:Nat)(mo:Nat->Nat)(en:Nat->En):y6 T mo en 0=List.replicate T []:=by
 unfold y6;refine JI.2 ⟨by simp,λd hd=>?_⟩;obtain⟨m,_,rfl⟩:=GW.1 hd;rfl
def D5 (T:Nat)(mo:Nat->Nat)(en:Nat->En)(i:Nat):(y6 T mo en i).length=T:=by unfold y6;simp
def ka {T:Nat}{mo:Nat->Nat}{en:Nat->En}{i m:Nat}(h:m<T):(y6 T mo en i).getD m []=((List.range i).filter λk=>decide (mo k=m)).map en:=by
 unfold y6;rw[Gz,GC,Iu h];rfl
def kz {T:Nat}{mo:Nat->Nat}{en:Nat->En}{i:Nat}(h:mo i<T):y6 T mo en (i+1)=(y6 T mo en i).set (mo i) ((y6 T mo en i).getD (mo i) []++[en i]):=by
 rw[ka h];refine Lr (by rw[Hn,D5,D5]) λm h1 h2=>?_
 rw[D5]at h1;rw[List.getElem_set];have key:(y6 T mo en<|i+1)[m]'(by rw[D5];exact h1)=((List.range i).filter λk=>decide (mo k=m)).map en++(if mo i=m then[en i] else[]):=by
  unfold y6;rw[JL,IT,Ih,HZ,GS];congr 1;by_cases e:mo i=m
  .rw[Gp e,Hv<|by simpa using e];rfl
  .rw[Gr e,Hw<|by simpa using e];rfl
 rw[key];by_cases e:mo i=m
 .rw[Gp e,Gp e,e]
 .rw[Gr e,Gr e,HE];unfold y6;rw[JL,IT]
abbrev enW (cs:List (Int×Int))(b:Int)(k:Nat):En:=(((cs.getD k (0,0)).1,b),(k:Int))
def eG (hD wD lD:Ac)(cs:List (Int×Int))(N:Nat)(b:Int)(a mo w:Nat->Nat)(x:Option DV)(i:Nat):DE :=
 [some<|.dat hD,some<|.dat wD,some<|.dat<|.tuple<|List.replicate N<|.int b,some<|.dat<|.list<|cs.map cmD,some<|.dat<|.list<|goL N a mo w,some<|.dat lD,x,
  match i with | 0=>none | j+1=>some<|.dat<|.int (j:Nat),match i with | 0=>none | j+1=>some<|.dat<|goD (a j) (mo j)<|w j]
def BN {cs:List (Int×Int)}{k:Nat}(h:k<cs.length):ixD (.list<|cs.map cmD) (.int (k:Nat))=some (cmD<|cs.getD k (0,0)):=by
 have e:=S9 ((0:Int),(0:Int)) cmD cs;rw[<-e];exact gE (f:=λk=>cmD<|cs.getD k (0,0)) h
def zI {N k:Nat}{d:Ac}(h:k<N):ixD (.tuple<|List.replicate N d) (.int (k:Nat))=some d:=by
 have e:List.replicate N d=(List.range N).map λ_=>d:=by
  refine(JI.2 ⟨by simp,λx hx=>?_⟩).symm;obtain⟨_,_,rfl⟩:=GW.1 hx;rfl
 rw[e];exact gE (f:=λ_=>d) h
section
local instance regV:Feeds:=K7
def vQ {hD wD lD:Ac}{cs:List (Int×Int)}{N T:Nat}{b:Int}{a mo w:Nat->Nat}{d:LA}(hc:cs.length=N)(hN:N<=40)(hm:∀k,k<N->mo k<T)(hT:T<=1000) :
  wp (J7 (eG hD wD lD cs N b a mo w (some<|.adr d) 0)<|List.replicate T []) λo μ=>o = .nx (eG hD wD lD cs N b a mo w (some<|.adr d) N) /\ μ=(y6 T mo (enW cs b) N).map λr=>r.map enD:=by
 unfold J7 pSq;rw[b8];unfold oo;rw[b8];refine vq<|w9g rfl<|c9 L0 ?_;unfold goL;rw[nM];refine nJ (λi E μ=>E=eG hD wD lD cs N b a mo w (some<|.adr d) i/\i<=N /\ μ=(y6 T mo (enW cs b) i).map λr=>r.map enD) _ 0 _ _ ⟨rfl,HA _,?_⟩ ?_ ?_
 .rw[kZ,Le];rfl
 .rintro i x e E μ ⟨rfl,hi,rfl⟩;rw[Hq]at hi ⊢;have hlt:i<N:=by have:=(GE.1 e).1;simpa using this
  obtain rfl:x = .tuple [.int (i:Nat),goD (a i) (mo i)<|w i]:=by
   rw[GC,Iu hlt]at e;cases e;rfl
  refine⟨eG hD wD lD cs N b a mo w (some<|.adr d)<|i+1,rfl,aK.2 ?_⟩;unfold mE;rw[b8];refine aa.2<|q4.2<|w9s rfl<|n6.2<|c9 rfl<|n6.2<|c9 nT<|c9 rfl<|b9.2<|N2 rfl ?_;unfold vS;rw[b8];refine w9s rfl<|n6.2<|c9 (z:=.int (mo i:Nat)) rfl ?_;rw[b8];refine C2.2 (c8.2<|C2.2<|c8.2<|q4.2<|w9s rfl<|w9w rfl<|c9 (BN<|by omega)<|n6.2<|c9 rfl<|c8.2<|w9s rfl<|w9w rfl<|c9 (zI hlt)<|d8.2 ⟨p8 rfl,w9c rfl<|d8.2 ⟨p8 rfl,?_⟩⟩);have hmi:=hm i hlt;have hl:((y6 T mo (enW cs b) i).map λr=>r.map enD).length=T:=by rw[Gi,D5]
  have eg:((y6 T mo (enW cs b) i).map λr=>r.map enD).getD (mo i) []=((y6 T mo (enW cs b) i).getD (mo i) []).map enD:=by
   rw[Gz,GC,Gz,Gm (by rw[D5];exact hmi)];rfl
  have hrl:((y6 T mo (enW cs b) i).getD (mo i) []).length<=40:=by
   rw[ka hmi,Gi];have:=Hj (λk=>decide (mo k=mo i))<|List.range i;rw[GB]at this;omega
  have e1:ixN (List.length (α:=List Ac)<|(y6 T mo (enW cs b) i).map λr=>r.map enD) ((mo i:Nat):Int)=some (mo i):=by
   unfold ixN;rw[hl,Gp (by omega),Gp (by omega),HG]
  dsimp only;rw[e1,GV,Gp (by rw[eg,Gi];exact Je hrl (by rw[Hl];decide))];refine b9.2 ⟨_,rfl,rfl,hlt,?_⟩;rw[eg,kz hmi,List.map_set,GS];rfl
 .rintro E μ ⟨rfl,_,rfl⟩;rw[Gi,GB,Hq];exact gb.2 ⟨rfl,rfl⟩
end
def tM {hD wD lD:Ac}{cs:List (Int×Int)}{N:Nat}{b:Int}{a mo w:Nat->Nat}{i:Nat}{fd d:LA}{x:Option DV}:(r9 fd<|eG hD wD lD cs N b a mo w none i).set 6 x=eG hD wD lD cs N b a mo w x i:=by cases i <;> rfl
def yU {hD wD lD:Ac}{cs:List (Int×Int)}{N T:Nat}{b:Int}{a mo w:Nat->Nat}(hc:cs.length=N)(hN:N<=40)(hm:∀k,k<N->mo k<T)(hT:T<=1000)(fd d:LA) :
  J7 ((r9 fd<|eG hD wD lD cs N b a mo w none 0).set 6<|some<|.adr d) (List.replicate T [])=some (.nx<|(r9 fd<|eG hD wD lD cs N b a mo w none N).set 6<|some<|.adr d,(y6 T mo (enW cs b) N).map λr=>r.map enD):=by
 obtain⟨o,μ,e,rfl,rfl⟩:=vQ (hD:=hD) (wD:=wD) (lD:=lD) (b:=b) (a:=a) (w:=w) (d:=d) hc hN hm hT;rw[tM (d:=d),tM (d:=d)];exact e
def yD {hD wD lD:Ac}{cs:List (Int×Int)}{N:Nat}{b:Int}{a mo w:Nat->Nat}:X7 6 (eG hD wD lD cs N b a mo w none 0) ((r9 0<|eG hD wD lD cs N b a mo w none N).set 6<|some<|.adr 0)=eG hD wD lD cs N b a mo w none N:=by cases N <;> rfl
def mX {hD wD lD:Ac}{cs:List (Int×Int)}{N:Nat}{b:Int}{a mo w:Nat->Nat}(i:Nat):J5 (eG hD wD lD cs N b a mo w none i)=true:=by cases i <;> rfl
section
variable {mo:Nat->Nat}
theorem oj {T:Nat}:∀{N:Nat},(∀i j,i<j->j<N->mo i<mo j)->((List.range N).filter λk=>decide (mo k<T))++((List.range N).filter λk=>decide (mo k=T))=(List.range N).filter λk=>decide (mo k<T+1)
 | 0,_=>rfl
 | N+1,h=>by
  have ih:=oj (T:=T) (N:=N) λi j hij hj=>h i j hij (by omega)
  rw[Ih,HZ,HZ,HZ,<-ih];rcases JF (mo N) T with c | c | c
  .have e0:((List.range N).filter λk=>decide (mo k=T))=[]:=JD.2 λk hk=>by
    have:=h k N (GJ.1 hk) (by omega);simp;omega
   rw[e0,Hv (p:=λk=>decide (mo k<T)) (by simpa using c),Hw (p:=λk=>decide (mo k=T)) (by simp;omega),Hv (p:=λk=>decide (mo k<T+1)) (by simp;omega)];simp
  .rw[Hw (p:=λk=>decide (mo k<T)) (by simp;omega),Hv (p:=λk=>decide (mo k=T)) (by simpa using c),Hv (p:=λk=>decide (mo k<T+1)) (by simp;omega)];simp
  .rw[Hw (p:=λk=>decide (mo k<T)) (by simp;omega),Hw (p:=λk=>decide (mo k=T)) (by simp;omega),Hw (p:=λk=>decide (mo k<T+1)) (by simp;omega)];simp
theorem cg {N:Nat}{en:Nat->En}(h:∀i j,i<j->j<N->mo i<mo j):∀T,(y6 T mo en N).flatten=((List.range N).filter λk=>decide (mo k<T)).map en
 | 0=>by
  have:((List.range N).filter λk=>decide (mo k<0))=[]:=JD.2 λk _=>by simp
  rw[this];rfl
 | T+1=>by
  have ih:=cg (en:=en) h T;unfold y6 at ih ⊢;rw[Ih,GS,KU,ih,<-oj h,GS];simp
abbrev onW (T:Nat)(mo:Nat->Nat)(cs:List (Int×Int))(b:Int)(N:Nat):List Bt:=(y6 T mo (enW cs b) N).map λr=>r.map (·.1)
def wH {T m N:Nat}{cs:List (Int×Int)}{b:Int}(h:m<=T):(onW T mo cs b N).take m=onW m mo cs b N:=by
 unfold onW y6;rw[<-Ky,<-Ky,Ly,Lw h]
def nI {T N:Nat}{cs:List (Int×Int)}{b:Int}(h:∀i j,i<j->j<N->mo i<mo j):(onW T mo cs b N).flatten=((List.range N).filter λk=>decide (mo k<T)).map λk=>((cs.getD k (0,0)).1,b):=by
 have e:=HJ (List.map (·.1))<|cg (en:=enW cs b) h T;rw[List.map_flatten,GL]at e;exact e
def qE {T m N:Nat}{cs:List (Int×Int)}{b:Int}(h:∀i j,i<j->j<N->mo i<mo j)(hm:m<=T):d0 (onW T mo cs b N) m=((List.range N).filter λk=>decide (mo k<m)).length:=by
 unfold d0;rw[wH hm,<-G0,nI h,Gi]
def nR {T N:Nat}{cs:List (Int×Int)}{b:Int}(h:∀i j,i<j->j<N->mo i<mo j)(hT:∀k,k<N->mo k<T):f7 (onW T mo cs b N)=N:=by
 rw[<-G0,nI h,Gi];have:((List.range N).filter λk=>decide (mo k<T))=List.range N:=JU.2 λk hk=>GX<|hT k<|GJ.1 hk
 rw[this,GB]
def Bi {T N k:Nat}{cs:List (Int×Int)}{b:Int}(h:∀i j,i<j->j<N->mo i<mo j)(hT:∀k,k<N->mo k<T)(hk:k<N):arW (onW T mo cs b N) k=mo k:=by
 have hl:(onW T mo cs b N).length=T:=by rw[Gi,D5]
 have hk':=hT k hk;refine ee (by rw[hl];exact hk') ?_ ?_
 .rw[qE h<|by omega];have:((List.range N).filter λx=>decide (mo x<mo k))=(List.range N).filter λx=>decide (x<k):=Jl λx hx=>by
   have hx:=GJ.1 hx;rw[IR];rcases JF x k with c | c | c
   .have:=h x k c hk;omega
   .subst c;omega
   .have:=h k x c hx;omega
  rw[this,dy k N<|by omega];exact Gs _
 .rw[qE h<|by omega];have:((List.range N).filter λx=>decide (mo x<mo k+1))=(List.range N).filter λx=>decide (x<k+1):=Jl λx hx=>by
   have hx:=GJ.1 hx;rw[IR];rcases JF x k with c | c | c
   .have:=h x k c hk;omega
   .subst c;omega
   .have:=h k x c hx;omega
  rw[this,dy (k+1) N<|by omega];exact Jr _
end
section
variable {F:FdS}
def BD {mt:DE->M Bool}{me:DE->M Ac}{α:Type}{x:α->Ac}{f:α->Ac}{rest:DE}:∀(ds:List α) (o:Option DV) (F:FdS) (Q:List Ac->FdS->Prop),(∀d∈ds,∀(F:FdS) (Q:Bool->FdS->Prop),Q true F->wp (mt (some (.dat<|x d)::rest) F) Q) ->
  (∀d∈ds,∀(F:FdS) (Q:Ac->FdS->Prop),Q (f d) F->wp (me (some (.dat<|x d)::rest) F) Q)->Q (ds.map f) F->wp (V8 (bN 0) mt me (ds.map x) (o::rest) F) Q
 | [],o,F,Q,_,_,q=>b9.2 q
 | d::ds,o,F,Q,ht,h,q=>by
  rw[GH,V8];have e:bN 0 (x d) (o::rest)=some (some (.dat<|x d)::rest):=rfl;rw[e,GV,b8];refine ht d Gx F _ ?_;rw[Gp rfl,b8];refine h d Gx F _ ?_;rw[b8];exact BD ds _ F _ (λd hd=>ht d<|Gq _ hd) (λd hd=>h d<|Gq _ hd)<|b9.2 q
theorem xX:∀(ds:List (Int×Int)) (o0 o1:Option DV) (F:FdS) (Q:List Ac×DE->FdS->Prop),(∀o1,Q (ds.map cmD,[o0,o1]) F)->wp (eF (bN 1) M5 (sV 1) (ds.map cmD) [o0,o1] F) Q
 | [],o0,o1,F,Q,q=>b9.2<|q o1
 | d::ds,o0,o1,F,Q,q=>by
  rw[GH,eF];have e:bN 1 (cmD d) [o0,o1]=some [o0,some<|.dat<|cmD d]:=rfl;rw[e,GV,b8];refine ak.2 ?_;rw[Gp rfl,b8];refine w9g rfl ?_;rw[b8];exact xX ds _ _ F _ λo1=>b9.2<|q o1
theorem xQ:∀(way:List Bt) (o0 o1:Option DV) (F:FdS) (Q:List Ac->FdS->Prop),Q (way.flatten.map cmD) F->wp (X2 (bN 0) M5 (N6<|sV 0) (bN 1) M5 (sV 1) (way.map btD) [o0,o1] F) Q
 | [],o0,o1,F,Q,q=>b9.2 q
 | r::way,o0,o1,F,Q,q=>by
  rw[GH,X2];have e:bN 0 (btD r) [o0,o1]=some [some<|.dat<|btD r,o1]:=rfl;rw[e,GV,b8];refine ak.2 ?_;rw[Gp rfl,b8];refine A5.2<|w9g rfl<|c9 Q4 ?_;rw[b8];refine xX r _ _ F _ λo1=>?_
  rw[b8];refine xQ way _ _ F _<|b9.2 ?_;rw[HN,GS]at q;exact q
end
theorem xx {t:Nat->Nat}{w:Nat->Int}{T:Nat}(ht:∀k,t k<=T)(hw:∀k,w k<=6):∀k,Dn t w k<=T+6*(k+1)
 | 0=>by have:=ht 0;have:=hw 0;show(t 0:Int)+w 0<=_;omega
 | k+1=>by
  have:=xx ht hw k;have:=ht<|k+1;have:=hw<|k+1;show max (t (k+1):Int) (Dn t w k)+w (k+1)<=_;omega
def BC (way:List Bt)(k:Nat):arW way k<=way.length:=by
 unfold arW;have:=Hj (λm=>decide (d0 way (m+1)<=k))<|List.range way.length;rwa [GB]at this
abbrev mW (way:List Bt)(k:Nat):Nat:=(DW way k).toNat
abbrev laW (way:List Bt):Nat:=if f7 way=0 then 0 else mW way (f7 way-1)+1
section
variable {T w:Nat}{way:List Bt}
def bY (hw:WO T w way){k:Nat}(hk:k<f7 way):((mW way k:Nat):Int)=DW way k:=by
 have:=BJ hw hk;show(((DW way k).toNat:Nat):Int)=_;omega
def jX (hw:WO T w way):∀i j,i<j->j<f7 way->mW way i<mW way j:=λi j hij hj=>by
 have h1:=qM (t:=arW way) (w:=wkW way) (N:=f7 way) (λn hn=>T9 hw.w1 hn) hij hj;have h2:=T9 hw.w1 hj;have h3:=bY hw (k:=i) (by omega);have h4:=bY hw hj;have h3:((mW way i:Nat):Int)=Dn (arW way) (wkW way) i:=h3;have h4:((mW way j:Nat):Int)=Dn (arW way) (wkW way) j:=h4;omega
def xy (hw:WO T w way){k:Nat}(hk:k<f7 way):mW way k<=T+240:=by
 have h1:=xx (t:=arW way) (w:=wkW way) (T:=T) (λk=>He (BC way k) hw.len) hw.wk6 k;have h2:=bY hw hk;have h2:((mW way k:Nat):Int)=Dn (arW way) (wkW way) k:=h2;have:=hw.many;omega
def ck (hw:WO T w way):∀k,k<f7 way->mW way k<laW way:=λk hk=>by
 unfold laW;rw[Gr<|by omega];by_cases e:k=f7 way-1
 .rw[e];omega
 .have:=jX hw k (f7 way-1) (by omega) (by omega);omega
def kM (hw:WO T w way):laW way<=T+241:=by
 unfold laW;split
 .omega
 .have:=xy hw (k:=f7 way-1) (by omega);omega
def wW (hw:WO T w way):fk [.list<|(List.range<|f7 way).map λk=>.int ((mW way k:Nat):Int),.int (-1)]=some (.int ((laW way:Nat)-1:Int)):=by
 have e:(List.range<|f7 way).map (λk=>Ac.int ((mW way k:Nat):Int))=((List.range<|f7 way).map λk=>((mW way k:Nat):Int)).map .int:=by rw[GL];rfl
 rw[e];unfold fk;dsimp only;rw[dg,GV];by_cases hz:f7 way=0
 .rw[hz];unfold laW;rw[Gp hz];rfl
 .have hne:(List.range<|f7 way).map (λk=>((mW way k:Nat):Int))≠[]:=by
   intro h;have:=HJ List.length h;simp at this;exact hz this
  rw[Gr hne];have e2:bQ ((List.range<|f7 way).map λk=>((mW way k:Nat):Int))=((laW way:Nat)-1:Int):=by
   have h1:=ck hw;have hl:laW way=mW way (f7 way-1)+1:=by unfold laW;rw[Gr hz]
   have h2:((mW way (f7 way-1):Nat):Int)<=bQ ((List.range<|f7 way).map λk=>((mW way k:Nat):Int)):=iw (GW.2 ⟨f7 way-1,GJ.2 (by omega),rfl⟩);obtain⟨k,hk,e⟩:=GW.1<|eO hne;have:=h1 k<|GJ.1 hk;rw[<-e]at h2 ⊢;omega
  rw[e2]
end
section
variable {F:FdS}{Q:Ac->FdS->Prop}
def oD {T w:Nat}{b:Int}{way:List Bt}(hT:T<=30)(hw:WO T w way)(q:Q (.tuple [.tuple<|(onW (laW way) (mW way) way.flatten b<|f7 way).map btD,.tuple<|i7<|List.range<|f7 way]) F) :
  wp (O2 [.dat<|fiD 1,.dat<|.tuple<|way.map btD,.dat<|.tuple<|List.replicate (f7 way)<|.int b] F) Q:=by
 have h1:=hw.len;have h2:=hw.many;have hla:=kM hw;unfold O2;refine R9.2 ?_;dsimp only[v5,GH,HY,GM,HR,List.replicate,Hh,Ho,Nat.reduceAdd,Nat.reduceSub];refine w9q ?_;unfold lF;rw[b8];refine A5.2<|w9w rfl<|c9 Q4 ?_;dsimp only;rw[b8];refine xQ way _ _ _ _ ?_;dsimp only;rw[Gp (by rw[Gi,G0];exact sz<|by omega)];refine b9.2 ⟨i8 rfl,h7<|w9q ?_⟩;refine lh (T:=T) (w:=w) (by omega) hw rfl rfl λf=>⟨i8 rfl,h7<|w9q ?_⟩
 refine J9.2 (c8.2<|V7.2<|A5.2<|w9w rfl<|c9 L0 ⟨sz (by unfold goL;simp;omega),?_⟩);unfold goL;refine BD (x:=λk=>goD (arW way k) (mW way k)<|f k) (f:=λk=>.int ((mW way k:Nat):Int)) _ _ _ _ (λk _ F Q q=>?_) (λk _ F Q q=>?_) ?_
 .exact aa.2<|q4.2<|w9s rfl<|n6.2<|c9 rfl<|n6.2<|c9 nT<|c9 rfl q
 .exact w9s rfl<|n6.2<|c9 rfl q
 refine c8.2<|wK.2<|n6.2<|c9 rfl<|d8.2<|c9 (wW hw) ⟨i8 rfl,h7<|j9.2 ?_⟩;refine vt (E:=eG (fiD 1) (.tuple<|way.map btD) (.int ((laW way:Nat)-1:Int)) way.flatten (f7 way) b (arW way) (mW way) f none 0) (mX 0) (i8 rfl) ?_;unfold gY;rw[b8];refine gp.2<|c8.2<|w9s rfl<|n6.2<|c9 cb<|d8.2 ?_;have el:((laW way:Nat)-1:Int)+1=((laW way:Nat):Int):=by omega
 rw[el];refine c9 (uH<|by omega) ?_;dsimp only;rw[Gp (by rw[Gi,GB];exact sz<|by omega),Gi,GB];refine b9.2 ⟨_,_,mX<|f7 way,yU (G0 way) h2 (ck hw) (by omega),yD,h7<|P2.2<|r6.2<|w9v rfl<|x8.2 ?_⟩;have er:ue ((y6 (laW way) (mW way) (enW way.flatten b)<|f7 way).map λr=>r.map enD) = .list ((y6 (laW way) (mW way) (enW way.flatten b)<|f7 way).map qk):=by
  show Ac.list (List.map _<|List.map _ _)=_;rw[GL];rfl
 rw[er];have hfl:=cg (en:=enW way.flatten b) (jX hw)<|laW way;have hall:((List.range<|f7 way).filter λk=>decide (mW way k<laW way))=List.range (f7 way):=JU.2 λk hk=>GX<|ck hw k<|GJ.1 hk
 rw[hall]at hfl;refine pI (by rw[D5];omega) (λr hr=>?_) (by rw[hfl,Gi,GB];omega)<|O4 ?_
 .obtain⟨m,_,rfl⟩:=GW.1 hr;rw[Gi];have:=Hj (λk=>decide (mW way k=m))<|List.range<|f7 way;rw[GB]at this;omega
 .rw[hfl,GL];have e1:(List.range<|f7 way).map ((λe:En=>Ac.int e.2) ∘ enW way.flatten b)=i7 (List.range<|f7 way):=rfl;rw[e1];have e2:(y6 (laW way) (mW way) (enW way.flatten b)<|f7 way).map (λr=>btD (r.map (·.1)))=(onW (laW way) (mW way) way.flatten b<|f7 way).map btD:=by
   unfold onW;rw[GL];rfl
  rw[e2];exact q
end
def tX {N k:Nat}{y:Nat->Ac}(h:k<N):igD ((List.range N).map λj=>(Ac.int (j:Nat),y j)) (k:Nat)=some (y k):=by
 unfold igD;rw[List.find?_map];have e:(List.range N).find? ((λp:Ac×Ac=>decide (C1 p.1=some ((k:Nat):Int))) ∘ λj=>(Ac.int (j:Nat),y j))=some k:=by
  rw[List.find?_range_eq_some];refine⟨by simp[C1],GJ.2 h,λj hj=>?_⟩;simp[C1];omega
 rw[e];rfl
def tI {N:Nat}{y:Nat->Ac}:igD ((List.range N).map λj=>(Ac.int (j:Nat),y j)) (N:Nat)=none:=by
 unfold igD;rw[List.find?_map];have e:(List.range N).find? ((λp:Ac×Ac=>decide (C1 p.1=some ((N:Nat):Int))) ∘ λj=>(Ac.int (j:Nat),y j))=none:=by
  rw[List.find?_eq_none];intro j hj;have:=GJ.1 hj;simp[C1];omega
 rw[e];rfl
theorem ui {y:Nat->Ac}:∀N:Nat,zD ((List.range N).map λj=>((j:Nat):Int)) ((List.range N).map y) []=(List.range N).map λj=>(Ac.int (j:Nat),y j)
 | 0=>rfl
 | N+1=>by
  have ih:=ui (y:=y) N;unfold zD at ih ⊢;rw[Ih,GS,GS,List.zip_append (by simp),List.foldl_append,ih,GS];show ipD ((List.range N).map λj=>(Ac.int (j:Nat),y j)) (N:Nat) (y N)=_;unfold ipD;rw[tI,Gr<|by simp];rfl
abbrev wyB (way:List Bt)(b:Nat):List Bt:=onW (laW way) (mW way) way.flatten (b:Int)<|f7 way
section
variable {T a b:Nat}{way:List Bt}
def fw (hw:WO T a way)(h1:1<=b)(h6:b<=6):WO (laW way) b (wyB way b):=by
 refine⟨?_,?_,h1,h6,λr hr c hc=>?_⟩
 .rw[Gi,D5];exact Gs _
 .rw[nR (jX hw)<|ck hw];exact hw.many
 .obtain⟨e,he,rfl⟩:=GW.1 hr;obtain⟨m,_,rfl⟩:=GW.1 he;rw[GL]at hc;obtain⟨k,_,rfl⟩:=GW.1 hc;rfl
def Z5 (hw:WO T a way):f7 (wyB way b)=f7 way:=nR (jX hw)<|ck hw
def mw (hw:WO T a way){k:Nat}(hk:k<f7 way):arW (wyB way b) k=mW way k:=Bi (jX hw) (ck hw) hk
abbrev twD (way:List Bt)(b:Nat)(f g:Nat->Nat)(k:Nat):Ac:=.tuple [goD (arW way k) (mW way k)<|f k,goD (mW way k) (mW (wyB way b) k)<|g k]
variable {F:FdS}{Q:Ac->FdS->Prop}
def oK (hT:T<=30)(hw:WO T a way)(h1:1<=b)(h6:b<=6)(q:∀f g,Q (.list<|(List.range<|f7 way).map<|twD way b f g) F) :
  wp (T4 [.dat<|.tuple [fiD 1,fiD 1],.dat<|.tuple<|way.map btD,.dat<|.tuple<|List.replicate (f7 way)<|.int (b:Nat)] F) Q:=by
 have h2:=hw.many;have hl:=hw.len;have hla:=kM hw;unfold T4;refine R9.2 ?_;dsimp only[v5,GH,HY,GM,HR,List.replicate,Hh,Ho,Nat.reduceAdd,Nat.reduceSub];refine j9.2<|U8.2<|w9g rfl<|c9 rfl<|h7<|j9.2<|U8.2<|r6.2<|w9v rfl<|w9v rfl<|w9v rfl<|x8.2 ?_;refine oD hT hw<|c9 rfl<|h7<|j9.2 ?_;unfold mDZ;rw[b8];refine w9g rfl ?_;rw[b8];refine lh (T:=laW way) (w:=b) (by omega) (fw hw h1 h6) rfl rfl λg=>?_
 have ek:pD false (Ac.tuple<|i7<|List.range<|f7 way)=some (i7<|List.range<|f7 way):=rfl;have ei:G5 (i7<|List.range<|f7 way)=some ((List.range<|f7 way).map λj=>((j:Nat):Int)):=by
  have e:i7 (List.range<|f7 way)=((List.range<|f7 way).map λj=>((j:Nat):Int)).map .int:=by unfold i7;rw[GL];rfl
  rw[e];exact dg _
 dsimp only;rw[ek];dsimp only;rw[ei];dsimp only;rw[Gp ⟨i8 rfl,by rw[v7];unfold goL;simp[Z5 hw],by rw[v7,GB];omega⟩];refine b9.2<|h7<|P2.2<|V7.2<|gI ?_;have eg:goL (f7<|wyB way b) (arW<|wyB way b) (λk=>(DW (wyB way b) k).toNat) g=(List.range<|f7 way).map λk=>goD (mW way k) (mW (wyB way b) k) (g k):=by
  unfold goL;rw[Z5 hw];refine GO λk hk=>?_
  rw[mw hw<|GJ.1 hk]
 rw[eg,ui];refine lh (T:=T) (w:=a) (by omega) hw rfl rfl λf=>c9 L0 ?_
 unfold goL;rw[nM];refine⟨sz (by simp;omega),?_⟩;refine jt (x:=λi:Nat=>.int (i:Int)) (y:=λk=>goD (arW way k) (mW way k)<|f k) (f:=twD way b f g) _ _ _ (λk hk F Q q=>?_)<|O4<|q f g;have hk:=GJ.1 hk;refine C2.2<|w9c rfl<|c8.2 ?_;unfold md;rw[b8];refine w9g rfl ?_;simp only[q5];refine⟨(true,9,(List.range<|f7 way).map λj=>(Ac.int (j:Nat),goD (mW way j) (mW (wyB way b) j)<|g j)),rfl,(k:Int),rfl,?_⟩;dsimp only;rw[Gp rfl,tX hk];exact b9.2<|d8.2 ⟨p8 rfl,q⟩
end
def uo {way:List Bt}:jD [.list<|way.map λb=>.int ((b.length:Nat):Int)]=some (.int (f7 way:Nat)):=by
 have e:way.map (λb=>Ac.int ((b.length:Nat):Int))=(way.map λb=>((b.length:Nat):Int)).map .int:=by rw[GL];rfl
 rw[e];simp only[jD,dg,KJ];congr 2;unfold f7;induction way with
 | nil=>rfl
 | cons b way ih=>simp only[GH,IH];rw[ih (by rw[GL];rfl)];omega
def Ce {x:Ac}{k:Nat}(h1:k<=1000):ag (.tuple [x]) (.int (k:Int))=some (.tuple<|List.replicate k x):=by
 have e:(List.replicate ((k:Int)).toNat [x]).flatten=List.replicate k x:=by
  rw[HG];clear h1;induction k with
  | zero=>rfl
  | succ k ih=>rw[Ht,HN,ih,Ht];rfl
 rw[<-e];have hz:[x].length*((k:Int)).toNat<=LM:=sz (by rw[HG];show 1*k<=_;omega);have h1:-(2 ^ 63)<=(k:Int):=by omega
 have h2:(k:Int)<2 ^ 63:=by omega
 generalize (k:Int)=i at hz h1 h2;exact Gp ⟨h1,h2,hz⟩
abbrev wyA (way:List Bt)(a:Nat):List Bt:=way.map λr=>r.map λc=>(c.1,(a:Int))
section
variable {n a b:Nat}{way:List Bt}
def T3:f7 (wyA way a)=f7 way:=by
 unfold f7 wyA;rw[GL];congr 1;refine GO λr _=>?_
 simp
def xg:d0 (wyA way a)=d0 way:=by
 funext m;unfold d0 wyA;rw[<-Ky];exact T3
def yM:arW (wyA way a)=arW way:=by
 funext k;unfold arW;rw[xg,Gi]
def lU (hw:WayOk n way)(h1:1<=a)(h6:a<=6):WO n a (wyA way a):=by
 refine⟨by rw[Gi];exact hw.len,by rw[T3];exact hw.many,h1,h6,λr hr c hc=>?_⟩;obtain⟨r0,_,rfl⟩:=GW.1 hr;obtain⟨c0,_,rfl⟩:=GW.1 hc;rfl
abbrev tW (way:List Bt)(k:Nat):Int:=(arW way k:Nat)
theorem kI {T:Nat}(hw:WO T a way):∀k,k<f7 way->DW way k=D1 (tW way) a k
 | 0,h=>by
  show(arW way 0:Int)+wkW way 0=(arW way 0:Int)+a;rw[hw.wk h]
 | k+1,h=>by
  have ih:=kI hw k (by omega);have ih:Dn (arW way) (wkW way) k=D1 (tW way) a k:=ih;show max (arW way (k+1):Int) (Dn (arW way) (wkW way) k)+wkW way (k+1)=max (arW way (k+1):Int) (D1 (tW way) a k)+a;rw[ih,hw.wk h]
theorem rq {T:Nat}(hw:WO T a way)(h1:1<=b)(h6:b<=6):∀k,k<f7 way->DW (wyB way b) k=D2 (tW way) a b k
 | 0,h=>by
  have e:=bY hw h;rw[kI hw 0 h]at e;show(arW (wyB way b) 0:Int)+wkW (wyB way b) 0=D1 (tW way) a 0+b;rw[(fw hw h1 h6).wk (by rw[Z5 hw];exact h),mw hw h,e]
 | k+1,h=>by
  have ih:=rq hw h1 h6 k (by omega);have ih:Dn (arW<|wyB way b) (wkW<|wyB way b) k=D2 (tW way) a b k:=ih;have e:=bY hw h;rw[kI hw (k+1) h]at e;show max (arW (wyB way b) (k+1):Int) (Dn (arW<|wyB way b) (wkW<|wyB way b) k)+wkW (wyB way b) (k+1)=max (D1 (tW way) a<|k+1) (D2 (tW way) a b k)+b;rw[ih,(fw hw h1 h6).wk (by rw[Z5 hw];exact h),mw hw h,e]
abbrev cG (way:List Bt)(a b:Nat):List Ac:=(List.range<|f7 way).map λk=>.int<|D2 (tW way) a b k
def tK (hw:WayOk n way)(h1:1<=a)(h6:a<=6)(g1:1<=b)(g6:b<=6){k:Nat}(hk:k<f7 way):((mW (wyB (wyA way a) b) k:Nat):Int)=D2 (tW way) a b k:=by
 have hA:=lU hw h1 h6;have hk':k<f7 (wyA way a):=by rw[T3];exact hk
 rw[bY (fw hA g1 g6) (by rw[Z5 hA];exact hk'),rq hA g1 g6 k hk'];have e:tW (wyA way a)=tW way:=by funext j;show((arW (wyA way a) j:Nat):Int)=_;rw[yM]
 rw[e]
variable {F:FdS}{Q:Ac->FdS->Prop}
def rD {ds:List Ac}:isD false (.tuple ds) .none=some (.bool false):=rfl
def wy {i:Int}:eqD true (.int i) (.int i)=some (.bool false):=by
 show some (Ac.bool (!decide (i=i)))=_;rw[GX rfl];rfl
def fS (hn:n<=24)(hw:WayOk n way)(h1:1<=a)(h6:a<=6)(g1:1<=b)(g6:b<=6)(q:Q (.list<|cG way a b) F) :
  wp (u0 [.dat<|.tuple<|way.map btD,.dat<|.int (a:Nat),.dat<|.int (b:Nat)] F) Q:=by
 have h2:=hw.many;have hl:=hw.len;have hA:=lU hw h1 h6;unfold u0;refine R9.2 ?_;dsimp only[v5,GH,HY,GM,HR,List.replicate,Hh,Ho,Nat.reduceAdd,Nat.reduceSub];refine w9q (n6.2 ⟨i8 rfl,h7<|w9q<|J9.2<|c8.2<|V7.2<|A5.2<|w9w rfl<|c9 Q4 ⟨sz (by simp;omega),?_⟩⟩);refine yu (x:=btD) (f:=λr=>btD<|r.map λc=>(c.1,(a:Int))) _ _ (λr hr F Q q=>?_)<|d8.2<|c9 av ⟨i8 rfl,h7<|w9q ?_⟩
 .have hrl:r.length<=f7 way:=by
   obtain⟨i,hi,e⟩:=KW hr;have h3:=R8 (way:=way) hi;have h4:=dD way<|i+1;have e2:p6 way i=r:=by rw[<-e];unfold p6;simp[hi]
   rw[e2]at h3;omega
  refine J9.2 (c8.2<|V7.2<|A5.2<|w9w rfl<|c9 Q4 ⟨sz (by rw[Gi];omega),?_⟩);refine jt (x:=λc:Int×Int=>.int c.1) (y:=λc=>.int c.2) (f:=λc=>cmD (c.1,(a:Int))) _ _ _ (λc _ F Q q=>C2.2<|w9c rfl<|w9c rfl<|d8.2 ⟨p8 rfl,q⟩)<|d8.2<|c9 av ?_;have e:r.map (λc:Int×Int=>cmD (c.1,(a:Int)))=(r.map λc=>(c.1,(a:Int))).map cmD:=by rw[GL];rfl
  rw[e];exact q
 refine w9l (C2.2<|w9c rfl<|w9c rfl<|d8.2 ⟨p8 rfl,w9v rfl<|L1.2<|q4.2<|C2.2<|w9c rfl<|d8.2 ⟨p8 rfl,J9.2<|c8.2<|V7.2<|A5.2<|w9w rfl<|c9 Q4 ⟨sz (by simp;omega),?_⟩⟩⟩);refine yu (x:=btD) (f:=λr=>.int ((r.length:Nat):Int)) _ _ (λr _ F Q q=>J9.2<|c8.2<|w9w rfl<|d8.2<|c9 (z:=.int ((r.length:Nat):Int)) (by rw[U3,Gi]) q) (d8.2<|c9 uo<|c9 (Ce<|by omega)<|x8.2 ?_);have eA:way.map (λr=>btD<|r.map λc=>(c.1,(a:Int)))=(wyA way a).map btD:=by unfold wyA;rw[GL];rfl
 rw[eA,<-T3 (way:=way) (a:=a)];refine oK (T:=n) (by omega) hA g1 g6 λf g=>⟨i8 rfl,h7<|j9.2<|cw.2<|O8.2<|d8.2 ⟨sz (by decide),i8 rfl,h7<|j9.2<|W4.2<|A5.2<|w9g rfl<|c9 L0 ?_⟩⟩
 rw[T3];refine N7 (λi E F'=>F'=F/\i<=f7 way/\∃o0 o1 o2 o3 o4 o5 o7 o8,E=[o0,o1,o2,o3,o4,o5,some<|.own<|(List.range i).map λk=>.int<|D2 (tW way) a b k,o7,o8]) _ 0 _ F ⟨rfl,HA _,_,_,_,_,_,_,_,_,rfl⟩ ?_ ?_
 .rintro i d e E F1 ⟨rfl,hi,o0,o1,o2,o3,o4,o5,o7,o8,rfl⟩;rw[Hq]at hi ⊢;have hlt:i<f7 way:=by have:=(GE.1 e).1;simpa using this
  obtain rfl:d=twD (wyA way a) b f g i:=by
   rw[GC,Iu hlt]at e;cases e;rfl
  refine⟨_,rfl,w9i<|oh.2<|aa.2<|q4.2<|w9s rfl<|n6.2<|c9 rfl<|n6.2<|c9 mG<|c9 rfl<|l7 rfl ?_⟩;refine oh.2<|aa.2<|w9s rfl<|n6.2<|c9 rD<|c9 rfl<|l7 rfl ?_;refine oh.2<|aa.2<|q4.2<|w9s rfl<|n6.2<|c9 rfl<|n6.2<|c9 mG<|c9 rfl<|l7 rfl ?_;refine aa.2<|q4.2<|w9s rfl<|n6.2<|c9 rfl<|w9s rfl<|n6.2<|c9 rfl<|c9 wy<|c9 rfl<|l7 rfl<|gb.2<|h7 ?_;refine bh rfl (by rw[Gi,GB];omega)<|w9s rfl<|n6.2<|c9 rfl ?_;exact⟨_,rfl,rfl,hlt,o0,o1,o2,o3,o4,o5,_,_,by rw[Ih,GS,tK hw h1 h6 g1 g6 hlt];rfl⟩
 .rintro E F1 ⟨rfl,_,o0,o1,o2,o3,o4,o5,o7,o8,rfl⟩;rw[Gi,GB,Hq];exact h7<|P2.2<|n5.2<|ai rfl<|O4 q
end
def vX:O7=iF nmB:=rfl
abbrev rR (way:List Bt)(m:Nat):List Ac:=(List.range<|d0 way m).map λk=>.int ((arW way k:Nat):Int)
def pH {way:List Bt}{m:Nat}(h:m<way.length):rR way (m+1)=rR way m++List.replicate (p6 way m).length (.int ((m:Nat):Int)):=by
 unfold rR;rw[D3 h,bA,GS];congr 1;rw[GL];refine JI.2 ⟨by simp,λd hd=>?_⟩;obtain⟨j,hj,rfl⟩:=GW.1 hd;have hj:=GJ.1 hj;have e:arW way (d0 way m+j)=m:=ee h (by omega) (by rw[D3 h];omega);show Ac.int ((arW way (d0 way m+j):Nat):Int)=_;rw[e]
def AD {i:Nat}{m:DE->M Out}{E:DE}{F:FdS}{ds:List Ac}{Q:Out->FdS->Prop}(he:V2 E i=some ds)(q:wp (m (E.set i<|some<|.dat<|.list ds) F) Q):wp (jj i m E F) Q:=by
 unfold jj;rw[he,GV];exact q
def wx {way:List Bt}{k:Nat}(h:k<way.length):ixD (.tuple<|way.map btD) (.int (k:Nat))=some (btD<|p6 way k):=by
 have e:=S9 ([]:Bt) btD way;rw[<-e];exact gE (f:=λk=>btD<|way.getD k []) h
def frZ (t:Nat->Int)(a:Int):Nat->Int
 | 0=>0
 | k+1=>D1 t a k
def gnZ (t:Nat->Int)(a b:Int):Nat->Int
 | 0=>0
 | k+1=>D2 t a b k
def wg {t:Nat->Int}{a:Int}(ht:∀k,0<=t k)(k:Nat):(if frZ t a k > t k then frZ t a k else t k)+a=D1 t a k:=by
 cases k with
 | zero =>
  have:=ht 0;show(if (0:Int) > t 0 then 0 else t 0)+a=t 0+a;rw[Gr<|by omega]
 | succ k =>
  show(if D1 t a k > t (k+1) then D1 t a k else t (k+1))+a=max (t<|k+1) (D1 t a k)+a;split <;> omega
theorem AO {t:Nat->Int}{a:Int}(ht:∀k,0<=t k)(ha:0<=a):∀k,0<=D1 t a k
 | 0=>by have:=ht 0;show 0<=t 0+a;omega
 | k+1=>by have:=ht<|k+1;show 0<=max (t<|k+1) (D1 t a k)+a;omega
def vf {t:Nat->Int}{a b:Int}(ht:∀k,0<=t k)(ha:0<=a)(k:Nat):(if gnZ t a b k > D1 t a k then gnZ t a b k else D1 t a k)+b=D2 t a b k:=by
 have h0:=AO ht ha k;cases k with
 | zero =>
  show(if (0:Int) > D1 t a 0 then 0 else D1 t a 0)+b=t 0+a+b;rw[Gr<|by omega];rfl
 | succ k =>
  show(if D2 t a b k > D1 t a (k+1) then D2 t a b k else D1 t a (k+1))+b=max (D1 t a<|k+1) (D2 t a b k)+b;split <;> omega
def sM {i j:Int}:ji [.int i,.int j]=some (.int<|if j > i then j else i):=rfl
section
variable {n a b:Nat}{way:List Bt}{F:FdS}{Q:Ac->FdS->Prop}
def AZ (hn:n<=24)(hw:WayOk n way)(q:Q (.list<|cG way a b) F) :
  wp (L4 [.dat<|.tuple<|way.map btD,.dat<|.int (a:Nat),.dat<|.int (b:Nat)] F) Q:=by
 have h2:=hw.many;have hl:=hw.len;have ht:∀k,0<=tW way k:=λk=>Int.natCast_nonneg _
 unfold L4;refine R9.2 ?_;dsimp only[v5,GH,HY,GM,HR,List.replicate,Hh,Ho,Nat.reduceAdd,Nat.reduceSub];refine j9.2 (cw.2<|O8.2<|d8.2 ⟨sz (by decide),i8 rfl,h7<|j9.2<|cw.2<|O8.2<|d8.2 ⟨sz (by decide),i8 rfl,h7<|j9.2 ?_⟩⟩);refine W4.2<|gp.2<|c8.2<|J9.2<|c8.2<|w9w rfl<|d8.2<|c9 U3<|d8.2 ?_;rw[Gi];refine c9 (uH<|by omega) ?_;refine N7 (λm E F'=>F'=F/\m<=way.length/\∃o5,E=[some<|.dat<|.tuple<|way.map btD,some<|.dat<|.int (a:Nat),some<|.dat<|.int (b:Nat),some<|.own [],some<|.own<|rR way m,o5,none,none,none]) _ 0 _ F ⟨rfl,HA _,none,rfl⟩ ?_ ?_
 .rintro m d e E F1 ⟨rfl,hm,o5,rfl⟩;rw[Hq]at hm ⊢;have hlt:m<way.length:=by have:=(GE.1 e).1;simpa using this
  obtain rfl:d = .int (m:Nat):=by
   rw[GC,Iu hlt]at e;cases e;rfl
  have h3:=R8 (way:=way) hlt;have h4:=dD way<|m+1;refine⟨_,rfl,rB rfl<|q4.2<|iL.2<|w9c rfl<|d8.2 ⟨p8 rfl,J9.2<|c8.2<|w9s rfl<|w9w rfl<|c9 (wx hlt)<|d8.2<|c9 U3 ?_⟩⟩;rw[Gi];refine c9 (qr<|by omega) ⟨_,rfl,?_,?_⟩
  .rw[IG,Gi,GB];have:=U6 way m;omega
  .exact⟨_,rfl,rfl,hlt,_,by rw[pH hlt];rfl⟩
 .rintro E F1 ⟨rfl,_,o5,rfl⟩;rw[Gi,GB,Hq];refine h7<|w9q<|n6.2 ⟨i8 rfl,h7<|w9q<|n6.2 ⟨i8 rfl,h7<|j9.2<|AD rfl ?_⟩⟩;refine W4.2<|A5.2<|w9g rfl<|c9 L0 ?_;have ec:d0 way way.length=f7 way:=T5<|Gs _;refine N7 (λk E F'=>F'=F1/\k<=f7 way/\∃o4 o5 o8,E=[some<|.dat<|.tuple<|way.map btD,some<|.dat<|.int (a:Nat),some<|.dat<|.int (b:Nat),some<|.own<|(List.range k).map λj=>.int<|D2 (tW way) a b j,o4,o5,some<|.dat<|.int<|frZ (tW way) a k,some<|.dat<|.int<|gnZ (tW way) a b k,o8]) _ 0 _ F1 ⟨rfl,HA _,_,_,_,rfl⟩ ?_ ?_
  .rintro k d e E F2 ⟨rfl,hk,o4,o5,o8,rfl⟩;rw[Hq]at hk ⊢;have hlt:k<f7 way:=by
    have:=(GE.1 e).1;rw[Gi,GB,ec]at this;exact this
   obtain rfl:d = .int (tW way k):=by
    unfold rR at e;rw[GC,Iu (by rw[ec];exact hlt)]at e;cases e;rfl
   refine⟨_,rfl,w9q<|q4.2<|J9.2<|c8.2<|w9w rfl<|c8.2<|w9w rfl<|d8.2<|c9 sM<|w9w rfl<|c9 cb ⟨i8 rfl,h7<|j9.2 ?_⟩⟩;rw[wg ht];refine A8.2<|q4.2<|J9.2<|c8.2<|w9w rfl<|c8.2<|w9w rfl<|d8.2<|c9 sM<|w9w rfl<|c9 cb ⟨i8 rfl,h7 ?_⟩;rw[vf ht<|Int.natCast_nonneg _];refine bh rfl (by rw[Gi,GB];omega)<|w9g rfl ?_;exact⟨_,rfl,rfl,hlt,_,_,_,by rw[Ih,GS];rfl⟩
  .rintro E F2 ⟨rfl,_,o4,o5,o8,rfl⟩;rw[Gi,GB,Hq,ec];exact h7<|P2.2<|n5.2<|ai rfl<|O4 q
def mJ (hn:n<=24)(hw:WayOk n way)(h1:1<=a)(h6:a<=6)(g1:1<=b)(g6:b<=6):eqD false (.list<|cG way a b) (.list<|cG way a b)=some (.bool true):=by
 have hA:=lU hw h1 h6;have h2:=hw.many;have e:cG way a b=i7 ((List.range<|f7 way).map λk=>mW (wyB (wyA way a) b) k):=by
  unfold i7 cG;rw[GL];refine GO λk hk=>?_
  show Ac.int _ = .int _;rw[tK hw h1 h6 g1 g6<|GJ.1 hk]
 have hb:∀i∈(List.range<|f7 way).map λk=>mW (wyB (wyA way a) b) k,i<=1000:=λi hi=>by
  obtain⟨k,hk,rfl⟩:=GW.1 hi;have hk:=GJ.1 hk;have h3:=xy (fw hA g1 g6) (k:=k) (by rw[Z5 hA,T3];exact hk);have h4:=kM hA;omega
 rw[e];generalize (List.range<|f7 way).map (λk=>mW (wyB (wyA way a) b) k)=l at hb e;have hll:l.length<=40:=by
  have:=HJ List.length e;rw[v7,Gi,GB]at this;omega
 have hg:Gd 0 (1+l.length) 1 (.list<|i7 l):=by
  refine Gd.lst (M:=1) (λx hx=>?_) ?_
  .obtain⟨i,hi,rfl⟩:=GW.1 hx;have:=hb i hi;exact za (by omega) (by omega)
  .have:=fu (c:=1) (ds:=i7 l) λd hd=>by
    obtain⟨i,hi,rfl⟩:=GW.1 hd;have:=hb i hi;exact(za (n:=0) (i:=(i:Int)) (by omega)<|by omega).ct
   rw[v7]at this;omega
 have hs:=hg.shaped (by decide) (by decide);show(if SeqAt.shaped (.list<|i7 l)=true/\SeqAt.shaped (.list<|i7 l)=true then _ else none)=_;rw[Gp (show SeqAt.shaped (.list<|i7 l)=true/\SeqAt.shaped (.list<|i7 l)=true from⟨hs,hs⟩),Gr<|by decide];refine HJ (λb=>some<|Ac.bool b) ?_;exact PySem.SeqAt.eqv_refl (.list<|i7 l) (hg.nod<|by decide).cl
end
def fin (ns:List Int):∃F',jm ([none,some .feed]++List.replicate 6 none) (lV ns)=some (.rt<|.bool true,F'):=by
 have key:wp (jm [none,some .feed,none,none,none,none,none,none]<|lV ns) λo _=>o = .rt (.bool true):=by
  have ht:(lV ns).t=0:=rfl;unfold jm dA;refine w9q<|w9d rfl ?_;refine U1 (by decide) (by decide) (by omega) λr F1 r0 r1 t1=>⟨i8 rfl,h7<|j9.2 ?_⟩
  obtain⟨n,en,hn⟩:∃n:Nat,ixD (.list [.int 8,.int 24]) (.int r)=some (.int (n:Int))/\n<=24:=by
   have:r=0\/r=1:=by omega
   rcases this with rfl | rfl
   .exact⟨8,rfl,by decide⟩
   .exact⟨24,rfl,by decide⟩
  obtain⟨m,em,m1,m6⟩:∃m:Nat,ixD (.list [.int 6,.int 2]) (.int r)=some (.int (m:Int))/\1<=m/\m<=6:=by
   have:r=0\/r=1:=by omega
   rcases this with rfl | rfl
   .exact⟨6,rfl,by decide,by decide⟩
   .exact⟨2,rfl,by decide,by decide⟩
  unfold du;rw[vX];refine A8.2<|r6.2<|uz.2<|sO rfl<|L1.2<|q4.2<|n6.2<|w9w rfl<|c9 en<|L1.2<|n6.2<|x8.2 ?_;refine(vg (nm:=nmB) rfl (n:=n) (w:=1) hn (Gs _)<|by decide).wp (by omega) λd F2 t2 hd=>?_
  obtain⟨way,rfl,hw⟩:=hd;refine⟨i8 rfl,h7<|j9.2 ?_⟩;unfold dj;refine A8.2<|q4.2<|n6.2<|w9w rfl<|c9 em ⟨i8 rfl,h7<|j9.2 ?_⟩;unfold di;refine A8.2<|q4.2<|n6.2<|r6.2<|uz.2<|sO rfl<|w9v rfl<|x8.2 ?_;refine U1 (by omega) (by omega) (by omega) λx F3 x0 x1 t3=>c9 cb ⟨i8 rfl,h7<|j9.2 ?_⟩
  unfold dm;refine A8.2<|q4.2<|n6.2<|r6.2<|uz.2<|sO rfl<|w9v rfl<|x8.2 ?_;refine U1 (by omega) (by omega) (by omega) λy F4 y0 y1 t4=>c9 cb ⟨i8 rfl,h7<|j9.2 ?_⟩
  obtain⟨a,ha⟩:∃a:Nat,1+x=(a:Int):=⟨(1+x).toNat,by omega⟩;obtain⟨b,hb⟩:∃b:Nat,1+y=(b:Int):=⟨(1+y).toNat,by omega⟩;rw[ha,hb];have a1:1<=a:=by omega
  have a6:a<=6:=by omega
  have b1:1<=b:=by omega
  have b6:b<=6:=by omega
  unfold df;refine A8.2<|r6.2<|w9v rfl<|w9v rfl<|w9v rfl<|x8.2 ?_;refine AZ hn hw ⟨i8 rfl,h7 ?_⟩;have esw:cG way b a=cG way a b:=GO λk _=>by rw[vh]
  unfold dC;refine P2.2<|ud.2<|q4.2<|r6.2<|w9v rfl<|w9v rfl<|w9v rfl<|x8.2 ?_;refine fS hn hw a1 a6 b1 b6<|w9w rfl<|c9 (mJ hn hw a1 a6 b1 b6)<|c9 rfl<|N2 rfl ?_;refine q4.2<|r6.2<|w9v rfl<|w9v rfl<|w9v rfl<|x8.2 ?_;refine fS hn hw b1 b6 a1 a6<|w9w rfl ?_;rw[esw];exact c9 (mJ hn hw a1 a6 b1 b6) rfl
 obtain⟨o,F',e,rfl⟩:=key;exact⟨F',e⟩
end
section
def all_mk {l:PySem.W.OpenLaw}{w:LF}{K:PySem.W.Frag}{h:LL}{mg:Str->Option Lz}{fa flaw:LA}(X:K.In h)(G:h.Ns LV mg)(hfa:mg "law" = some (.ref fa))
    {odlaw anlaw:Option LA} {sllaw:Array (Option Lz)} {oclaw kVlaw dclaw pmlaw cdlaw ctlaw:Lz}
    (alaw:PySem.W.nsIn K LV "law" = some (some<|.ref flaw)) (llaw:K.lookup flaw=some ⟨oclaw,odlaw,.func<|PySem.W.fnOf "law" "law" (defArgs CN) (defBody CN) (defScope CN) .none kVlaw dclaw pmlaw anlaw cdlaw ctlaw,sllaw⟩) (claw:PySem.W.codeIn K cdlaw "law" = true) (klaw:PySem.W.keepIn K (.ref flaw)=true)
    (EM:L3.FI K "told_way" CZ)
    (FU:L3.FI K "keeps" Dz)
    (FE:L3.FI K "let_in" Ds)
    (EN:L3.FI K "lined_up" CT)
    (FF:L3.FI K "picked" Dt)
    (FG:L3.FI K "worked" Dg)
    (FY:L3.FI K "step" DN)
    (Ge:L3.FI K "run" Fo)
    (DY:L3.FI K "after_beat" Dd)
    (Fs:L3.FI K "courses" CW)
    (Ft:L3.FI K "drained" Du)
    (EO:L3.FI K "gone_way" CM)
    (Fu:L3.FI K "through" Dj)
    (EA:L3.FI K "_law_feed" Dh)
    (EB:L3.FI K "_law_next" Di)
    (ER:L3.FI K "_law_way" Dm)
    (DG:L3.FI K "_law_moments" CQ)
    (ES:L3.FI K "_law_due" Do)
    (zdict:PySem.W.nsIn K LV "dict" = some none)
    (zenumerate:PySem.W.nsIn K LV "enumerate" = some none)
    (zlen:PySem.W.nsIn K LV "len" = some none)
    (zlist:PySem.W.nsIn K LV "list" = some none)
    (zmax:PySem.W.nsIn K LV "max" = some none)
    (zrange:PySem.W.nsIn K LV "range" = some none)
    (zsorted:PySem.W.nsIn K LV "sorted" = some none)
    (zsum:PySem.W.nsIn K LV "sum" = some none)
    (ztuple:PySem.W.nsIn K LV "tuple" = some none)
    (zzip:PySem.W.nsIn K LV "zip" = some none)
    {t_KEEPING:LA} {it_KEEPING:Array Lz} {n_KEEPING:Nat} {dd_KEEPING:Option LA} {sl_KEEPING:Array (Option Lz)} (ga_KEEPING:PySem.W.nsIn K LV "KEEPING" = some (some<|.ref t_KEEPING)) (gl_KEEPING:K.lookup t_KEEPING=some ⟨.type "tuple",dd_KEEPING,.seq it_KEEPING n_KEEPING,sl_KEEPING⟩) (gq_KEEPING:L3.strsOf it_KEEPING.toList=some (["first","last","short","front"]:List Str))
    (DZ:(PySem.W.tabIn K "lined_up").isSome=true)
    (ET:(PySem.W.tabIn K "picked").isSome=true)
    (hnd0:decide (((L3.tabsK (["lined_up","picked"]:List Str) K).map (·.2.2)).Nodup)=true)
   :∃fd:LI,(∀(s:LC) (v:Lz),BindsTo s fd ⟨[v],[]⟩ [("_law_script",v)])/\∀base:LL,K.In base->base.Ns LV mg->BMd base mg->(∀t∈L3.tabsK (["lined_up","picked"]:List Str) K,PySem.W.CodeHd base t.2.1 t.2.2)->FnOk l.prog w K mg base CX0 10 fa fd ["_law_script"] (spLaw K):=by
  have hnd:(L3.tabP K).Nodup:=Hf hnd0;have e:=hfa.symm.trans<|Kx X G alaw;cases e;have T:Txt K mg:=⟨Ip X G zdict,Ip X G zenumerate,Ip X G zlen,Ip X G zlist,Ip X G zmax,Ip X G zrange,Ip X G zsorted,Ip X G zsum,Ip X G ztuple,Ip X G zzip,L3.gd_mk X G ga_KEEPING gl_KEEPING gq_KEEPING<|by decide⟩;obtain⟨_,_,DI,EU,EV,_⟩:=EM.mk X G ["rows"];obtain⟨_,_,Fv,FV,FW,_⟩:=FU.mk X G ["rule"];obtain⟨_,_,EE,FH,FJ,_⟩:=FE.mk X G ["house","stand","beat"];obtain⟨_,_,DJ,EW,EX,⟨_,_,_,EY⟩,EZ⟩:=EN.mk X G ["rule","stand"];obtain⟨_,_,EF,FK,FL,⟨_,_,_,FM⟩,FN⟩:=FF.mk X G ["house","stand"];obtain⟨_,_,EG,FO,FP,_⟩:=FG.mk X G ["house","stand"];obtain⟨_,_,FQ,FZ,Ga,_⟩:=FY.mk X G ["house","stand","beat"];obtain⟨_,_,Gb,Gf,Gg,_⟩:=Ge.mk X G ["house","way","stand"];obtain⟨_,_,Dx,Ed,Ee,_⟩:=DY.mk X G ["course","waited","gone_at"];obtain⟨_,_,Eh,Fw,Fx,_⟩:=Fs.mk X G ["house","way"];obtain⟨_,_,Ej,Fy,FA,_⟩:=Ft.mk X G ["house","way"];obtain⟨_,_,DK,Fe,Ff,_⟩:=EO.mk X G ["house","way","works"];obtain⟨_,_,Ek,FB,FC,_⟩:=Fu.mk X G ["houses","way","works"];obtain⟨_,_,DB,Ex,EC,_⟩:=EA.mk X G ["_law_script"];obtain⟨_,_,DC,Ey,ED,_⟩:=EB.mk X G ["_law_feed_here","_law_many"];obtain⟨_,_,DL,EK,Fh,_⟩:=ER.mk X G ["_law_feed_here","_law_beats","_law_works"];obtain⟨_,_,Dl,DF,DH,_⟩:=DG.mk X G ["_law_way_here","_law_one","_law_other"];obtain⟨_,_,DM,EL,Fj,_⟩:=ES.mk X G ["_law_way_here","_law_one","_law_other"];have Flaw:=fun_mk (st:=CN) llaw claw klaw;have blaw:=Flaw.binds (ps:=["_law_script"]) λ_ _ _ _ _ _ us hl=>by
    obtain⟨z0,rfl⟩:=L3.len_1 hl;rfl
  have mlaw:=Kx X G alaw;refine⟨PySem.W.fnOf "law" "law" (defArgs CN) (defBody CN) (defScope CN) .none kVlaw dclaw pmlaw anlaw cdlaw ctlaw,λs v=>.of_eq rfl,λbase _ _ BM hC=>?_⟩;have Dq:=L3.cal l.prog w base (DQ DI T ) EU DI EV;have Dk:=L3.cal l.prog w base (Fp Fv T ) FV Fv FW;have Da:=L3.cal l.prog w base (EH EE T ) FH EE FJ;obtain⟨CY,FX,El⟩:=L3.lamB_mk (mg:=mg) (base:=base) EZ EY (by decide) DZ hnd BM hC;have Dp:=L3.cal l.prog w base (DR DJ T El ) EW DJ EX;obtain⟨Df,Gc,Fm⟩:=L3.lamB_mk (mg:=mg) (base:=base) FN FM (by decide) ET hnd BM hC;have DA:=L3.cal l.prog w base (EI EF T Fm Dp Dk) FK EF FL;have Dc:=L3.cal l.prog w base (EJ EG T DA Dk) FO EG FP;have Dv:=L3.cal l.prog w base (FD FQ T Da Dc) FZ FQ Ga;have Fq:=L3.cal l.prog w base (FR Gb T Dv) Gf Gb Gg;have De:=L3.cal l.prog w base (DD Dx T ) Ed Dx Ee;have CU:=L3.cal l.prog w base (Ep Eh T Da Dc De) Fw Eh Fx;have CV:=L3.cal l.prog w base (Er Ej T Fq Dv) Fy Ej FA;have Dr:=L3.cal l.prog w base (DS DK T CU CV Dq) Fe DK Ff;have Dw:=L3.cal l.prog w base (Eu Ek T Dr CU CV) FB Ek FC;have DX:=L3.cal l.prog w base (DO DB T) Ex DB EC;have CK:=L3.cal l.prog w base (DP DC T ) Ey DC ED;have CO:=L3.cal l.prog w base (DT DL T CK) EK DL Fh;have CL:=L3.cal l.prog w base (Dy Dl T Dw) DF Dl DH;have CP:=L3.cal l.prog w base (DU DM T ) EL DM Fj;exact FT Flaw T DX CK CO CP CL (λns _=>fin ns)
def walk {l:PySem.W.OpenLaw}{q:LD}{loose:List Str}{XP:(Str->Option Lz)->LL->Prop}{YP:LF->LL->Prop}{d:DefRec}{K:Params->PySem.W.Frag}(hn:l.most=some 63)(hdf:d.params.defaults=[])
  (hrec:((["lined_up","picked"]:List Str).all λx=>((PyProof.Rows.recsOf q).find? λe=>e.name == x).isSome)=true) (hnt:∀w:LF,PySem.W.noTabs (K w.params)=true)
  (hY:∀(w:LF) (h:LL),YP w h->(K w.params).In h)
  (F:∀(w:LF) (mg:Str->Option Lz) (fa:LA) (h:LL),(K w.params).In h->h.Ns LV mg->mg d.name=some (.ref fa) ->
   ∃fd:LI,(∀(s:LC) (u:Lz),BindsTo s fd ⟨[u],[]⟩ [("_law_script",u)])/\∀base:LL,(K w.params).In base->base.Ns LV mg->BMd base mg->(∀t∈L3.tabsK (["lined_up","picked"]:List Str) (K w.params),PySem.W.CodeHd base t.2.1 t.2.2)->FnOk l.prog w (K w.params) mg base CX0 10 fa fd ["_law_script"] (spLaw<|K w.params)) :
  PySem.W.WalkO q loose XP YP l.row.toRowW d [] (λf vs=>PySem.call f vs) :=
 L3.walk_ofT (["lined_up","picked"]:List Str) (n:=63) (k:=10) (x:="_law_script") (CX:=λ_=>CX0) (sp:=λw=>spLaw<|K w.params) hn (by decide) hdf ⟨rfl,by decide,by decide,rfl⟩ hrec hnt hY F (λ_ _ a ns hl hS hT=>⟨a,ns,rfl,hS,hl,hT,λ_=>rfl⟩) λ_ _ _ _ _ z=>z
end
end K32
open PySem PySem.W PyProof.Rows
set_option maxRecDepth 100000 in
set_option maxHeartbeats 0 in
theorem PySem.Challenge.cw_hatchwaits_k32_whole_two_houses_exchange_holds : PySem.Challenge.rw_hatchwaits_k32_whole_two_houses_exchange.Holds := by
 w_on;o_law;k_head;(case hw=>w_witness2);k_fill;refine K32.walk (l:=PySem.Challenge.rw_hatchwaits_k32_whole_two_houses_exchange) rfl rfl (by first | rfl | kernel_rfl) (by intro w;first | kernel_rfl | with_unfolding_all rfl) (λw h Y=>PySem.W.km_in_of Y) ?F;case F =>
  intro w mg fa h KX G hmg
  apply K32.all_mk KX G hmg
  (case hnd0=>first | kernel_rfl | with_unfolding_all rfl)
  all_goals first | exact .of (by k_is) (by k_is) (by k_is) (by k_is) | k_is | kit_is | k_exc | rfl | decide | kernel_rfl | with_unfolding_all rfl
