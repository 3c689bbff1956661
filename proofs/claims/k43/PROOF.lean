import PyProof.Rows.All
import Wide.All
import OpenK.AllK
import Wide.FinOn
import Lean
import PyProof.EqAt
import PyProof.EqKinds
import PyProof.TupleCall
import PyProof.Rows.EqDataRows
import PyProof.Rows.InDataRows
import PyProof.StrLawsRepr
import PyProof.AutoListH
import PyProof.TupleKey
import PyProof.P3Eq
import PyProof.FString2
import PyProof.FactsAll.bool
import KE.KDictList
import PyProof.Rows.RuleB_bool
import KE.KDictOf
import PyProof.AttrMissHeap
import PySem.Challenge.RW_hatchwaits_k43_waits_by_work
set_option genInjectivity false in
set_option genSizeOf false in
local macro_rules|`(universe $i*)=>do return .node .none `null (← i.mapM λx=>do `(theorem $x:ident:True:=trivial))
namespace PySem.W.Fast
universe tw126955478329351996 tw7635222252726479916 tw8739499390786177473 tw7786324709749335369 tw4398790144481453665 tw3978422722475998567 tw15443365919327888521 tw17855378856136013953 tw8460387530391279915 tw14690718464847113374 tw3388251222070332242 tw17002805505137870384 tw10034514688305168048 tw1076694700508356175 tw6912762071481898499 tw12764705057083894823 tw8477535681660787271 tw5458135643908802412 tw17107304754624822563 tw9611106062031346513 tw3009617027548528200 tw14212506810716337873 tw10095565941546756311 tw14073550097835377035 tw15416254234770146586 tw15012752855334571455 tw9829109836572911013 tw16109750203687314546 tw11985283400303576895 tw13523851599696866770 tw3244993718383351177 tw16829984273773170641 tw13856491381108828960 tw8948660902966486227 tw9106338769144624217 tw8182543069084610385 tw15681239981835194253 tw8745050950794666380 tw7508950166455204528 tw5257125396473391317 tw3657322833234156050 tw924258788637337124 tw11826113045517273661 tw3146922102909807793 tw1233157543278195083 tw14373595653376241713 tw8147941404342387201 tw14531998319826177736 tw18401601509604895485 tw63910823397727509 tw4366760296881915264 tw9942717067857429454 tw2034330151262658132 tw2043430187247716151 tw14936172661766448946 tw12045830837260613927 tw2083296887754988963 tw6125624398996539135 tw11089588015135285772 tw6348297780286135922 tw7279279009152369906 tw406265089400809708 tw4454396082389511096 tw16455729036422710958 tw9295297806369545705 tw13040129687303733440 tw18003911954691585593 tw8229159570935844955 tw5712148827574857476 tw6639611690446853124 tw1450176703175702956 tw1955291336610057927 tw13618892305136284294 tw1732406473414398592 tw15094224378774348410 tw5447685052042887483 tw3110019826533089759 tw8442915642386756940 tw4673692812656230921 tw1744281054698712681 tw1098488776289275267 tw4282729652053467240 tw12572054844620255559 tw1578858343528091580 tw5889929590240003374 tw7516182687913062945 tw4181106353375219266 tw15943985314945508711 tw10767253548841433469 tw16911803173367392494 tw6801968792151365559 tw342165015232976199 tw15670695274728166840 tw88888961679589248 tw2954105152574427245 tw9492437711698647942 tw4891013245453981303 tw13184041876983211447 tw968295273134561107 tw17996072445267486032 tw2854228066514728412 tw12346507313120488264 tw17700239009123959634 tw16270984678926217442 tw14764509760267960577 tw14113781032440385844 tw8671704339824906326 tw10509676172048639433 tw12907428850711576302 tw7460545853299561390 tw12788565547624280862 tw4504860535759279565 tw3815697001156010170 tw16657341778145898979 tw3109756170484008477 tw7222870965037061385 tw17178835195543414195 tw17130919332628894052 tw5455434500704050474 tw2249676768490529422 tw15803325254151472577 tw11519091675191693763 tw2829242651136730563 tw13854445588681580503 tw9226785722981990707 tw13965530792224729440 tw18335125033970285674 tw13103476701584345490 tw5962664400551780087 tw10841873347988293796 tw12059227933690291070 tw10761976648366056121 tw10738316550036292907 tw17897790379904401613 tw5556898288819016572 tw12217801727367885969 tw12382227221564211516 tw10697182967567815033 tw18305072357927294635 tw8117292276015173190 tw3220605824412516359 tw8058260625827282969 tw5268713523379807138 tw6611898604763610929 tw17564432961455819493 tw7474712238283313930 tw2205507954629495969 tw13463149013074380266 tw1150640230394209196 tw16079421616998345462 tw14129588094361714125 tw10173216779700169524 tw9405166611962833864 tw9129983318967153438 tw14631866604802955988 tw14259356534034953288 tw15813695772189854516 tw9771925445730057971 tw1295982039264658905 tw17380412009137882303 tw5277902639426197926 tw1364406606915220483 tw2485294420662771752 tw887912084241602748 tw6785515815649567087 tw2160997115799836376 tw11996903772258670141 tw10583668610939464412 tw2231067584906347218 tw9672733634299649585 tw4883552390568875101 tw2936321086042430027 tw9956881326792732790 tw15646961131930395531 tw12129167968055321410 tw7450556331955109361 tw16655125567977942260 tw1575887544438100337 tw12540104090198175240 tw16707077814269985193 tw10132779982234690555 tw10940664139263527348 tw13025518140073274666 tw13735773244759826415 tw5714773836780862352 tw12394589144273797731 tw9263263074993317967 tw8281188730804362857 tw12964947690035543415 tw14181548341212299960 tw9126171493231466922 tw2956535268989232566 tw10242240576903462316 tw4734735889732326009 tw8172694514579565653 tw12929672800104374109 tw14450200273052035248 tw4600532245950140958 tw8264817089388644663 tw15348636849949039376 tw328765613841904534 tw16901420421462390378 tw10415405056330947146 tw14391713368763990474
end PySem.W.Fast
abbrev Qf:=PySem.W.Frag
open PySem renaming PyData->CD,Value->My,Addr->QN,Shared->QO,Program->QP,World->QQ,Around->QR,Scope->QS,FuncData->QT,Stmt->QU,Expr->QV,Heap->QW,sizeLine->QX,starEach->QY,Obj->QZ,Env->Ra,backTo->Rb,Keyword->Rc,wpAny->Re,mainGlobals->Rf,swapsWith->Rg,attributeBase->Rh,bootBuiltins->Ri,foldedSetIterable->Rj,assignEach->Rk,cLine->Rl,NameKind->Ro,backToKw->Rp,keywordEach->Rq
open PyProof.Rows renaming Keyed->Rn
set_option linter.defProp false
set_option bootstrap.genMatcherCode false
set_option compiler.extract_closed false
noncomputable section
local macro_rules|`(tactic|walk_at "j")=>`(tactic|first|assumption|exact Nat.zero_le _|exact Nat.le_refl _|exact Nat.le_of_lt (by assumption)|exact Nat.succ_pos _|exact Nat.lt_succ_self _|exact Nat.le_succ _|exact Nat.lt_succ_of_le (by assumption)|exact Nat.lt_succ_of_lt (by assumption)|exact Nat.le_succ_of_le (by assumption)|exact Nat.le_trans (by assumption) (by assumption)|exact Nat.lt_of_lt_of_le (by assumption) (by assumption)|exact Nat.lt_of_le_of_lt (by assumption) (by assumption)|exact Int.le_of_lt (by assumption)|exact Int.le_trans (by assumption) (by assumption)|decide|simp)
local macro_rules|`(def $i:declId $s:optDeclSig $v:declVal)=>`(noncomputable def $i:declId $s:optDeclSig $v:declVal)
theorem eS0 (h:True:=by rfl):True:=h
abbrev eS:=eS0._auto_1
theorem gC0 (h:True:=by decide):True:=h
abbrev gC:=gC0._auto_1
theorem gV0 (h:True:=by walk_at "v"):True:=h
abbrev gV:=gV0._auto_1
theorem kA0 (h:True:=by first | exact Or.inl rfl | exact Or.inr (Or.inl rfl) | exact Or.inr<|Or.inr rfl):True:=h
abbrev kA:=kA0._auto_1
theorem qAk0 (h:True:=by intro _;rfl):True:=h
abbrev qAk:=qAk0._auto_1
theorem qAl0 (h:True:=by exact {}):True:=h
abbrev qAl:=qAl0._auto_1
theorem qAm0 (h:True:=by intro _ _ _ _ _ _ us hl;first | (cases len_0 hl;rfl) | (let(z0,rfl):=xc hl;rfl) | (let(z0,z1,rfl):=wU hl;rfl) | (let(z0,z1,z2,rfl):=wd hl;rfl) | (let(z0,z1,z2,z3,rfl):=zr hl;rfl)):True:=h
abbrev qAm:=qAm0._auto_1
local macro_rules|`(tactic|let($x,$xs,*):=$e)=>do `(tactic|obtain⟨$(← (#[x]++xs.getElems).mapM λt=>match t with|`(_)=>`(Lean.Parser.Tactic.rcasesPatLo|_)|`($i:ident)=>`(Lean.Parser.Tactic.rcasesPatLo|$i:ident)|_=>Lean.Macro.throwUnsupported),*⟩:=$e)
local macro_rules|`(~~~$s)=>`(($s).heap.objs.size)
local macro_rules|`(‹$t›)=>`(autoParam $t eS)
local macro_rules|`(#v[$a,*])=>`(⟨$a,*⟩)
def iD:=@PySem.wpAny_bind
def iO:=@PySem.wpAny_pure
def jI:=@List.length_map
def jM:=@PySem.Heap.get?_push_of_some
def kN:=@List.mem_cons_of_mem
def kX:=@List.map_cons
def ll:=@List.mem_cons_self
def nY:=@if_pos
def oj:=@if_neg
def ou:=@PySem.Heap.get?_push_size
def oZ:=@List.mem_cons
def pz:=@PySem.Heap.lt_size
def pG:=@List.getElem?_eq_some_iff
def qD:=@Nat.le_refl
def qK:=@List.getElem?_eq_getElem
def qN:=@List.length_cons
def rn:=@Option.some.inj
def sq:=@List.getElem?_map
def sv:=@List.getElem?_set_ne
def sA:=@Option.map_eq_some_iff
def sJ:=@List.map_map
def sP:=@List.getElem?_set_self
def tG:=@List.size_toArray
def tN:=@Bool.false_ne_true
def tV:=@Option.bind_some
def ue:=@List.mem_map
def uj:=@Nat.le_trans
def uu:=@Nat.ne_of_lt
def uz:=@Nat.lt_of_lt_of_le
def uE:=@List.getD_eq_getElem?_getD
def uO:=@List.mem_append_right
def uP:=@List.mem_of_getElem?
def xn:=@Bool.false_eq_true
def xp:=@List.mem_singleton
def xq:=@decide_eq_true
def xr:=@Nat.lt_of_le_of_lt
def xw:=@PySem.wpAny_call_entry
def xy:=@List.length_append
def xB:=@List.length_range
def xD:=@PySem.sizeLine_eq
def xI:=@PySem.wpAny_newObj_type
def xM:=@List.mem_filter
def xN:=@List.pairwise_cons
def xO:=@of_decide_eq_true
def xW:=@PySem.wpAny_callSpecial?_slot
def yb:=@decide_eq_false
def yo:=@Nat.zero_add
def yx:=@List.map_append
def yz:=@if_false
def yB:=@Int.toNat_natCast
def yH:=@List.lookup_cons
def yI:=@PySem.mem_of_lookup
def yS:=@List.cons_append
def yT:=@List.find?_cons_of_pos
def zb:=@List.find?_cons_of_neg
def zd:=@PySem.F.slot_dict_itemiterator_next
def zj:=@List.mem_append
def zq:=@Array.length_toList
def zF:=@PySem.wpAny_field
def zS:=@Array.getElem?_toList
def zY:=@List.nil_append
def Ak:=@PySem.wpAny_holding
def Am:=@List.append_nil
def As:=@List.length_set
def AS:=@Nat.ne_of_gt
def AW:=@PySem.Heap.size_push
def AZ:=@congrArg
def Bc:=@if_true
def Be:=@PyProof.Rows.slot_tuple_getitem
def Bi:=@List.drop_eq_getElem_cons
def Bl:=@Nat.lt_irrefl
def Bo:=@List.length_filter_le
def Bp:=@List.length_take
def Br:=@List.map_congr_left
def Cc:=@Option.isSome_iff_exists
def Cq:=@List.map_nil
def CP:=@List.sum_cons
def CQ:=@PyProof.Rows.wpS_bind
def CW:=@Nat.zero_le
def CZ:=@List.length_replicate
def Dg:=@PySem.wpAny_setField_rec
def Dp:=@PySem.wpAny_mono
def Dy:=@Nat.add_le_add_left
def DG:=@PySem.Heap.SameBut.update
def DL:=@PySem.wpAny_typeNameOfWhole_itemiter
def DN:=@Int.natAbs_natCast
def DO:=@Ne.symm
def Ee:=@List.length_nil
def Ej:=@PySem.wpAny_seqItems
def Ek:=@PySem.SeqAt.canLay_of_shaped
def En:=@PySem.Heap.get?_update_other
def Ep:=@List.getElem?_eq_none
def Eu:=@PySem.F.slot_zip_next
def ED:=@List.take_add_one
def EE:=@PySem.wpAny_dictEntries
def EF:=@List.getElem?_eq_none_iff
def EL:=@List.getElem?_append_left
def EO:=@List.getElem?_zip_eq_some
def ES:=@Nat.pow_le_pow_right
def Fc:=@PySem.wpAny_typeNameOf_itemiter
def Ff:=@List.take_of_length_le
def Fg:=@Int.le_refl
def Fo:=@List.zip_cons_cons
def Fq:=@PySem.wpAny_attempt
def Ft:=@List.replicate_succ
def Fw:=@PyProof.Rows.callWith_type1
def FC:=@PySem.Heap.get?_update_self
def FJ:=@Nat.lt_succ_of_lt
def FL:=@List.getElem?_append_right
def FY:=@List.nodup_cons
def Ge:=@PySem.F.slot_dict_valueiterator_next
def Gs:=@Nat.lt_succ_self
def Gv:=@PyProof.Rows.wpS_pure
def Gw:=@List.filter_cons
def HM:=@List.mem_map_of_mem
def HP:=@PySem.F.slot_dict_keyiterator_next
def HR:=@PySem.wpAny_dictEpoch
def Ig:=@of_decide_eq_false
def Ih:=@List.filter_append
def Ii:=@List.getElem_mem
def Il:=@List.take_length
def Im:=@PySem.Around.under_plainId
def Ir:=@Nat.le_of_lt
def Iw:=@List.mem_range
def IB:=@List.pairwise_map
def IE:=@List.getElem?_range
def IS:=@PySem.codeAny_builtin
def IU:=@Array.getElem?_eq_getElem
def Ja:=@PySem.F.args_dict_itemiterator_next_1
def Jg:=@PySem.Calls.spliced_cons
def Jz:=@Bool.and_eq_true
def JG:=@List.all_eq_true
def JP:=@PyProof.Rows.Reads.keeps
def JQ:=@PySem.F.entry_dict_itemiterator_next
def JV:=@PySem.wpAny_rule
def Ka:=@List.mapM_cons
def Kf:=@List.length_eq_zero_iff
def Kl:=@PySem.wpAny_truthy_bool
def Kr:=@List.foldl_cons
def Kx:=@List.filter_sublist
def KB:=@PySem.Calls.callWith_builtin
def KD:=@Nat.le_succ
def KO:=@PySem.wpAny_isOneOf_itemiter
def KR:=@Nat.le_of_dvd
def KS:=@PySem.plainId_quiet
def KY:=@PySem.wpAny_isInstance
def KZ:=@PySem.F.slot_tuple_iterator_next
def Ld:=@PySem.wpAny_pyIter_tuple
def Le:=@List.pairwise_iff_getElem
def Lm:=@PySem.F.plain_extend_loop
def Lo:=@List.find?_cons
def Lp:=@List.flatten_cons
def Lq:=@PySem.Paired.length
def Lr:=@PySem.wpAny_typeNameOfWhole_keyiter
def Ls:=@PySem.wpAny_typeNameOfWhole_valiter
def Ly:=@List.getElem?_replicate
def LG:=@PySem.F.args_zip_next_1
def LS:=@PySem.F.plainAttrs_dict
def Md:=@List.filter_cons_of_pos
def Me:=@beq_eq_false_iff_ne
def Mw:=@List.filterMap_cons
def Mx:=@List.getElem_map
def MC:=@PySem.wpAny_fieldsOf
def MH:=@PySem.wpAny_setField
def MK:=@List.not_mem_nil
def Nj:=@PySem.wpAny_letGo
def Nm:=@PySem.F.entry_zip_next
def Nn:=@List.drop_of_length_le
def Np:=@PySem.wpAny_Call_Name_kw
def Nq:=@PySem.wpAny_typeOf
def Nr:=@Option.isSome_some
def Nt:=@Array.forIn_toList
def Nu:=@PySem.Obj.data_mapFields
def Nv:=@PySem.wpAny_passesOwn
def Nw:=@Option.map_some
def Nx:=@Nat.not_lt_zero
def Ny:=@List.getElem?_toArray
def Nz:=@Classical.choose_spec
def NA:=@List.sizeOf_lt_of_mem
def NB:=@PyProof.Rows.listUpdate_at
def NC:=@List.nodup_iff_pairwise_ne
def ND:=@List.reverse_cons
def NF:=@Option.isSome_map
def NG:=@PySem.Heap.get?_push_ne
def NH:=@decide_eq_true_eq
def NI:=@PySem.wpAny_typeNameOf_keyiter
def NJ:=@PySem.AutoSeq1.sub_tuple_tuple
def NK:=@PySem.wpAny_typeNameOf_valiter
def NL:=@PySem.F.plain_max_loop
def NM:=@List.length_pos_iff
def NO:=@List.filter_cons_of_neg
def NP:=@Bool.not_true
def NQ:=@PySem.call_meets
def NR:=@PySem.wpAny_specialOf
def NS:=@PyProof.Rows.get?_update_seq
def NT:=@beq_false_of_ne
def NU:=@PySem.wpAny_updateSeq
def NV:=@List.mem_replicate
def NW:=@PySem.W.cellsFrom_some
def NX:=@Array.getElem?_eq_none
def NY:=@PySem.Calls.spliced_nil
def NZ:=@List.append_assoc
def Oa:=@List.mapM_toArray
def Ob:=@PySem.wpAny_newTuple
def Oc:=@PySem.F.slot_dict_get
def Od:=@PySem.isSubtype_stop
def Oe:=@PySem.wpAny_tryCatch
def Of:=@List.mem_append_left
def Og:=@List.getElem_inj
def Oh:=@PySem.Calls.evalArgs_plain
def Oi:=@PySem.Heap.size_update
def Oj:=@PySem.wpAny_callSpecialIfBoundUnlessNone?_slot
def Ol:=@PySem.F.slot_tuple_mul
def Om:=@decide_eq_decide
def On:=@beq_self_eq_true
def Oo:=@PySem.W.mg_of
def Oq:=@PySem.wpAny_newList
def Os:=@Int.mul_assoc
def Ot:=@decide_true
def Ou:=@PySem.F.args_dict_valueiterator_next_1
def Ov:=@Bool.eq_iff_iff
def Ow:=@List.of_mem_zip
def Ox:=@List.forIn_cons
def Oy:=@PySem.Calls.call_function_entry
def Oz:=@PySem.F.entry_dict_valueiterator_next
def OA:=@List.mem_filterMap
def OB:=@PySem.F.args_tuple_add_2
def OC:=@Nat.lt_trans
def OD:=@PySem.codeAny_mono
def OE:=@Int.lt_or_eq_of_le
def OF:=@PyProof.Rows.wpS_forRange
def OG:=@PyProof.Rows.listItems_at
def OH:=@List.getElem_range
def OI:=@PySem.F.args_dict_keyiterator_next_1
def OJ:=@PySem.F.slot_str_getitem
def OL:=@Int.emod_lt_of_pos
def OM:=@Int.mul_comm
def OO:=@List.forIn_nil
def OP:=@List.nodup_nil
def OQ:=@PySem.F.entry_dict_keyiterator_next
def OR:=@PySem.F.slot_dict_itemiterator_iter
def OS:=@PySem.F.entry_tuple_add
def OT:=@PySem.AutoSeq1.sub_tuple_list
def OU:=@PySem.AutoSeq1.sub_list_tuple
def OV:=@PySem.F.plainAttrs_list
def OW:=@PySem.F.slot_dict_items
def OX:=@PySem.wpAny_Call_method0_late
def OY:=@PySem.F.slot_zip_getattribute
def OZ:=@Nat.le_mul_of_pos_right
def Pa:=@PySem.F.slot_tuple_hash
def Pb:=@PySem.wpAny_pyIter_slot
def Pc:=@Option.some.injEq
def Pd:=@PySem.F.args_tuple_iterator_next_1
def Pe:=@Int.gcd_dvd_right
def Pf:=@List.nodup_append
def Pg:=@List.foldl_append
def Ph:=@PySem.F.slot_tuple_add
def Pi:=@PySem.wpAny_Assign_Subscript
def Pj:=@PySem.wpAny_of_eq
def Pk:=@PySem.AutoSeq1.sub_list_list
def Pl:=@PySem.F.entry_tuple_iterator_next
def Pm:=@PySem.intItems_at
def Po:=@List.any_cons
def Pp:=@Nat.add_assoc
def Pq:=@PySem.wpAny_handled
def Pr:=@List.cons.inj
def Pt:=@PySem.wpAny_forIn_list
def Pu:=@PySem.F.slot_bool_hash
def Pw:=@PyProof.Rows.IsTup.new
def Px:=@PySem.wpAny_notOrdered_dict
def Py:=@PySem.Obj.isFreed_of_fields
def Pz:=@PySem.wpAny_isOneOf_valiter
def PB:=@PySem.wpAny_execs_nil
def PD:=@PySem.Around.frames_deeper
def PF:=@PySem.typeIs_str
def PH:=@PySem.F.slot_int_rmul
def PJ:=@decide_false
def PL:=@Nat.sub_zero
def PN:=@PyProof.Rows.pairsOf_size
def PP:=@PySem.wpAny_ite_false
def PQ:=@Int.emod_nonneg
def PR:=@PySem.wpAny_updateSeq_pair
def PU:=@List.filter_nil
def PX:=@List.filter_map
def PY:=@PySem.F.slot_dict_values_iter
def PZ:=@List.length_reverse
def Qa:=@PySem.evalArgs_none
def Qb:=@Array.size_map
def Qc:=@or_false
def Qd:=@Int.gcd_pos_of_ne_zero_right
def Qe:=@List.drop_zero
def Qg:=@PySem.F.slot_dict_items_iter
def Qh:=@Nat.log2_lt
def Qi:=@PySem.wpAny_throw
def Qj:=@PySem.Heap.IsSliceOf.new
def Qk:=@PySem.wpAny_tupleItemsOf
def Ql:=@PySem.F.args_tuple_mul_2
def Qm:=@List.set_cons_succ
def Qn:=@Nat.lt_of_le_of_ne
def Qo:=@PySem.wpAny_standAt
def Qp:=@Int.fdiv_eq_ediv_of_nonneg
def Qq:=@PySem.wpAny_onRaise
def Qr:=@List.perm_ext_iff_of_nodup
def Qt:=@bne_self_eq_false
def Qu:=@Nat.le_of_lt_succ
def Qv:=@Prod.ext
def Qw:=@List.length_drop
def Qx:=@Option.getD_none
def Qy:=@Nat.mul_comm
def Qz:=@List.all_toArray
def QA:=@List.drop_length
def QB:=@Nat.lt_or_ge
def QC:=@map_eq_pure_bind
def QD:=@Nat.gcd_comm
def QE:=@Int.gcd_dvd_left
def QF:=@Rat.mkRat_eq_iff
def QG:=@Nat.le_add_right
def QI:=@Int.natCast_ediv
def QJ:=@List.length_zip
def QK:=@Int.le_antisymm
def QL:=@Int.natCast_mul
def QM:=@List.sum_append
def bS9 {f:α->Option β}(h:x.bind f=some b):∃a,x=some a/\f a=some b:=Option.bind_eq_some_iff.1 h
set_option Elab.async false
set_option linter.all false
set_option maxRecDepth 100000
abbrev nDb:=λx:PySem.Str=>(x == ("__debug__":PySem.Str))=false
abbrev nCd:=λx:PySem.Str=>(x == ("__classdict__":PySem.Str))=false
set_option hygiene false
local macro_rules | `(tactic| walk_at "v")=>`(tactic| first | exact Or.inl rfl | exact Or.inr rfl | exact Or.inr (Or.inl rfl) | exact Or.inr (Or.inr rfl) | assumption)
local macro_rules | `(tactic| walk_at "kb")=>`(tactic| (split at e;case isFalse=>cases e))
local macro_rules | `(tactic| walk_at "ka")=>`(tactic| (dsimp only[t9,kX,Cq,qN,Ee,List.replicate,yS,zY,Nat.reduceAdd,Nat.reduceSub]))
set_option hygiene true
namespace L2
open PySem PySem.Spec PyProof.Rows
section
abbrev Key :=Sum Int Str
def jV:Key->My->Bool
 | .inl k,v=>My.isInt k v
 | .inr x,v=>My.isStrOf x v
def Ng (w:QQ):Key->Int
 | .inl k=>hashInt k
 | .inr x=>hashStr w x
theorem y9:∀{k} {v},jV k v=true->(∃i t,k=Sum.inl i/\v=My.int i t)\/(∃x t,k=Sum.inr x/\v=My.str x t)
 | .inl i,v,h=>by
  let(t,e):=My.isInt_shape h;exact .inl #v[i,t,rfl,e]
 | .inr x,v,h=>by let(t,e):=My.isStrOf_shape h;exact .inr #v[x,t,rfl,e]
def JF (a b):decide ((Sum.inl a:Key)=Sum.inl b)=(a == b):=by
 by_cases e:a=b
 .subst e;simp
 .rw[yb (λq=>e<|Sum.inl.inj q) ];exact(Me.2 e).symm
def IX (a b):decide ((Sum.inr a:Key)=Sum.inr b)=decide (a=b):=by
 by_cases e:a=b
 .subst e;simp
 .rw[yb (λq=>e<|Sum.inr.inj q),yb e]
def Jb (a) (b):decide ((Sum.inl a:Key)=Sum.inr b)=false:=yb (λq=>nomatch q)
def HW (a) (b):decide ((Sum.inr a:Key)=Sum.inl b)=false:=yb (λq=>nomatch q)
def t6 (prog) (w):PySem.KeyKind prog w Key where
 is:=jV
 hash:=Ng w
 inj:=λv a b l f=>by
  rcases y9 l with ⟨i,t,rfl,rfl⟩ | ⟨x,t,rfl,rfl⟩
  .rcases y9 f with ⟨j,u,rfl,e⟩ | ⟨y,u,rfl,e⟩
   .injection e with c _;rw[c]
   .exact nomatch e
  .rcases y9 f with ⟨j,u,rfl,e⟩ | ⟨y,u,rfl,e⟩
   .exact nomatch e
   .injection e with c _;rw[c]
 byValue:=λk v h=>by rcases y9 h with ⟨i,t,rfl,rfl⟩ | ⟨x,t,rfl,rfl⟩ <;> rfl
 pyHash:=λd h=>by
  rcases y9 d with ⟨i,t,rfl,rfl⟩ | ⟨x,t,rfl,rfl⟩
  .exact wpAny_pyHash_int h
  .exact wpAny_pyHash_str h
 eqBool:=λg d h=>by
  rcases y9 g with ⟨i,t,rfl,rfl⟩ | ⟨x,t,rfl,rfl⟩
  .rcases y9 d with ⟨j,u,rfl,rfl⟩ | ⟨y,u,rfl,rfl⟩
   .rw[JF]at h;exact wpAny_eqBool_int h
   .rw[Jb]at h;exact SeqAt.EqAt.int_str i t y u _ _ _ _ h
  .rcases y9 d with ⟨j,u,rfl,rfl⟩ | ⟨y,u,rfl,rfl⟩
   .rw[HW]at h;exact SeqAt.EqAt.str_int x t j u _ _ _ _ h
   .rw[IX]at h;exact wpAny_eqBool_str h
 «strs»:=λk x t v h=>by
  rcases y9 h with ⟨i,u,rfl,e⟩ | ⟨y,u,rfl,e⟩
  .exact nomatch e
  .injection e with c _
   subst c;cases v <;> rfl
end

section
inductive V where
 | non | bl (b:Bool) | int (i:Int) | str (x:Str) | byt (b:Array UInt8) | flt (b:UInt64) | ref (a:QN) | ty (n:String)
 deriving DecidableEq
def l4:V->My->Prop
 | .non,u=>u=My.none
 | .bl b,u=>u=My.bool b
 | .int i,u=>∃t,u=My.int i t
 | .str x,u=>∃t,u=My.str x t
 | .byt b,u=>∃t,u=My.bytes b t
 | .flt b,u=>∃t,u=My.float b t
 | .ref a,u=>u=My.ref a
 | .ty n,u=>u=My.type n
abbrev k8 :List V->List My->Prop:=Paired l4
def k8.length (r:k8 xs us):xs.length=us.length:=Lq r
theorem k8.get:∀{xs} {us} {i:Nat} {x},k8 xs us->xs[i]? = some x->∃u,us[i]? = some u/\l4 x u
 | _,_,_,_,.nil,e=>by simp at e
 | _,_,0,_,.cons r _,e=>by simp at e;subst e;exact#v[_,rfl,r]
 | _,_,i+1,x,.cons _ t,e=>by let(u,b,a):=k8.get t (by simpa using e);exact#v[u,by simpa using b,a]
theorem k8.set (r:l4 x u):∀{xs} {us} i,k8 xs us->k8 (xs.set i x) (us.set i u)
 | _,_,_,.nil=>.nil
 | _,_,0,.cons _ t=>.cons r t
 | _,_,i+1,.cons q t=>.cons q<|k8.set r i t
theorem k8.append:∀{xs ys} {us ws},k8 xs us->k8 ys ws->k8 (xs++ys) (us++ws)
 | _,_,_,_,.nil,s=>s
 | _,_,_,_,.cons r t,s=>.cons r<|k8.append t s
theorem k8.take:∀{xs} {us} n,k8 xs us->k8 (xs.take n) (us.take n)
 | _,_,0,_=>.nil
 | _,_,_+1,.nil=>.nil
 | _,_,n+1,.cons r t=>.cons r<|k8.take n t
theorem k8.drop:∀{xs} {us} n,k8 xs us->k8 (xs.drop n) (us.drop n)
 | _,_,0,r=>r
 | _,_,_+1,.nil=>.nil
 | _,_,n+1,.cons _ t=>k8.drop n t
def k8.none_of :∀{xs} {us} {i:Nat},k8 xs us->xs[i]? = none->us[i]? = none:=λ{xs us i} r e=>by have b:=r.length;have a:=EF.1 e;exact EF.2 (by lia)
def fU:Option V->Option My->Prop
 | some v,some u=>l4 v u
 | none,none=>True
 | _,_=>False
def KV :List (κ×V)->List (κ×My)->Prop:=Paired λp q=>p.1=q.1/\l4 p.2 q.2
def kV:Key->V
 | .inl i=>.int i
 | .inr x=>.str x
inductive HO where
  | lst (xs:List V)
  | tup (xs:List V)
  | dK (d3:List (Key×V)) | dT (d3:List (List Key×V))
  | set (S:Int->Bool) (n:Nat)
  | ins (C dx:QN) (fs:List (Str×V))
  | own (x:QN)
  | xd (fs:List (Str×V))
  | met (f x:QN)
  | rng (lo hi:Int)
  | frz (o:QZ) (u:HO)
  | tbl (ps:Array My)
  | ext (φ:QW->Prop)
abbrev Hp :=QN->Option HO
def upd (H:Hp)(a:QN)(o:HO):Hp:=λb=>if b=a then some o else H b
def i3 :upd H a o a=some o:=by unfold upd;rw[nY rfl]
def h7 (h:b≠a):upd H a o b=H b:=by unfold upd;rw[oj h]
def mS :upd (upd H a o) a u=upd H a u:=by funext b;unfold upd;split <;> rfl
def Gz {H:Hp}(h:H a=some o)(h':H b=some u)(d:o≠u):a≠b:=by intro e;subst e;rw[h]at h';exact d<|rn h'
def k9 {H:Hp}(h:H a=some o)(h':H b=none):a≠b:=by intro e;subst e;rw[h]at h';cases h'
def NDc (h:QW)(a:QN):Prop:=∀o,h.get? a=some o->o.dict=none
def NDc.mk (e:h.get? a=some o)(d:o.dict=none):NDc h a:=λu z=>by rw[e]at z;cases z;exact d
def NDc.stay (d:NDc h a)(e:h.get? a=some o)(e':h'.get? a=some o):NDc h' a:=.mk e'<|d o e
section
variable (P:QP)(w:QQ)
def x5 (H:Hp)(h:QW)(a:QN):HO->Prop
 | .lst c=>c.length<=QX/\∃(b:List My) (n:Nat),k8 c b/\h.get? a=some { cls:=.type "list",data:=.seq b.toArray n }
 | .tup c=>c.length<=QX/\∃b,k8 c b/\IsTup h a b.toArray/\NDc h a
 | .dK d3=>d3.length<=QX/\(a == sysModules)=false/\∃g,KV d3 g/\h.DictOf (t6 P w) a g
 | .dT d3=>d3.length<=QX/\(a == sysModules)=false/\∃c,
   Paired (λp q=>p.1=q.1/\H q.2.1=some (.tup<|p.1.map kV)/\l4 p.2 q.2.2) d3 c /\
   ∃o k l,h.get? a=some o/\o.ExactDict/\o.data = .dict k l/\k.toList=c.map (entryOfKey<|tupleKind<|t6 P w)/\(c.map (·.1)).Nodup
 | .set S n=>h.SetOf (intKind P w) a S n
 | .ins C dx fs=>H dx=some (.own a)/\fs.length<=1000/\dx≠a/\h.get? a=some (PySem.W.instObj C dx) /\
   ∃d,h.Ns1 dx d/\(∀f,fU (fs.lookup f)<|d f)/\PySem.Within d (fs.map (·.1))
 | .own _=>∃o,h.get? a=some o
 | .xd fs=>∃d,h.Ns1 a d/\∀f,fU (fs.lookup f)<|d f
 | .rng lo hi=>∃t u v,h.get? a=some { cls:=.type "range",data:=.fields #[.int lo t,.int hi u,.int 1 v] }
 | .frz o u=>h.get? a=some o/\x5 H h a u
 | .tbl ps=>h.get? a=some { cls:=.none,data:=.fields ps }
 | .met f x=>h.get? a=some (PySem.W.methodObj (.ref f)<|.ref x)
 | .ext e=>e h/\(∃o,h.get? a=some o)/\∀j i,e j->(∀o,j.get? a=some o->i.get? a=some o)->e i
def HOk (H:Hp)(h:QW):Prop:=∀a o,H a=some o->x5 P w H h a o
end
section
variable {a:QN}
def x5.lt (x:x5 P w H h a o):a<h.objs.size:=by
 cases o with
 | lst c=>let(_,_,_,_,e):=x;exact pz e
 | tup c=>let(_,_,_,p,_):=x;exact p.lt
 | dK b=>let(_,_,_,_,o,_,_,e,_):=x;exact pz e
 | dT b=>let(_,_,_,_,o,_,_,e,_):=x;exact pz e
 | set S n=>let(o,_,_,_,e,_):=x;exact pz e
 | ins C l fs=>let(_,_,_,e,_):=x;exact pz e
 | own y=>let(_,e):=x;exact pz e
 | xd fs=>obtain⟨_,⟨_,_,_,e,_⟩,_⟩:=x;exact pz e
 | rng j k=>let(_,_,_,e):=x;exact pz e
 | frz i u=>let(e,_):=x;exact pz e
 | tbl g=>exact pz (x)
 | met f y=>exact pz (x)
 | ext d=>obtain⟨_,⟨_,e⟩,_⟩:=x;exact pz e
theorem Paired.mapP :∀{l₁:List α} {l₂:List β},Paired F l₁ l₂->(∀a b,F a b->G a b)->Paired G l₁ l₂
 | _,_,.nil,_=>.nil
 | _,_,.cons r t,f=>.cons (f _ _ r)<|Paired.mapP t f
def x5.stay (x:x5 P w H h a o)(k:∀b u,(b=a\/H b=some (.own a))->h.get? b=some u->h'.get? b=some u)
  (ho:∀b,H b=some (.own a)->H' b=some (.own a)) (ht:∀b xs,H b=some (.tup xs)->H' b=some (.tup xs)):x5 P w H' h' a o:=by
 induction o with
 | lst xs=>let(z,l,n,r,e):=x;exact#v[z,l,n,r,k _ _ (.inl rfl) e]
 | tup xs=>obtain⟨z,l,r,⟨g,e,c⟩,d⟩:=x;exact#v[z,l,r,#v[g,k _ _ (.inl rfl) e,c],d.stay e<|k _ _ (.inl rfl) e]
 | dK A=>let(z,y,D,r,g,i,j,e,c):=x;exact#v[z,y,D,r,g,i,j,k _ _ (.inl rfl) e,c]
 | dT A =>let(z,y,xs,r,g,i,j,e,c):=x;exact#v[z,y,xs,Paired.mapP r λp q z=>#v[z.1,ht _ _ z.2.1,z.2.2],g,i,j,k _ _ (.inl rfl) e,c]
 | set S n=>let(g,i,j,t,e,c):=x;exact#v[g,i,j,t,k _ _ (.inl rfl) e,c]
 | ins C L fs =>obtain⟨d,z,E,e,s,⟨m,i,j,G,c⟩,r⟩:=x;exact#v[ho _ d,z,E,k _ _ (.inl rfl) e,s,#v[m,i,j,k _ _ (.inr d) G,c],r]
 | own y=>let(g,e):=x;exact#v[g,k _ _ (.inl rfl) e]
 | xd fs=>obtain⟨s,⟨m,i,j,e,c⟩,r⟩:=x;exact#v[s,#v[m,i,j,k _ _ (.inl rfl) e,c],r]
 | rng J K=>let(t,u,v,e):=x;exact#v[t,u,v,k _ _ (.inl rfl) e]
 | frz g u F=>let(e,q):=x;exact#v[k _ _ (.inl rfl) e,F q]
 | tbl B =>exact k a _ (.inl rfl) x
 | met f y =>exact k a _ (.inl rfl) x
 | ext I=>obtain⟨p,⟨o,e⟩,st⟩:=x;exact#v[st _ _ p λo q=>k _ _ (.inl rfl) q,#v[o,k _ _ (.inl rfl) e],st]
def HOk.lt (x:HOk P w H h)(e:H a=some o):a<h.objs.size:=(x a o e).lt
def HOk.fresh (x:HOk P w H h)(e:h.objs.size<=a):H a=none:=by
 cases q:H a with
 | none=>rfl
 | some u=>exact absurd (uz (x.lt q) e)<|Bl _
def HOk.kept (x:HOk P w H h)(k:∀b u,h.get? b=some u->h'.get? b=some u):HOk P w H h':=λa o e =>
 (x a o e).stay (λb u _ q=>k b u q) (λ_ q=>q) λ_ _ q=>q
def HOk.laid (x:HOk P w H h)(k:∀b u,h.get? b=some u->h'.get? b=some u)(hp:h.objs.size<=a)(new:x5 P w (upd H a o) h' a o):HOk P w (upd H a o) h':=λb u e=>by
 have d:=x.fresh hp;by_cases f:b=a
 .subst f;rw[i3]at e;cases e;exact new
 .rw[h7 f]at e;exact(x b u e).stay (λc v _ q=>k c v q) (λc q=>by rwa[h7<|k9 q d]) λc g q=>by rwa[h7<|k9 q d]
end
def Rd (H:Hp)(a:QN)(u:HO):Prop:=H a=some u\/∃o,H a=some (.frz o u)
def Rd.ok (r:Rd H a u)(x:HOk P w H h):x5 P w H h a u:=by
 rcases r with r | ⟨o,r⟩
 .exact x a u r
 .let(_,q):=x a _ r;exact q
def Mut:Option HO->Prop
 | some (.lst _)=>True
 | some (.dK _)=>True
 | some (.dT _)=>True
 | some (.set _ _)=>True
 | some (.ins _ _ _)=>True
 | some (.ext _)=>True
 | _=>False
section

def HOk.write (ok:HOk P w H h)(mu:Mut (H x))(he:e=x\/H e=some (.own x))(k:∀b u,b≠e->h.get? b=some u->h'.get? b=some u)(heo:∃u,h'.get? e=some u)
  (new:x5 P w (upd H x o') h' x o'):HOk P w (upd H x o') h':=λb u q=>by
 have d:∀c y,H c=some (.own y)->c≠x:=λc y r z=>by subst z;rwa[r]at mu
 by_cases j:b=x
 .subst j;rw[i3]at q;cases q;exact new
 .rw[h7 j]at q;by_cases a:b=e
  .have l:H b=some (.own x):=by
    rcases he with z | z
    .exact absurd (a.trans z) j
    . rwa[a]
   rw[q]at l;cases l;let(v,m):=heo;exact#v[v,by rwa[a]]
  .refine(ok b u q).stay (λc v i r=>k c v ?_ r) (λc r=>by rwa[h7<|d c b r]) λc g r=>by rwa[h7<|(λc g r z=>by subst z;rw[r]at mu;exact mu) c g r]
   rcases i with rfl | i
   .exact a
   .rintro rfl;rcases he with z | z
    .exact d c b i z
    .rw[i]at z;cases z;exact j rfl
end
structure Un (fs ex:List QN) (H H':Hp) (h h':QW):Prop where
 keep:∀b o,h.get? b=some o->H b=none->b ∉ fs->b ∉ ex->h'.get? b=some o
 slot:∀b o,h.get? b=some o->H b=none->b∈fs->b ∉ ex->∃sl,h'.get? b=some { o with slots:=sl }
 free:∀b o,h.get? b=some o->H b=none->b ∉ ex->H' b=none
 there:∀b o,h.get? b=some o->b ∉ ex->∃o',h'.get? b=some o'
 tups:∀b xs,H b=some (.tup xs)->H' b=some (.tup xs)
 frzs:∀b o u,H b=some (.frz o u)->H' b=some (.frz o u)
 tbls:∀b ps,H b=some (.tbl ps)->∃more,H' b=some (.tbl<|ps++more)
section
variable {h:QW}{a:QN}
def Un.any (u:Un fs ex H H1 h h1)(q:h.get? b=some ob)(n:H b=none)(hx:b ∉ ex):∃sl,h1.get? b=some { ob with slots:=sl }:=by
 by_cases a:b∈fs
 .exact u.slot b ob q n a hx
 .exact#v[ob.slots,u.keep b ob q n a hx]
def Un.kept (k:∀b u,h.get? b=some u->h'.get? b=some u):Un fs ex H H h h' :=
 #v[λb a q _ _ _=>k b a q,λb a q _ _ _=>#v[a.slots,k b a q],λ_ _ _ n _=>n,λb a q _=>#v[a,k b a q],λ_ _ q=>q,λ_ _ _ q=>q,λ_ c q=>#v[#[],by rw[q];simp]]
def Un.refl :Un fs ex H H h h:=Un.kept λ_ _ q=>q
def Un.laid (k:∀b u,h.get? b=some u->h'.get? b=some u)(hp:h.objs.size<=a)(hn:H a=none):Un fs ex H (upd H a o) h h' where
 keep:=λb u q _ _ _=>k b u q
 slot:=λb u q _ _ _=>#v[u.slots,k b u q]
 free:=λb u q n _=>by rwa[h7<|uu<|uz (pz q) hp]
 there:=λb u q _=>#v[u,k b u q]
 tups:=λb c q=>by rwa[h7<|k9 q hn]
 frzs:=λb u c q=>by rwa[h7<|k9 q hn]
 tbls:=λb d q=>#v[#[],by rw[h7<|k9 q hn,q];simp]
def Un.write (mu:Mut (H x))(he:e=x\/H e=some (.own x))(k:∀b u,b≠e->h.get? b=some u->h'.get? b=some u)(heo:∃u,h'.get? e=some u):Un fs ex H (upd H x o) h h':=by
 have d:∀b,H b=none->b≠x:=λb n z=>by subst z;rwa[n]at mu
 have f:∀b,H b=none->b≠e:=λb n z=>by
  subst z;rcases he with r | r
  .exact d b n r
  .rw[n]at r;cases r
 have c:∀b u,H b=some u->¬Mut (some u)->b≠x:=λb u q i z=>by subst z;rw[q]at mu;exact i mu
 refine#v[λb u q n _ _=>k b u (f b n) q,λb u q n _ _=>#v[u.slots,k b u (f b n) q],λb u q n _=>by rwa[h7<|d b n],λb u q _=>?_,
  λb g q=>by rwa[h7<|c b _ q λz=>z],λb u g q=>by rwa[h7<|c b _ q λz=>z],λb j q=>#v[#[],by rw[h7<|c b _ q λz=>z,q];simp]]
 by_cases a:b=e
 .subst a;exact heo
 .exact#v[u,k b u a q]
end
def trk (h:QW)(H:Hp):List QN:=(List.range h.objs.size).filter λa=>(H a).isSome
def jk (h:QW)(H:Hp):QW:=PySem.W.hideAll h<|trk h H
def zD (e:h.get? b=some o)(n:H b=none):(jk h H).get? b=some o :=
 PySem.W.hideAll_get _ e λa=>by have q:=(xM.1 a).2;rw[n]at q;simp at q
def Ga (e:(jk h H).get? b=some o):h.get? b=some o/\H b=none:=by
 have a:=PySem.W.of_hideAll (trk h H) e;refine#v[a,?_];cases q:H b with
 | none=>rfl
 | some x =>have z:(jk h H).get? b=none:=PySem.W.hideAll_none (trk h H) (xM.2 #v[Iw.2<|pz a,by simp[q]]);rw[z]at e;cases e
end

section
structure Mod (K:Qf) mg base:Prop where
 kin:K.In base
 glob:base.Ns Rf mg
 blt:∃mb,base.Ns builtinsNs mb/\∀x:Str,x ≠ "__name__"->mb x=Ri x
 nolimit:base.NoLimit
structure Cx where
 prog:QP
 w:QQ
 K:Qf
 mg:Str->Option My
 base:QW
 A:QR
 N:List Str
 s₀:QO
 H₀:Hp
 env:Ra
 outer:List Ra
 stack:List Ra
 ex:List QN
 fn:Str->Bool
 calm:Bool
 pn:List (QN×QZ)
 xe:My->QO->Prop
def frs (l:List Ra):List QN:=l.filterMap (·.frame)
abbrev Cx.fs (X:Cx):List QN:=frs X.outer
def Vis (sc:QS)(x:Str):Prop:=sc.names.lookup x=some .local\/sc.names.lookup x=some .cell\/sc.names.lookup x=some .free
def Loc (sc:QS)(x:Str):Prop:=sc.names.lookup x=some .local\/sc.names.lookup x=some .cell
def MQ (env:Ra)(h:QW)(m:Str->Option My)(x:Str)(u:My):Prop :=
 (env.kindOf x=some .local/\m x=some u)\/((env.kindOf x=some .cell\/env.kindOf x=some .free)/\∃c,env.cells.lookup x=some c/\h.IsCell c (some u))
structure Cx.Ok (X:Cx):Prop where
 mod:Mod X.K X.mg X.base
 kind:X.env.scope.kind = .function
 glob:X.env.globals=Rf
 blt:X.env.builtins=builtinsNs
 above: ~~~X.s₀<=X.env.locals
 inj:∀x y c,X.env.cells.lookup x=some c->X.env.cells.lookup y=some c->x=y
 has:∀x,(X.env.kindOf x=some .cell\/X.env.kindOf x=some .free)->∃c,X.env.cells.lookup x=some c
 cab:∀x c,X.fn x=true->X.env.cells.lookup x=some c-> ~~~X.s₀<=c
 hd:X.calm=true->X.A.handled=none
 frames:X.A.frames=some X.stack
 stk:X.stack=X.outer\/(X.stack=X.env::X.outer/\X.env.frame=some X.env.locals)
 exf:∀b∈X.ex,b≠X.env.locals/\∀x c,X.env.cells.lookup x=some c->c≠b
 bs:∀b o,X.base.get? b=some o->X.s₀.heap.get? b=some o/\X.H₀ b=none
 bsz:X.base.objs.size<= ~~~X.s₀
 noex:∀b o,X.base.get? b=some o->b ∉ X.ex
 exfs:∀b∈X.ex,b ∉ X.fs
 funs:X.s₀.heap.FunFrames X.base X.outer
 frf:∀b∈X.fs,X.H₀ b=none
structure Inv (X:Cx) π (σ:List (Option V)) H (s:QO):Prop where
 ok:X.Ok
 os:s.os=X.s₀.os
 bare:AllBare s.gens
 base:Un X.fs X.ex X.H₀ H X.s₀.heap s.heap
 loc:∃m,s.heap.Ns X.env.locals m/\∀(i:Nat) x v,X.N[i]? = some x->σ[i]? = some (some v)->Vis X.env.scope x->∃u,l4 v u/\MQ X.env s.heap m x u
 cell:∀x c,X.env.cells.lookup x=some c->∃v,s.heap.IsCell c v
 free:H X.env.locals=none
 freeC:∀x c,X.env.cells.lookup x=some c->H c=none
 pin:∀p∈X.pn++π,s.heap.get? p.1=some p.2/\H p.1=none/\p.1≠X.env.locals/\p.1 ∉ X.fs/\∀v,p.2.data ≠ .cell v
 hok:HOk X.prog X.w H s.heap
 len:σ.length=X.N.length
section
variable {X:Cx}
def Cx.Ok.nofr (ok:X.Ok)(e:X.base.get? b=some o):b ∉ X.fs:=λa=>by have:=(ok.funs.mem a).1;rw[e]at this;cases this
def Inv.bs (I:Inv X π σ H s):∀b o,X.base.get? b=some o->s.heap.get? b=some o/\H b=none:=λb o e =>
 #v[I.base.keep b o (I.ok.bs b o e).1 (I.ok.bs b o e).2 (I.ok.nofr e)<|I.ok.noex b o e,I.base.free b o (I.ok.bs b o e).1 (I.ok.bs b o e).2<|I.ok.noex b o e]
def Inv.bk (I:Inv X π σ H s):∀b o,X.base.get? b=some o->s.heap.get? b=some o:=λb o e=>(I.bs b o e).1
def Inv.mod (I:Inv X π σ H s):Mod X.K X.mg X.base:=I.ok.mod
def Inv.kIn (I:Inv X π σ H s):X.K.In s.heap:=I.ok.mod.kin.keeps I.bk
def Inv.nolimit (I:Inv X π σ H s):s.heap.NoLimit:=I.ok.mod.nolimit.keeps I.bk
def Inv.lt (I:Inv X π σ H s):X.env.locals<( ~~~s):=let #v[_,a,_]:=I.loc;a.lt
def Inv.sz (I:Inv X π σ H s): ~~~X.s₀<=( ~~~s):=uj I.ok.above<|Ir I.lt
def Inv.nofs (I:Inv X π σ H s){a:QN}(h: ~~~s<=a):a ∉ X.fs:=λc=>by let(_,o,b,_):=I.ok.funs.mem c;exact absurd (uz (pz b)<|uj I.sz h)<|Bl _
def Inv.cne (I:Inv X π σ H s):∀x c,X.env.cells.lookup x=some c->c≠X.env.locals:=λx c e z=>by let(v,o,d,f):=I.cell x c e;obtain⟨m,⟨g,h,i,a,b,_⟩,_⟩:=I.loc;rw[z,a]at d;cases d;rw[b]at f;cases f
def Inv.funs (I:Inv X π σ H s):s.heap.FunFrames X.base X.outer:=by
 have all:∀l,(∀b∈frs l,b∈X.fs)->X.s₀.heap.FunFrames X.base l->s.heap.FunFrames X.base l:=by
  intro l;induction l with
  | nil=>intro _ _;trivial
  | cons n r g =>
   rintro f ⟨k,⟨L,o,a,j,i,m⟩,h⟩;have d:=f L (by unfold frs;rw[Mw,a];exact ll);let(p,e):=I.base.slot L o i (I.ok.frf L d) d λz=>I.ok.exfs L z d
   exact#v[k,#v[L,_,a,j,e,m],g (λb c=>f b (by unfold frs;rw[Mw,a];exact kN _ c)) h]
 exact all X.outer (λ_ c=>c) I.ok.funs
def Inv.stack (I:Inv X π σ H s):s.heap.FunFrames X.base X.stack:=by
 rcases I.ok.stk with e | ⟨e,b⟩
 .rw[e];exact I.funs
 .rw[e];let(m,a,_):=I.loc;refine .cons (by rw[I.ok.kind];decide) b a (QW.get?_none_of_le<|uj I.ok.bsz I.ok.above) I.funs
def Inv.stkSub (I:Inv X π σ H s):∀b∈frs X.stack,b∈X.env.locals::X.fs:=λb a=>by
 rcases I.ok.stk with e | ⟨e,c⟩
 .rw[e]at a;exact kN _ a
 .rw[e]at a;unfold frs at a;rwa[Mw,c]at a
def Inv.stkFree (I:Inv X π σ H s):∀b∈frs X.stack,H b=none:=λb a=>by
 rcases oZ.1 (I.stkSub b a) with e | a
 .rw[e];exact I.free
 .let(_,o,c,_):=I.ok.funs.mem a;exact I.base.free b o c (I.ok.frf b a) λz=>I.ok.exfs b z a
def Inv.step {ch:List QN}(I:Inv X π σ H s)
  (hch:∀b∈ch,(b∈X.ex\/(~~~X.s₀)<=b)/\b≠X.env.locals/\(∀x c,X.env.cells.lookup x=some c->c≠b)/\∀p∈X.pn++π,p.1≠b)
  (keep:∀b o,b≠X.env.locals->b ∉ X.fs->b ∉ ch->s.heap.get? b=some o->H b=none->h'.get? b=some o)
  (slot:∀b o,b≠X.env.locals->b∈X.fs->b ∉ ch->s.heap.get? b=some o->H b=none->∃sl,h'.get? b=some { o with slots:=sl }) (free:∀b o,b ∉ ch->s.heap.get? b=some o->H b=none->H' b=none)
  (there:∀b o,b ∉ ch->s.heap.get? b=some o->∃o',h'.get? b=some o')
  (tups:∀b xs,H b=some (.tup xs)->H' b=some (.tup xs)) (frzs:∀b o u,H b=some (.frz o u)->H' b=some (.frz o u)) (tbls:∀b ps,H b=some (.tbl ps)->∃more,H' b=some (.tbl<|ps++more))
  (ns:∀m,s.heap.Ns X.env.locals m->h'.Ns X.env.locals m) (hok:HOk X.prog X.w H' h') (hg:AllBare g') :
  Inv X π σ H' { s with heap:=h',gens:=g',drawn:=d',toks:=t' }:=by
 have y:∀b o,X.s₀.heap.get? b=some o->b≠X.env.locals:=λb o e=>uu<|uz (pz e) I.ok.above
 have h:∀b o,X.s₀.heap.get? b=some o->b ∉ X.ex->b ∉ ch:=λb o e a t=>by
  rcases(hch b t).1 with z | z
  .exact a z
  .exact absurd (uz (pz e) z)<|Bl _
 have g:∀x c,X.env.cells.lookup x=some c->∀v,s.heap.IsCell c v->h'.IsCell c v:=λx c e v #v[o,w,C]=>by
  have f:=λz=>(hch c z).2.2.1 x c e rfl
  by_cases G:c∈X.fs
  .let(sl,q):=slot c o (I.cne x c e) G f w<|I.freeC x c e;exact#v[_,q,C]
  .exact#v[o,keep c o (I.cne x c e) G f w<|I.freeC x c e,C]
 refine#v[I.ok,I.os,hg,#v[λb o e n t a=>?_,λb o e n t a=>?_,λb o e n a=>?_,λb o e a=>?_,λb xs e=>tups b xs<|I.base.tups b xs e,λb o xs e=>frzs b o xs<|I.base.frzs b o xs e,λb ps e=>?_],?_,λx c e=>?_,?_,λx c e=>?_,λp F=>?_,hok,I.len]
 .exact keep b o (y b o e) t (h b o e a) (I.base.keep b o e n t a)<|I.base.free b o e n a
 .let(sl,j):=I.base.slot b o e n t a;let(B,A):=slot b _ (y b o e) t (h b o e a) j<|I.base.free b o e n a;exact#v[B,A]
 .let(o',j):=I.base.there b o e a;exact free b o' (h b o e a) j<|I.base.free b o e n a
 .let(o',j):=I.base.there b o e a;exact there b o' (h b o e a) j
 .let(K,j):=I.base.tbls b ps e;let(J,A):=tbls b _ j;exact#v[K++J,by rw[A,Array.append_assoc]]
 .let(m,L,hl):=I.loc;refine#v[m,ns m L,λi x v j A M=>?_];let(u,r,l):=hl i x v j A M;refine#v[u,r,?_];rcases l with l | ⟨k,c,e,z⟩
  .exact .inl l
  .exact .inr #v[k,c,e,g x c e _ z]
 .let(v,z):=I.cell x c e;exact#v[v,g x c e v z]
 .obtain⟨m,⟨o,_,_,w,_⟩,_⟩:=I.loc;exact free _ o (λz=>(hch _ z).2.1 rfl) w I.free
 .let(v,o,w,C):=I.cell x c e;exact free c o (λz=>(hch c z).2.2.1 x c e rfl) w<|I.freeC x c e
 .let(e,n,E,D,d):=I.pin p F;have f:=λz=>(hch p.1 z).2.2.2 p F rfl
  exact#v[keep p.1 p.2 E D f e n,free p.1 p.2 f e n,E,D,d]
def Inv.un (I:Inv X π σ H s)(u:Un X.fs [] H H' s.heap h')(hok:HOk X.prog X.w H' h'):Inv X π σ H' { s with heap:=h',toks:=t' }:=by
 obtain⟨m,⟨o,q,t,g,r⟩,_⟩:=id I.loc;let(k,j):=u.any g I.free (by simp);exact I.step (ch:=[]) (λ_ z=>nomatch z) (λb o _ c _ e n=>u.keep b o e n c<|by simp) (λb o _ c _ e n=>u.slot b o e n c<|by simp) (λb o _ e n=>u.free b o e n<|by simp) (λb o _ e=>u.there b o e<|by simp) u.tups u.frzs u.tbls (λp i=>by let(l,d,f,a,h):=i;rw[g]at a;cases a;exact#v[_,d,f,j,h]) hok I.bare
def Inv.call (I:Inv X π σ H s)(u:Un (frs X.stack) ch H H' s.heap h')(hok:HOk X.prog X.w H' h')(hg:AllBare g')
  (hch:∀b∈ch,(b∈X.ex\/(~~~X.s₀)<=b)/\b≠X.env.locals/\(∀x c,X.env.cells.lookup x=some c->c≠b)/\∀p∈X.pn++π,p.1≠b) :
  Inv X π σ H' { s with heap:=h',gens:=g',drawn:=d',toks:=t' }:=by
 obtain⟨m,⟨o,w,y,i,r⟩,_⟩:=id I.loc;let(q,f):=u.any i I.free λz=>(hch _ z).2.1 rfl
 exact I.step hch (λb o f l a e n=>u.keep b o e n (λz=>(oZ.1<|I.stkSub b z).elim f l) a) (λb o _ _ a e n=>u.any e n a) (λb o a e n=>u.free b o e n a) (λb o a e=>u.there b o e a) u.tups u.frzs u.tbls (λv k=>by let(t,g,h,d,j):=k;rw[i]at d;cases d;exact#v[_,g,h,f,j]) hok hg
def Inv.turned (I:Inv X π σ H s)(k:∀b o,b≠it->s.heap.get? b=some o->h'.get? b=some o)(hn:H it=none)(hL:it≠X.env.locals)
  (h1:it∈X.ex\/(~~~X.s₀)<=it) (h2:∀x c,X.env.cells.lookup x=some c->c≠it) (h3:∀p∈X.pn++π,p.1≠it):Inv X π σ H { s with heap:=h',toks:=t' }:=by
 have d:∀b u,H b=some u->b≠it:=λb u e z=>by rw[z,hn]at e;cases e
 refine I.step (ch:=[it]) (λb h=>?_) (λb o _ _ a e _=>k b o (λz=>a<|by simp[z]) e) (λb o _ _ a e _=>#v[o.slots,k b o (λz=>a<|by simp[z]) e]) (λ_ _ _ _ n=>n)
  (λb o a e=>#v[o,k b o (λz=>a<|by simp[z]) e]) (λ_ _ e=>e) (λ_ _ _ e=>e) (λb l e=>#v[#[],by rw[e];simp]) (λm g=>?_) (λb u e=>?_) I.bare
 .have e:b=it:=by simpa using h
  subst e;exact#v[h1,hL,h2,h3]
 .let(o,i,j,f,r):=g;exact#v[o,i,j,k _ o (DO hL) f,r]
 .refine(I.hok b u e).stay (λc v a q=>k c v ?_ q) (λ_ q=>q) λ_ _ q=>q
  rcases a with z | z
  .rw[z];exact d b u e
  .exact d c _ z
def Inv.tok (I:Inv X π σ H s)(t):Inv X π σ H { s with toks:=t }:=I.un Un.refl I.hok
def Inv.kept (I:Inv X π σ H s)(k:∀b u,s.heap.get? b=some u->h'.get? b=some u):Inv X π σ H { s with heap:=h',toks:=t' }:=I.un (Un.kept k)<|I.hok.kept k
def Inv.laid {a:QN}(I:Inv X π σ H s)(k:∀b u,s.heap.get? b=some u->h'.get? b=some u)(hp: ~~~s<=a)(new:x5 X.prog X.w (upd H a o) h' a o) :
  Inv X π σ (upd H a o) { s with heap:=h',toks:=t' }:=I.un (Un.laid k hp<|I.hok.fresh hp)<|I.hok.laid k hp new
def Inv.write (I:Inv X π σ H s)(mu:Mut (H x))(he:e=x\/H e=some (.own x))(k:∀b u,b≠e->s.heap.get? b=some u->h'.get? b=some u)(heo:∃u,h'.get? e=some u)
  (new:x5 X.prog X.w (upd H x o) h' x o):Inv X π σ (upd H x o) { s with heap:=h',toks:=t' }:=I.un (Un.write mu he k heo)<|I.hok.write mu he k heo new
def Inv.pins_of (I:Inv X π σ H s)(h:∀p∈pins',s.heap.get? p.1=some p.2/\H p.1=none/\p.1≠X.env.locals/\p.1 ∉ X.fs/\∀v,p.2.data ≠ .cell v):Inv X pins' σ H s :=
 #v[I.ok,I.os,I.bare,I.base,I.loc,I.cell,I.free,I.freeC,λp a=>(zj.1 a).elim (λz=>I.pin p<|Of _ z)<|h p,I.hok,I.len]
def rW {N:List Str}(hN:N.Nodup){j:Nat}(a:N[i]? = some x)(b:N[j]? = some x):i=j:=by let(f,d):=pG.1 a;let(e,c):=pG.1 b;exact(Og hN).1<|d.trans c.symm
def xP (I:Inv X π σ H s)(hN:X.N.Nodup)(hi:X.N[i]? = some x)(hx:Loc X.env.scope x)(r:l4 v u)
  (h:∀s',Inv X π (σ.set i<|some v) H s'->(∃a,QW.SameBut a s.heap s'.heap/\(a=X.env.locals\/X.env.cells.lookup x=some a))->Q () s') (hf:autoParam (X.fn x=true\/X.env.scope.names.lookup x=some .local) gV):Re M A (storeName X.env x u) Q E s:=by
 let(m,hn,hl):=id I.loc;have D:i < σ.length:=by rw[I.len];exact(pG.1 hi).1
 have cne:=I.cne;have g:∀{a} {h'},(∃o,s.heap.get? a=some o/\H a=none)->QW.SameBut a s.heap h'->HOk X.prog X.w H h':=λ{a h'} ha f b ob e=>by
  let(_,_,w):=ha;refine(I.hok b ob e).stay (λc R t q=>(f.2 c ?_).trans q) (λ_ q=>q) λ_ _ q=>q
  rintro rfl;rcases t with rfl | t
  .rw[w]at e;cases e
  .rw[w]at t;cases t
 rcases hx with C | C
 .refine wpAny_storeName_local C hn (λh' ac f=>?_) (by rw[I.ok.kind];rfl);let(oL,_,_,ab,_):=id hn;refine h _ #v[I.ok,I.os,I.bare,#v[λb o e n J hx=>?_,λb o e n J hx=>?_,I.base.free,λb o e hx=>?_,I.base.tups,I.base.frzs,I.base.tbls],#v[_,ac,λj y U l B e3=>?_],λy c e=>?_,I.free,I.freeC,λp hp=>?_,g #v[oL,ab,I.free] f,by simpa using I.len] #v[_,f,.inl rfl]
  .exact(f.2 b<|uu<|uz (pz e) I.ok.above).trans<|I.base.keep b o e n J hx
  .let(Y,l):=I.base.slot b o e n J hx;exact#v[Y,(f.2 b<|uu<|uz (pz e) I.ok.above).trans l]
  .let(o',l):=I.base.there b o e hx;exact#v[o',(f.2 b<|uu<|uz (pz e) I.ok.above).trans l]
  .by_cases F:j=i
   .subst F;rw[hi]at l;cases l;rw[sP D]at B;cases B;exact#v[u,r,.inl #v[C,by simp]]
   .rw[sv<|DO F]at B;let(W,Z,q):=hl j y U l B e3;refine#v[W,Z,?_];rcases q with ⟨k,e⟩ | ⟨k,c,e,z⟩
    .refine .inl #v[k,?_];have:y≠x:=λe=>F<|rW hN l<|e▸hi
     simp[this,e]
    .exact .inr #v[k,c,e,z.sameBut f<|cne y c e]
  .let(R,z):=I.cell y c e;exact#v[R,z.sameBut f<|cne y c e]
  .let(e,n,S,nf,d):=I.pin p hp;exact#v[(f.2 p.1 S).trans e,n,S,nf,d]
 .have G:X.fn x=true:=by
   rcases hf with z | z
   .exact z
   .rw[z]at C;cases C
  let(c,t):=I.ok.has x<|.inl C;let(R,z):=I.cell x c t;refine wpAny_storeName_cell I.ok.kind C t z (λh' P f=>?_);let(oc,L,K):=id z;refine h { s with heap:=h' } #v[I.ok,I.os,I.bare,#v[λb o e n J hx=>?_,λb o e n J hx=>?_,I.base.free,λb o e hx=>?_,I.base.tups,I.base.frzs,I.base.tbls],#v[m,hn.sameBut f<|DO<|cne x c t,λj y U l B e3=>?_],λy T e=>?_,I.free,I.freeC,λp hp=>?_,g #v[oc,L,I.freeC x c t] f,by simpa using I.len] #v[c,f,.inr t]
  .exact(f.2 b<|uu<|uz (pz e)<|I.ok.cab x c G t).trans<|I.base.keep b o e n J hx
  .let(Y,l):=I.base.slot b o e n J hx;exact#v[Y,(f.2 b<|uu<|uz (pz e)<|I.ok.cab x c G t).trans l]
  .let(o',l):=I.base.there b o e hx;exact#v[o',(f.2 b<|uu<|uz (pz e)<|I.ok.cab x c G t).trans l]
  .by_cases F:j=i
   .subst F;rw[hi]at l;cases l;rw[sP D]at B;cases B;exact#v[u,r,.inr #v[.inl C,c,t,P]]
   .rw[sv<|DO F]at B;let(W,Z,q):=hl j y U l B e3;refine#v[W,Z,?_];rcases q with q | ⟨k,T,e,z'⟩
    .exact .inl q
    .refine .inr #v[k,T,e,z'.sameBut f ?_];rintro rfl;exact F<|rW hN l<|I.ok.inj _ _ _ e t▸hi
  .by_cases O:T=c
   .subst O;exact#v[_,P]
   .let(w2,z2):=I.cell y T e;exact#v[w2,z2.sameBut f O]
  .let(e,n,S,nf,d):=I.pin p hp;refine#v[(f.2 p.1 ?_).trans e,n,S,nf,d];intro q;rw[q,L]at e;exact d R (by rwa[<-(rn e) ])
def ae (I:Inv X π σ H s)(hN:X.N.Nodup)(hi:X.N[i]? = some x)(hx:Loc X.env.scope x)(r:l4 v u)
  (h:∀s',Inv X π (σ.set i<|some v) H s'->Q () s') (hf:autoParam (X.fn x=true\/X.env.scope.names.lookup x=some .local) gV):Re M A (storeName X.env x u) Q E s :=
 xP I hN hi hx r (λs' a _=>h s' a) hf
def Inv.call' (I:Inv X π σ H s)(ho:s'.os=s.os)(u:Un (frs X.stack) ch H H' s.heap s'.heap)(hok:HOk X.prog X.w H' s'.heap)(hg:AllBare s'.gens)
  (hch:∀b∈ch,(b∈X.ex\/(~~~X.s₀)<=b)/\b≠X.env.locals/\(∀x c,X.env.cells.lookup x=some c->c≠b)/\∀p∈X.pn++π,p.1≠b):Inv X π σ H' s':=by let(h',g',d',t',a):=s';subst ho;exact I.call u hok hg hch
end
abbrev XK :=My->Option QN->Hp->Prop
abbrev St :=List<|Option V
abbrev VK :=V->Hp->Prop
abbrev TE :=St->Hp->VK->Prop
abbrev TT :=St->Hp->(Bool->Hp->Prop)->Prop
abbrev TA :=St->Hp->(List V->Hp->Prop)->Prop
structure Ends where
 nx:St->Hp->Prop
 rt:VK
 bk:St->Hp->Prop:=λ_ _=>False
 ct:St->Hp->Prop:=λ_ _=>False
abbrev TS :=Ends->St->Hp->Prop
def EP (X:Cx)(π:List (QN×QZ))(σ:St)(Q:VK)(u:My)(s':QO):Prop:=∃v a,Inv X π σ a s'/\l4 v u/\Q v a
def TP (X:Cx)(π:List (QN×QZ))(σ:St)(Q:Bool->Hp->Prop)(b:Bool)(s':QO):Prop:=∃a,Inv X π σ a s'/\Q b a
def AP (X:Cx)(π:List (QN×QZ))(σ:St)(Q:List V->Hp->Prop)(us:List My)(s':QO):Prop:=∃a b,Inv X π σ b s'/\k8 a us/\Q a b
def SP (X:Cx)(π:List (QN×QZ))(D:Ends)(f:Flow)(s':QO):Prop :=
 match f with
 | .next=>∃a b,Inv X π a b s'/\D.nx a b
 | .brk=>∃a b,Inv X π a b s'/\D.bk a b
 | .cont=>∃a b,Inv X π a b s'/\D.ct a b
 | .ret u=>∃v a b,Inv X π a b s'/\l4 v u/\D.rt v b
def PE (X:Cx)(e:QV)(t:TE):Prop :=
 ∀π s (a:St) H Q,Inv X π a H s->t a H Q->Re (model X.prog X.w) X.A (eval e X.env) (EP X π a Q) X.xe s
def PT (X:Cx)(e:QV)(t:TT):Prop :=
 ∀π s (a:St) H Q,Inv X π a H s->t a H Q->Re (model X.prog X.w) X.A (isTrue e X.env<|eval e X.env) (TP X π a Q) X.xe s
def PW (X:Cx)(e:QV)(t:TT):Prop :=
 ∀a π s (b:St) H Q,Inv X π b H s->t b H Q->Re (model X.prog X.w) X.A (isTrue e X.env a) (TP X π b Q) X.xe s
def PW.pt (h:PW X e t):PT X e t:=h _
def PA (X:Cx)(es:List QV)(t:TA):Prop :=
 ∀b π s (a:St) H Q,Inv X π a H s->t a H Q->Re (model X.prog X.w) X.A (spliced<|Rb b<|QY es X.env) (AP X π a Q) X.xe s
def PS (X:Cx)(st:QU)(t:TS):Prop :=
 ∀π s (a:St) H D,Inv X π a H s->t D a H->Re (model X.prog X.w) X.A (exec st X.env) (SP X π D) X.xe s
def PSs (X:Cx)(st:List QU)(t:TS):Prop :=
 ∀π s (a:St) H D,Inv X π a H s->t D a H->Re (model X.prog X.w) X.A (execs st X.env) (SP X π D) X.xe s
def thn {Q':α->QO->Prop}(h:Re M A t Q E s)(hQ:∀a s,Q a s->Q' a s):Re M A t Q' E s:=Dp h hQ λ_ _ x=>x
end

section
section

def P4 (i:Nat):TE:=λa H Q=>∃v,a[i]? = some (some v)/\Q v H
def tC (v:V):TE:=λ_ H Q=>Q v H
def A9 (hN:X.N[i]? = some x)(hv:Vis X.env.scope x)(hd:autoParam (nDb x) gC)(hcd:autoParam (nCd x) gC):PE X (.Name x pos) (P4 i):=by
 intro π s f H Q I h;let(v,e,h):=h;let(m,g,hl):=I.loc;let(u,r,l):=hl i x v hN e hv;have fin:EP X π f Q u s:=#v[v,H,I,r,h];rcases l with ⟨b,j⟩ | ⟨b,c,d,a⟩
 .exact wpAny_Name (wpAny_loadName_local I.ok.kind b g j fin) hd
 .rcases b with b | b
  .exact wpAny_Name (wpAny_loadName_cell I.ok.kind b d a fin) hd
  .exact wpAny_Name (wpAny_loadName_free I.ok.kind b d a fin hcd) hd
def x9 {i j pos}:PE X (.Constant (.int i) j pos) (tC<|.int i):=λ_ _ _ H _ I h=>wpAny_Constant_int #v[.int i,H,I.tok _,#v[_,rfl],h]
def K7 {x j pos}:PE X (.Constant (.str x) j pos) (tC<|.str x):=λ_ _ _ H _ I h=>Calls.Constant_str #v[.str x,H,I.tok _,#v[_,rfl],h]
def Gl (X:Cx)(x:Str):Prop:=X.env.kindOf x=some .globalImplicit
def nK {σ:St}(I:Inv X π σ H s)(hg:Gl X x)(hm:X.mg x=some u)(h:Q u s)
  (hd:autoParam (nDb x) gC):Re (model X.prog X.w) X.A (eval (.Name x pos) X.env) Q E s :=
 Calls.Name_function_global I.ok.kind hg (Calls.loadGlobal_global (by rw[I.ok.glob];exact I.mod.glob.keeps I.bk) hm h) hd
def Z2 {σ:St}(I:Inv X π σ H s)(hg:Gl X x)(hm:X.mg x=none)(hv:Ri x=some u)(h:Q u s)
  (hn:autoParam (x ≠ "__name__") gC) (hd:autoParam (nDb x) gC):Re (model X.prog X.w) X.A (eval (.Name x pos) X.env) Q E s:=by let(c,b,a):=I.mod.blt;exact Calls.Name_function_global I.ok.kind hg (Calls.loadGlobal_builtin (by rw[I.ok.glob];exact I.mod.glob.keeps I.bk) hm (by rw[I.ok.blt];exact b.keeps I.bk) ((a x hn).trans hv) h) hd
def wM (hg:Gl X x)(hm:X.mg x=some u)(r:l4 v u)(hd:autoParam (nDb x) gC):PE X (.Name x pos) (tC v) :=
 λ_ _ _ H _ I h=>nK I hg hm #v[v,H,I,r,h] hd


def Mf (t u:TT):TT:=λa H Q=>t a H λc b=>if c=true then u a b Q else Q false b
def tOr (t u:TT):TT:=λa H Q=>t a H λc b=>if c=true then Q true b else u a b Q
def Mv (t:TT):TT:=λa H Q=>t a H λc b=>Q (!c) b
def ve (ha:PT X a tA):PW X (.BoolOp .And [a] pos) tA:=by
 intro d π s b H Q I h;refine isTrue_and (thn (ha π s b H Q I h) λc s1 e=>?_);cases c with
 | true=>exact isTrue_and_nil e
 | false=>exact e
def DA (ha:PT X a tA)(hb:PW X (.BoolOp .And (b::rest) pos) tB'):PW X (.BoolOp .And (a::b::rest) pos) (Mf tA tB'):=by
 intro i π s d H Q I h;refine isTrue_and (thn (ha π s d H _ I h) ?_ );rintro c s1 ⟨g,f,e⟩;cases c with
 | true=>exact hb i π s1 d g Q f e
 | false=>exact#v[g,f,e]
def GZ (ta tb:TE):TE:=λa H Q=>ta a H λx b=>∃c,x = .bl c/\if c=true then tb a b Q else Q (.bl false) b
def HB (ta:TE):TE:=λa H Q=>ta a H λx b=>∃c,x = .bl c/\Q (.bl (!c)) b
def tIf (t:TT)(ta tb:TE):TE:=λa H Q=>t a H λc b=>if c=true then ta a b Q else tb a b Q
def rG (hc:PT X c tA)(ha:PE X a ta)(hb:PE X b tb):PE X (.IfExp c a b pos) (tIf tA ta tb):=by
 intro π s e H Q I h;refine wpAny_IfExp (thn (hc π s e H _ I h) ?_ );rintro d s1 ⟨i,g,f⟩;cases d with
 | true=>exact ha π s1 e i Q g f
 | false=>exact hb π s1 e i Q g f
end
end

section
def SqL (K:Qf)(H:Hp)(a:QN)(xs:List V):Prop :=
 Rd H a (.lst xs) \/
  ∃(o:QZ) (b:Array My) (n:Nat),K.lookup a=some o/\o.cls = .type "list" /\ o.dict=none/\o.data = .seq b n/\b.size<=QX/\k8 xs b.toList
def SqT (K:Qf)(H:Hp)(a:QN)(xs:List V):Prop :=
 Rd H a (.tup xs) \/
  ∃(o:QZ) (b:Array My) (n:Nat),K.lookup a=some o/\o.cls = .type "tuple" /\ o.dict=none/\o.data = .seq b n/\b.size<=QX/\k8 xs b.toList
def Nc:My->Option V
 | .none=>some .non
 | .bool b=>some<|.bl b
 | .int i _=>some<|.int i
 | .str x _=>some<|.str x
 | .bytes b _=>some<|.byt b
 | .float b _=>some<|.flt b
 | .ref a=>some<|.ref a
 | .type n=>some<|.ty n
 | _=>none
def l4.abs (r:l4 x u):Nc u=some x:=by
 cases x with
 | non=>cases r;rfl
 | bl _=>cases r;rfl
 | int _=>let(t,rfl):=r;rfl
 | str _=>let(t,rfl):=r;rfl
 | byt _=>let(t,rfl):=r;rfl
 | flt _=>let(t,rfl):=r;rfl
 | ref _=>cases r;rfl
 | ty _=>cases r;rfl
def l4.inj {u} (r:l4 x u)(q:l4 y u):x=y:=rn<|r.abs.symm.trans q.abs
theorem k8.inj:∀{xs ys} {us},k8 xs us->k8 ys us->xs=ys
 | _,_,_,.nil,.nil=>rfl
 | _,_,_,.cons r t,.cons r' t'=>by rw[r.inj r',k8.inj t t']
section
variable {σ:St}
def SqL.of {K} (h:H a=some (.lst xs)):SqL K H a xs:=.inl<|.inl h
def SqT.of {K} (h:H a=some (.tup xs)):SqT K H a xs:=.inl<|.inl h
def Inv.list (I:Inv X π σ H s)(h:SqL X.K H a xs):∃its,k8 xs its/\PlainL s.heap a its.toArray/\xs.length<=QX:=by
 rcases h with h | ⟨o,its,n,c,f,d,b,g,r⟩
 .let(z,its,n,r,e):=h.ok I.hok;exact#v[its,r,#v[_,n,e,rfl,rfl,rfl],z]
 .refine#v[its.toList,r,#v[o,n,I.kIn a o c,f,d,by simpa using b],?_];have e:=r.length;simp only[zq]at e;lia
def Inv.tuple (I:Inv X π σ H s)(h:SqT X.K H a xs):∃its,k8 xs its/\IsTup s.heap a its.toArray/\xs.length<=QX:=by
 rcases h with h | ⟨o,its,n,c,d,_,b,f,r⟩
 .let(z,its,r,p,_):=h.ok I.hok;exact#v[its,r,p,z]
 .refine#v[its.toList,r,#v[o,I.kIn a o c,d,n,by simpa using b],?_];have e:=r.length;simp only[zq]at e;lia
def Inv.list_inj (I:Inv X π σ H s)(h:SqL X.K H a xs)(h':SqL X.K H a ys):xs=ys:=by
 obtain⟨c,r,⟨o,n,e,_,_,d⟩,_⟩:=I.list h;obtain⟨b,i,⟨k,l,f,_,_,g⟩,_⟩:=I.list h';rw[e]at f;cases f;rw[d]at g;injection g with j _
 have:c=b:=by simpa using AZ Array.toList j
 subst this;exact r.inj i
def Inv.tuple_inj (I:Inv X π σ H s)(h:SqT X.K H a xs)(h':SqT X.K H a ys):xs=ys:=by
 obtain⟨c,r,⟨o,e,_,n,d⟩,_⟩:=I.tuple h;obtain⟨b,i,⟨k,f,_,l,g⟩,_⟩:=I.tuple h';rw[e]at f;cases f;rw[d]at g;injection g with j _
 have:c=b:=by simpa using AZ Array.toList j
 subst this;exact r.inj i
end
abbrev Cx.wish (X:Cx)(E:My->QO->Prop):Cx:={ X with xe:=E }
abbrev Cx.nox (X:Cx):Cx:=X.wish λ_ _=>False
def Cx.Ok.wish {X:Cx}(ok:X.Ok)(E):(X.wish E).Ok :=
 #v[ok.mod,ok.kind,ok.glob,ok.blt,ok.above,ok.inj,ok.has,ok.cab,ok.hd,ok.frames,ok.stk,ok.exf,ok.bs,ok.bsz,ok.noex,ok.exfs,ok.funs,ok.frf]
def Cx.Ok.unwish {X:Cx}(ok:(X.wish E).Ok):X.Ok :=
 #v[ok.mod,ok.kind,ok.glob,ok.blt,ok.above,ok.inj,ok.has,ok.cab,ok.hd,ok.frames,ok.stk,ok.exf,ok.bs,ok.bsz,ok.noex,ok.exfs,ok.funs,ok.frf]
section
variable {σ:St}
def Inv.wish (I:Inv X π σ H s)(E):Inv (X.wish E) π σ H s:=#v[I.ok.wish E,I.os,I.bare,I.base,I.loc,I.cell,I.free,I.freeC,I.pin,I.hok,I.len]
def Inv.unwish (I:Inv (X.wish E) π σ H s):Inv X π σ H s:=#v[I.ok.unwish,I.os,I.bare,I.base,I.loc,I.cell,I.free,I.freeC,I.pin,I.hok,I.len]
def SP.unwish (h:SP (X.wish E) π D f s'):SP X π D f s':=by
 cases f with
 | next=>let(a,b,I,q):=h;exact#v[a,b,I.unwish,q]
 | brk=>let(a,b,I,q):=h;exact#v[a,b,I.unwish,q]
 | cont=>let(a,b,I,q):=h;exact#v[a,b,I.unwish,q]
 | ret u=>let(v,a,b,I,r,q):=h;exact#v[v,a,b,I.unwish,r,q]
def PSs.nox {st}(h:PSs X.nox st t):PSs X st t:=λπ s σ H D I a =>
 Dp (h π s σ H D (I.wish _) a) (λ_ _ q=>q.unwish) λ_ _ z=>False.elim z
end
section
variable {st:QU}
def Bj :TS:=λD a H=>D.nx a H
def qZ (t u:TS):TS:=λD a H=>t { D with nx:=u D } a H
def jg :PSs X [] Bj:=λ_ _ a H _ I h=>PB #v[a,H,I,h]
def u9 (h1:PS X st t)(h2:PSs X rest u):PSs X (st::rest) (qZ t u):=by
 intro π s b H D I h;refine wpAny_execs_cons (thn (h1 π s b H { D with nx:=u D } I h) λf s1 q=>?_);cases f with
 | next =>let(a,d,c,q):=q;exact h2 π s1 a d D c q
 | ret v=>exact q
 | brk=>exact q
 | cont=>exact q
def X7 (h1:PS X st t):PSs X [st] t:=by
 intro π s a H D I h;refine wpAny_execs_cons (thn (h1 π s a H D I h) λf s1 q=>?_);cases f with
 | next=>exact PB q
 | ret v=>exact q
 | brk=>exact q
 | cont=>exact q
def Inv.quiet {σ:St}(I:Inv X π σ H s):interactive X.env=false:=by simp[interactive,I.ok.kind]
def mM (te:TE):TS:=λD a H=>te a H λ_ b=>D.nx a b
def oO (he:PE X e te)(hs:‹Rg e none pos.line X.env=pure false›):PS X (.Expr e pos) (mM te):=by intro π s a H D I h;exact wpAny_Expr_any (thn (he π s a H _ I h) λv s1 #v[x,d,c,f,b]=>#v[a,d,c,b]) I.quiet hs
def yQ (te:TE):TS:=λD a H=>te a H D.rt
def bK (he:PE X e te):PS X (.Return (some e) pos) (yQ te):=by intro π s a H D I h;exact wpAny_Return_some (thn (he π s a H _ I h) λv s1 #v[x,f,d,b,c]=>#v[x,a,f,d,b,c])
def Ia (c:TT)(t u:TS):TS:=λD a H=>c a H λb d=>if b=true then t D a d else u D a d
def vp (hc:PT X c tc)(ha:PSs X a t)(hb:PSs X b u):PS X (.If c a b pos) (Ia tc t u):=by
 intro π s e H D I h;refine wpAny_If (thn (hc π s e H _ I h) ?_ );rintro d s1 ⟨i,g,f⟩;cases d with
 | true=>exact ha π s1 e i D g f
 | false=>exact hb π s1 e i D g f
end
abbrev TG :=V->St->Hp->(St->Hp->Prop)->Prop
abbrev TGs :=List V->St->Hp->(St->Hp->Prop)->Prop
def PG (X:Cx)(target:QV)(t:TG):Prop :=
 ∀π s (b:St) H v u Q,Inv X π b H s->l4 v u->t v b H Q ->
  Re (model X.prog X.w) X.A (assign target X.env u) (λ_ d=>∃a c,Inv X π a c d/\Q a c) X.xe s
def PGs (X:Cx)(ts:List QV)(t:TGs):Prop :=
 ∀π s (b:St) H c us Q,Inv X π b H s->k8 c us->t c b H Q ->
  Re (model X.prog X.w) X.A (assignInOrder ((Rk ts X.env).map (·.2)) us) (λ_ e=>∃a d,Inv X π a d e/\Q a d) X.xe s
abbrev Kg :=V->V->V->Hp->(Hp->Prop)->Prop
def LU (X:Cx)(t:Kg):Prop :=
 ∀π s (a:St) H o i v b c u Q,Inv X π a H s->l4 o b->l4 i c->l4 v u->t o i v H Q ->
  Re (model X.prog X.w) X.A (setItem b c u) (λ_ e=>∃d,Inv X π a d e/\Q d) X.xe s
abbrev TIp :=V->V->Hp->VK->Prop
def PIp (X:Cx)(op:Operator)(t:TIp):Prop :=
 ∀π s (a:St) H x y v u Q,Inv X π a H s->l4 x v->l4 y u->t x y H Q ->
  Re (model X.prog X.w) X.A (inplaceOp op v u) (EP X π a Q) X.xe s
section

def Q9 (i:Nat):TG:=λv a H Q=>Q (a.set i<|some v) H
def LO :TGs:=λb a H Q=>b=[]/\Q a H
def Gy (t:TG)(u:TGs):TGs:=λc b H Q=>∃v r,c=v::r/\t v b H λa d=>u r a d Q
def Kt (K:Qf)(n:Nat)(t:TGs):TG:=λv c H Q=>∃a b,v = .ref a/\SqT K H a b/\b.length=n/\t b c H Q
def LN (to ti:TE)(t:Kg):TG:=λv a H Q=>to a H λo d=>ti a d λi c=>t o i v c λb=>Q a b
def cf (te:TE)(g:TG):TS:=λD a H=>te a H λx b=>g x a b D.nx
def Cp (he:PE X e te)(hg:PG X tg g)(hs:‹swapsWithSole [tg] e pos.line X.env=pure false›)(hw:‹swappedStores [tg] e X.env=pure none›)
  (h1:‹(Rk [tg] X.env).map (·.2)=[assign tg X.env]›):PS X (.Assign [tg] e pos) (cf te g):=by intro π s a H D I h;refine wpAny_Assign_stores (thn (he π s a H _ I h) ?_ ) hs hw;rintro v s1 ⟨x,f,d,b,c⟩;rw[h1];exact thn (hg π s1 a f x v _ d b c) λ_ s2 q=>q
def L6 (hN:X.N.Nodup)(hi:X.N[i]? = some x)(hx:Loc X.env.scope x)(he:PE X e te)(hs:‹Rg e (some<|.Name x pos') pos.line X.env=pure false›)(hf:autoParam (X.fn x=true\/X.env.scope.names.lookup x=some .local) gV) :
  PS X (.Assign [.Name x pos'] e pos) (cf te<|Q9 i):=by intro π s a H D I h;refine wpAny_Assign_Name (thn (he π s a H _ I h) ?_ ) hs;rintro v s1 ⟨y,g,f,b,c⟩;exact ae f hN hi hx b (λs2 d=>#v[_,g,d,c]) hf
def IH (i j:Nat)(ta:TA):TS:=λD a H=>ta a H λb c=>∃v w,b=[v,w]/\D.nx ((a.set i<|some v).set j<|some w) c
def Ah {ta}{kt k2 pt2}(hc:X.calm=true)(hN:X.N.Nodup)(hi:X.N[i]? = some x)(hj:X.N[j]? = some y)(hij:i≠j)
  (hx:X.env.scope.names.lookup x=some .local) (hy:X.env.scope.names.lookup y=some .local) (ha:PA X [a,b] ta)
  (hw:swappedStores [.Tuple [.Name x px,.Name y py] kt pt] (.Tuple [a,b] k2 pt2) X.env=pure (some [x,y]))
  (hs:‹swapsWithSole [.Tuple [.Name x px,.Name y py] kt pt] (.Tuple [a,b] k2 pt2) pos.line X.env=pure false›) :
  PS X (.Assign [.Tuple [.Name x px,.Name y py] kt pt] (.Tuple [a,b] k2 pt2) pos) (IH i j ta):=by
 intro π s l H D I h;rw[exec_Assign_arm];refine iD<|Qo ?_;rw[hs];refine iD<|iO ?_;rw[oj<|by decide];refine iD (Tuple_<|thn (ha _ π s l H _ I h) ?_ );rintro us s1 ⟨G,n,F,t,g⟩;let(v,w,A,g):=g;subst A;obtain⟨d,c,rfl,r,f⟩:∃d c,us=[d,c]/\l4 v d/\l4 w c:=by
  cases t with
  | cons p q =>
   cases q with
   | cons z u =>cases u;exact#v[_,_,rfl,p,z]
 refine xI ?_ (by show 2<=QX;decide);have E:Inv X π l n { s1 with heap:=s1.heap.push { cls:=.type "tuple",data:=.seq [d,c].toArray } }:=F.kept λb o e=>jM _ e
 rw[hw];refine iD<|iO<|iD (JV<|iD<|unpackItems_tuple (items:=#[d,c]) (I.ok.hd hc) (Pw s1.heap _) λh' k=>?_);refine iD (assignInOrder_cons<|wpAny_bindName<|ae (E.kept (t':=s1.toks) λb o e=>k b o (uu<|pz e) e) hN hj (.inl hy) f (λs2 B=>assignInOrder_cons (wpAny_bindName<|ae B hN hi (.inl hx) r (λJ m=>assignInOrder_nil<|iO ?_)<|.inr hx) )<|.inr hy);rw[List.set_comm _ _<|DO hij]at m;exact#v[_,n,m,g]
def JE (i:Nat)(te:TE)(ti:TIp):TS:=λD a H=>∃x,a[i]? = some (some x)/\te a H λy c=>ti x y c λz b=>D.nx (a.set i<|some z) b
def ipI (f:Int->Int->Int):TIp:=λx y H Q=>∃i j,x = .int i/\y = .int j/\Q (.int<|f i j) H
def Iz :PIp X .Add (ipI λi j=>i+j):=by rintro π s e H x y v u Q I b a ⟨i,j,d,c,q⟩;subst d;subst c;let(t,rfl):=b;let(t',rfl):=a;exact iadd_int #v[.int _,H,I.tok _,#v[_,rfl],q]
end
section
def sX (c:TT)(tb:TS):TS:=λD a H=>∃W:Nat->St->Hp->Prop,(∃m,W m a H)/\∀m a H,W m a H ->
 c a H λb f=>if b=true then ∃N,(∀d g,N d g->∃e,e<m/\W e d g)/\tb { D with nx:=N,ct:=N,bk:=D.nx } a f else D.nx a f
end
structure It where
 go:Nat->Hp->Prop
 yld:Nat->Hp->V->Hp->Prop
 stop:Nat->Hp->Prop
def bX (X:Cx)(π:List (QN×QZ))(H:Hp)(b:QN):Prop :=
 H b=none/\b≠X.env.locals/\b ∉ X.fs/\(b∈X.ex\/(~~~X.s₀)<=b)/\(∀x c,X.env.cells.lookup x=some c->c≠b)/\∀p∈X.pn++π,p.1≠b
def Inv.fpOk {σ:St}{b:QN}(I:Inv X π σ H s)(hb: ~~~s<=b)(hn:H' b=none):bX X π H' b:=by
 refine#v[hn,AS<|uz I.lt hb,I.nofs hb,.inr<|uj I.sz hb,λx c e z=>?_,λp a z=>?_]
 .let(v,q):=I.cell x c e;exact absurd (uz q.lt (by rwa[z]))<|Bl _
 .exact absurd (uz (pz (I.pin p a).1) (by rwa[z]))<|Bl _
structure Turn P w K tg (J:It) (fp:List QN) it (tn:Nat->QW->Prop):Prop where
 mem:it∈fp
 obj:∀i h,tn i h->∀b∈fp,∃o,h.get? b=some o/\∀v,o.data ≠ .cell v
 keep:∀i h h',tn i h->(∀b∈fp,∀o,h.get? b=some o->h'.get? b=some o)->tn i h'
 item:∀X,X.prog=P->X.w=w->X.K=K->X.calm=true->∀i π s (σ:St) H E,Inv X π σ H s->(∀b∈fp,bX X π H b)->tn i s.heap->J.go i H ->
  Re (model P w) X.A (pyNext<|.ref it) (λr s1=>∃u,r=some u /\
   Re (model P w) X.A (letOwnedTupleGo tg (.ref it) u) (λ_ s2=>∃x H',Inv X π σ H' s2/\l4 x u/\J.yld i H x H'/\tn (i+1) s2.heap/\∀b∈fp,H' b=none) E s1) E s
 done:∀X,X.prog=P->X.w=w->X.K=K->X.calm=true->∀i π s (σ:St) H E,Inv X π σ H s->(∀b∈fp,bX X π H b)->tn i s.heap->J.stop i H ->
  Re (model P w) X.A (pyNext<|.ref it) (λr s1=>r=none/\Inv X π σ H s1) E s
 self:∀A i s Q E,tn i s.heap->Q (.ref it) s->Re (model P w) A (pyIter<|.ref it) Q E s
abbrev TI :=St->Hp->(It->Hp->Prop)->Prop
def PIE (X:Cx)(π:List (QN×QZ))(σ:St)(tg:QV)(R:It->Hp->Prop)(itv:My)(s2:QO):Prop :=
 ∃(d:QN) (e:List QN) (c:Nat->QW->Prop) (J:It) (a:Hp),itv = .ref d/\Inv X π σ a s2/\Turn X.prog X.w X.K tg J e d c/\c 0 s2.heap/\(∀b∈e,bX X π a b)/\R J a
def PI (X:Cx)(tg iter:QV)(wi:TI):Prop :=
 ∀π s (a:St) H R,Inv X π a H s->wi a H R ->
  Re (model X.prog X.w) X.A (eval iter X.env) (λv s1=>Re (model X.prog X.w) X.A (pyIter v) (PIE X π a tg R) X.xe s1) X.xe s
def zI (ho:s.heap.get? it=some o)(hc:o.cls = .type n)(hd:o.data = .fields vs)
    (hn:["enumerate","zip","dict_itemiterator","dict_reverseitemiterator","odict_iterator","itertools.zip_longest","itertools.pairwise"].contains n=false) (hQ:Q () s):Re M A (letOwnedTupleGo tg (.ref it) u) Q E s:=by
  cases tg <;> first
    | exact iO hQ
    | (cases u <;> first
        | exact iO hQ
        | (refine iD (wpAny_load ho ?_)
           rw[hc,hd]
           show Re M A (if (["enumerate","zip","dict_itemiterator","dict_reverseitemiterator","odict_iterator","itertools.zip_longest","itertools.pairwise"].contains n&&vs[0]? == some (rawInt _))=true then _ else _) Q E s
           rw[oj (by intro h;rw[hn,Bool.false_and]at h;cases h)]
           exact iO hQ))
def Itl (K:Qf)(a:QN):It :=
 #v[λi H=>∃b x,SqL K H a b/\b[i]? = some x,λi H x c=>c=H/\∀b,SqL K H a b->b[i]? = some x,λi H=>∃b,SqL K H a b/\b.length<=i]
def Itt (K:Qf)(a:QN):It :=
 #v[λi H=>∃b x,SqT K H a b/\b[i]? = some x,λi H x c=>c=H/\∀b,SqT K H a b->b[i]? = some x,λi H=>∃b,SqT K H a b/\b.length<=i]
def Itr (lo:Int)(n:Nat):It:=#v[λi _=>i<n,λi H x a=>a=H/\x = .int (lo+i),λi _=>n<=i]
def yh {K} (a it):Turn P w K tg (Itl K a) [it] it (λi h=>h.IsListIter it a i) where
 mem:=by simp
 obj:=λi h st b f=>by
  have e:b=it:=by simpa using f
  subst e;let(o,e,c,d):=st;exact#v[o,e,λv z=>by rw[d]at z;cases z]
 keep:=λi h h' st k=>st.at λo e=>k it (by simp) o e
 item:=by
  intro X y r A L i π s J H E I l st t;subst y r A;let(M,x,j,q):=t;let(n,m,p,Q):=I.list j;let(u,S,O):=m.get q;let(G,F,T,D,C,B):=l it (by simp);refine wpAny_pyNext_list_item st p.isList (by simpa using S) λh' g N=>?_
  let(o,e,c,d):=id g;exact#v[u,rfl,zI e c d (by decide) #v[x,H,I.turned (λb o f e=>(N.2 b f).trans e) G F D C B,O,#v[rfl,λW R=>by rwa[I.list_inj R j]],g,λb f=>(l b f).1]]
 done:=by intro X y r A L i π s J H E I l st t;subst y r A;let(M,j,q):=t;let(n,m,p,Q):=I.list j;let(G,F,T,D,C,B):=l it (by simp);have hl:=m.length;exact wpAny_pyNext_list_end (I.ok.hd L) st p.isList (by simp;lia) λh' U=>#v[rfl,I.turned (λb o f e=>U b o f e) G F D C B]
 self:=λ_ _ _ _ _ st h=>wpAny_pyIter_listiter st h
def sL {K} (a it):Turn P w K tg (Itt K a) [it] it (λi h=>h.IsTupleIter it a i) where
 mem:=by simp
 obj:=λi h st b g=>by
  have e:b=it:=by simpa using g
  subst e;let(o,e,c,d):=st;exact#v[o,e,λv z=>by rw[d]at z;cases z]
 keep:=λi h h' st k=>st.at λo e=>k it (by simp) o e
 item:=by
  intro X y r A L i π s J H E I m st t;subst y r A;let(M,x,l,q):=t;let(f,n,p,Q):=I.tuple l;let(u,S,O):=n.get q;let(G,F,T,D,C,B):=m it (by simp);refine wpAny_pyNext_tuple_item st (p) (by simpa using S) λh' j N=>?_
  let(o,e,c,d):=id j;exact#v[u,rfl,zI e c d (by decide) #v[x,H,I.turned (λb o g e=>(N.2 b g).trans e) G F D C B,O,#v[rfl,λW R=>by rwa[I.tuple_inj R l]],j,λb g=>(m b g).1]]
 done:=by intro X y r A L i π s J H E I m st t;subst y r A;let(M,l,q):=t;let(f,n,p,Q):=I.tuple l;let(G,F,T,D,C,B):=m it (by simp);have hl:=n.length;exact wpAny_pyNext_tuple_end (I.ok.hd L) st (p) (by simp;lia) λh' U=>#v[rfl,I.turned (λb o g e=>U b o g e) G F D C B]
 self:=λ_ _ _ _ _ st h=>wpAny_pyIter_tupleiter st h
def uq {K} (it) (lo) (n):Turn P w K tg (Itr lo n) [it] it (λi h=>IsRangeIter h it (lo+(i:Nat)*1) ((n:Int)-(i:Nat)) 1) where
 mem:=by simp
 obj:=λi h st b a=>by
  have e:b=it:=by simpa using a
  subst e;exact#v[_,st,λv z=>by cases z ]
 keep:=λi h h' st k=>k it (by simp) _ st
 item:=by
  intro X l f m j i π s y H E I d st g;subst l f m;let(x,u,F,r,q,p):=d it (by simp);have W:=Walks.range (prog:=X.prog) (w:=X.w) (I.ok.hd j) it lo 1 n;refine W.item i s _ _ g st λv h' A D c C=>?_
  let(t,rfl):=D;refine#v[_,rfl,zI c rfl rfl (by decide) #v[.int<|lo+i,H,I.turned (λb o a e=>C b o (by simpa using a) e) x u r q p,#v[t,?_],#v[rfl,rfl],c,λb a=>(d b a).1]];rw[Int.mul_one]
 done:=by intro X l f m j i π s y H E I d st g;subst l f m;let(x,u,F,r,q,p):=d it (by simp);exact wpAny_pyNext_range_end (I.ok.hd j) st (by have:n<=i:=g;lia) λh' G=>#v[rfl,I.turned (λb o a e=>G b o a e) x u r q p]
 self:=λ_ _ _ _ _ st h=>wpAny_pyIter_rangeiter st h
end
section
section

def GQ (ta:TA):TI:=λa H R=>ta a H λb c=>∃j,b=[.int j] /\ -(2 ^ 62)<=j/\j<2 ^ 62/\R (Itr 0 j.toNat) c
def yp {ta}(hg:Gl X "range")(hm:X.mg "range" = none)(ha:PA X [a] ta)(hs:‹QY [a] X.env=[(false,eval a X.env)]›):PI X tg (.Call (.Name "range" p) [a] [] pos) (GQ ta):=by
 intro π s f H R I h;refine Call_ (Z2 I hg hm boot_range<|Fw (thn (ha pos π s f H _ I h) ?_ ) hs rfl);rintro us s1 ⟨v,g,c,k,d⟩;let(j,e,d,l,q):=d;subst e;cases k with
 | cons r i =>
  cases i;let(t,rfl):=r;exact call_range_1 ((by
   refine wpAny_pyIter_range (IsRange.new ..) (small_one (by lia) (by lia) d l) ?_;have c:Inv X π f g { s1 with heap:=s1.heap.push { cls:=.type "range",data:=.fields #[.int 0<|QO.toks s1,.int j t,.int 1<|QO.toks s1 + 1] },toks:=(QO.toks s1 + 1 + 1) }:=c.kept λb o e=>jM _ e
   refine#v[(s1.heap.push { cls:=.type "range",data:=.fields #[.int 0<|QO.toks s1,.int j t,.int 1<|QO.toks s1 + 1] }).objs.size,[(s1.heap.push { cls:=.type "range",data:=.fields #[.int 0<|QO.toks s1,.int j t,.int 1<|QO.toks s1 + 1] }).objs.size],_,_,g,rfl,
    c.kept λb o e=>jM _ e,uq _ 0 (j-0).toNat,?_,λb m=>?_,(by simpa using q)]
   .have u:0+((0:Nat):Int)*1=0:=by simp
    have n:(((j-0).toNat:Nat))-((0:Nat))=Builtin.Range.rangeSize 0 j 1:=by rw[rangeSize_one];split <;> lia
    rw[u,n];exact ou _ rfl
   .have e:b=(s1.heap.push { cls:=.type "range",data:=.fields #[.int 0<|QO.toks s1,.int j t,.int 1<|QO.toks s1 + 1] }).objs.size:=by simpa using m
    subst e;exact c.fpOk (qD _)<|c.hok.fresh<|qD _))
def IM (wi:TI)(g:TG)(tb:TS):TS:=λD a H=>wi a H λJ h=>∃W:Nat->Nat->St->Hp->Prop,(∃m,W 0 m a h)/\∀i m a H,W i m a H ->
 (J.stop i H/\D.nx a H)\/(J.go i H/\∃N,(∀b c,N b c->∃e,e<m/\W (i+1) e b c)/\∀x c,J.yld i H x c->g x a c λd f=>tb { D with nx:=N,ct:=N,bk:=D.nx } d f)
def jm (fp:List QN)(h:QW):List (QN×QZ):=fp.filterMap λb=>(h.get? b).map λo=>(b,o)
def aJ (hb:b∈fp)(e:h.get? b=some o):(b,o)∈jm fp h:=OA.2 #v[b,hb,by rw[e];rfl]
def Inv.pinned {σ:St}(I:Inv X π σ H s)(hf:∀b∈fp,bX X π H b)(ho:∀b∈fp,∃o,s.heap.get? b=some o/\∀v,o.data ≠ .cell v):Inv X (π++jm fp s.heap) σ H s :=
 I.pins_of λp f=>(zj.1 f).elim (λz=>I.pin p<|uO _ z) λz=>by
  let(a,e):=(show p.1∈fp/\(QO.heap s).get? p.1=some p.2 by
   let(b,a,e):=OA.1 z;cases q:(QO.heap s).get? b with
   | none=>rw[q]at e;cases e
   | some o =>rw[q]at e;have c:=rn e;subst c;exact#v[a,q])
  let(i,h,g,_):=hf p.1 a;let(o,c,d):=ho p.1 a;rw[e]at c;cases c;exact#v[e,i,h,g,d]
def Inv.unpinned {σ:St}(I:Inv X (π++pl) σ H s):Inv X π σ H s:=I.pins_of λp a=>I.pin p<|uO _<|Of _ a
def JC (hp:PassesOwn (model X.prog X.w) X.A X.env X.xe)(hc:X.calm=true)(hi:PI X tg iter wi)(hg:PG X tg g)(hb:PSs X body tb)
  (hs:autoParam (∀x,Rj iter X.env x=pure x) qAk):PS X (.For tg iter body [] pos) (IM wi g tb):=by
 intro π s R H D I h;refine wpAny_For (thn (hi π s R H _ I h) λv s1 h1=>thn h1 λab s2 h2=>?_) hs;obtain⟨it,F,S,J,H2,e,I2,T,L,Z,W,⟨m0,w0⟩,z⟩:=h2;subst e;have k:∀{t},(∀b∈F,t b=none)->∀b∈F,bX X π t b:=λhn b hb=>#v[hn b hb,(Z b hb).2]
 refine codeAny_forLoop_any (λn Y=>∃i j t,Inv X π j t Y/\S i Y.heap/\(∀b∈F,t b=none)/\W i n j t) ?_ m0 #v[0,R,H2,I2,L,λb hb=>(Z b hb).1,w0];rintro n V ⟨i,c,G,I3,B,E,w3⟩;rcases z i n c G w3 with ⟨A,qn⟩ | ⟨go,N,hN,step⟩
 .refine Nv hp (thn (T.done X rfl rfl rfl hc i π V c G X.xe I3 (k E) B A) ?_ );rintro r s4 ⟨O,I4⟩;subst O;exact PB #v[c,G,I4,qn]
 .refine Nv hp (thn (T.item X rfl rfl rfl hc i π V c G X.xe I3 (k E) B go) ?_ );rintro r s4 ⟨u,O,h4⟩;subst O;refine Nv hp (thn h4 ?_ );rintro _ U ⟨x,H5,I5,r5,y5,y,P⟩;refine Nv hp (thn (hg _ U c H5 x u _ (I5.pinned (k P)<|T.obj _ _ y) r5<|step x H5 y5) ?_ );rintro _ s6 ⟨K,H6,I6,q6⟩;refine Nv hp (thn (hb _ s6 K H6 _ I6 q6) λf M w=>?_);have l:∀{a} {q},Inv X (π++jm F U.heap) a q M->N a q->∃m,m<n/\∃i j t,Inv X π j t M/\S i M.heap/\(∀b∈F,t b=none)/\W i m j t:=λ{a q} p C=>by let(m',hm,w7):=hN a q C;refine#v[m',hm,i+1,a,q,p.unpinned,T.keep _ _ _ y λb hb o e=>(p.pin (b,o)<|uO _<|uO _<|aJ hb e).1,λb hb=>?_,w7];let(o,e,d):=T.obj _ _ y b hb;exact(p.pin (b,o)<|uO _<|uO _<|aJ hb e).2.1
  cases f with
  | next=>let(a,q,p,C):=w;exact l p C
  | cont=>let(a,q,p,C):=w;exact l p C
  | brk=>let(a,q,p,w):=w;exact#v[a,q,p.unpinned,w]
  | ret v=>let(x7,a,q,p,r7,w):=w;exact#v[x7,a,q,p.unpinned,r7,w]
end
end
section
abbrev R2 :=V->V->Hp->VK->Prop
def OpR (X:Cx)(f:My->My->Sem My)(r:R2):Prop :=
 ∀π s (a:St) H x y v u Q,Inv X π a H s->l4 x v->l4 y u->r x y H Q ->
  Re (model X.prog X.w) X.A (f v u) (EP X π a Q) X.xe s
def UnR (X:Cx)(f:My->Sem My)(r:V->Hp->VK->Prop):Prop :=
 ∀π s (a:St) H x v Q,Inv X π a H s->l4 x v->r x H Q ->
  Re (model X.prog X.w) X.A (f v) (EP X π a Q) X.xe s
def w8 (X:Cx)(f:My)(r:List V->Hp->VK->Prop):Prop :=
 ∀π s (a:St) H b us Q,Inv X π a H s->k8 b us->r b H Q ->
  Re (model X.prog X.w) X.A (call f us) (EP X π a Q) X.xe s
def Nf (X:Cx)(r:V->Hp->(Bool->Hp->Prop)->Prop):Prop :=
 ∀π s (a:St) H x v Q,Inv X π a H s->l4 x v->r x H Q ->
  Re (model X.prog X.w) X.A (truthy v) (TP X π a Q) X.xe s
def tOp (r:R2)(ta tb:TE):TE:=λa H Q=>ta a H λx c=>tb a c λy b=>r x y b Q
def tUn (r:V->Hp->VK->Prop)(ta:TE):TE:=λa H Q=>ta a H λx b=>r x b Q
def rI (C:Int->Int->Prop)(g:Int->Int->V):R2:=λx y H Q=>∃i j,x = .int i/\y = .int j/\C i j/\Q (g i j) H
def rI0 (g:Int->Int->V):R2:=λx y H Q=>∃i j,x = .int i/\y = .int j/\Q (g i j) H
def rU (g:Int->V):V->Hp->VK->Prop:=λx H Q=>∃i,x = .int i/\Q (g i) H
section

def Jy (ha:PE X a ta)(hb:PE X b tb){σ:St}{R:V->V->Hp->Prop}(I:Inv X π σ H s)
  (h:ta σ H λx H1=>tb σ H1 λy H2=>R x y H2)  {f:My->My->Sem My}
  (hf:∀v u s2 x y H2,Inv X π σ H2 s2->l4 x v->l4 y u->R x y H2->Re (model X.prog X.w) X.A (f v u) Q X.xe s2) :
  Re (model X.prog X.w) X.A (eval a X.env) (λv s₁=>Re (model X.prog X.w) X.A (eval b X.env) (λu s₂=>Re (model X.prog X.w) X.A (f v u) Q X.xe s₂) X.xe s₁) X.xe s:=by
 refine thn (ha π s σ H _ I h) ?_;rintro v s1 ⟨x,H1,j,d,g⟩
 refine thn (hb π s1 σ H1 _ j g) ?_;rintro u s2 ⟨y,H2,i,c,e⟩
 exact hf v u s2 x y H2 i d c e
def F8 (ho:OpR X (binaryOp op) r)(ha:PE X a ta)(hb:PE X b tb):PE X (.BinOp a op b pos) (tOp r ta tb):=by intro π s c H Q I h;exact wpAny_BinOp (Jy ha hb I h λv u s2 x y g f e d q=>ho π s2 c g x y v u Q f e d q)
def AG (ho:UnR X (unaryOp op) r)(ha:PE X a ta):PE X (.UnaryOp op a pos) (tUn r ta):=by intro π s b H Q I h;exact UnaryOp_ (thn (ha π s b H _ I h) λv s1 #v[x,f,e,c,d]=>ho π s1 b f x v Q e c d)
def opI {g:Int->Int->Int}
  (rule:∀i j t u s Q E,C i j->Q (.int (g i j) s.toks) { s with toks:=s.toks+1 }->Re (model X.prog X.w) X.A (f (.int i t)<|.int j u) Q E s) :
  OpR X f (rI C λi j=>.int<|g i j):=by rintro π s d H x y v u Q I b a ⟨i,j,rfl,rfl,c,q⟩;let(t,rfl):=b;let(t',rfl):=a;exact rule i j t t' s _ _ c #v[.int<|g i j,H,I.tok _,#v[_,rfl],q]
def Kz {g:Int->Int->Int}
  (rule:∀i j t u s Q E,Q (.int (g i j) s.toks) { s with toks:=s.toks+1 }->Re (model X.prog X.w) X.A (f (.int i t)<|.int j u) Q E s) :
  OpR X f (rI0 λi j=>.int<|g i j):=by rintro π s c H x y v u Q I b a ⟨i,j,rfl,rfl,q⟩;let(t,rfl):=b;let(t',rfl):=a;exact rule i j t t' s _ _ #v[.int<|g i j,H,I.tok _,#v[_,rfl],q]
def Jv {g:Int->Int->Bool}
  (rule:∀i j t u s Q E,Q (.bool<|g i j) s->Re (model X.prog X.w) X.A (f (.int i t)<|.int j u) Q E s) :
  OpR X f (rI0 λi j=>.bl<|g i j):=by rintro π s c H x y v u Q I b a ⟨i,j,rfl,rfl,q⟩;let(t,rfl):=b;let(t',rfl):=a;exact rule i j t t' s _ _ #v[.bl<|g i j,H,I,rfl,q]
def MT (i j:Int):Prop:=0<j/\j<1073741824
def DZ (i j:Int):Prop:=0<=j/\j<=1000000/\i.natAbs<2 ^ 64
def yJ (i j:Int):Prop:=(-(2 ^ 64)<i/\i<2 ^ 64)\/(-(2 ^ 64)<j/\j<2 ^ 64)
def yJ.ok (h:yJ i j):IntMulOk i j:=by
 rcases h with ⟨b,a⟩ | ⟨b,a⟩
 .exact .of_left<|intBits_le_64 b a
 .exact .of_right<|intBits_le_64 b a
def gc :OpR X (binaryOp .Add) (rI0 λi j=>.int<|i+j):=Kz λ_ _ _ _ _ _ _ q=>add_int q
def oU :OpR X (binaryOp .Mult) (rI yJ λi j=>.int<|i*j):=opI λ_ _ _ _ _ _ _ a q=>mul_int q a.ok
def oK :OpR X (binaryOp .FloorDiv) (rI MT λi j=>.int<|i / j):=opI λi j _ _ _ _ _ a q=>by have c:=a.1;have b:=a.2;exact floordiv_int (by lia) (by rwa[Qp i<|by lia]) (.inl<|PyProof.noPylong_small<|by lia)
def bR :OpR X (binaryOp .Mod) (rI (λ_ j=>0<j) λi j=>.int<|i % j):=opI λi j _ _ _ _ _ a q=>by have b:=a;exact mod_int' (by lia) (by rwa[Int.fmod_eq_emod_of_nonneg i<|by lia])
def uh :OpR X (binaryOp .Pow) (rI DZ λi j=>.int<|i ^ j.toNat):=opI λ_ _ _ _ _ _ _ a q=>pow_int_small a.1 a.2.1 a.2.2 q
def unI {g:Int->Int}
  (rule:∀i t s Q E,Q (.int (g i) s.toks) { s with toks:=s.toks+1 }->Re (model X.prog X.w) X.A (f<|.int i t) Q E s) :
  UnR X f (rU λi=>.int<|g i):=by rintro π s b H x v Q I a ⟨i,rfl,q⟩;let(t,rfl):=a;exact rule i t s _ _ #v[.int<|g i,H,I.tok _,#v[_,rfl],q]
def sF :UnR X (unaryOp .USub) (rU λi=>.int (-i)):=unI λ_ _ _ _ _ q=>neg_int q
end
def KL:V->V->Bool
 | .non,.non=>true | .non,.int _=>true | .int _,.non=>true | .non,.bl _=>true | .bl _,.non=>true | .non,.str _=>true | .str _,.non=>true
 | .int _,.int _=>true | .bl _,.bl _=>true | .str _,.str _=>true | .byt _,.byt _=>true
 | .int _,.str _=>true | .str _,.int _=>true | .bl _,.str _=>true | .str _,.bl _=>true
 | _,_=>false
def rEq :R2:=λx y H Q=>KL x y=true/\Q (.bl<|decide (x=y)) H
def rNe :R2:=λx y H Q=>KL x y=true/\Q (.bl (!decide (x=y))) H
def wu :decide (V.int i=V.int j)=(i == j):=by rw[Ov];simp
def AV :decide (V.bl i=V.bl j)=(i == j):=by rw[Ov];simp
def wZ :decide (V.str i=V.str j)=(i == j):=by rw[Ov];simp
def wb :decide (V.byt i=V.byt j)=(i.toList == j.toList):=by rw[Ov];cases i;cases j;simp
section

def u7 {σ:St}(I:Inv X π σ H s)(q:Q (.bl k) H)(e:k=k'):EP X π σ Q (.bool k') s:=by subst e;exact#v[.bl k,H,I,rfl,q]
def LY :OpR X (compareOp .Eq) rEq:=by
 rintro π s d H x y v u Q I c a ⟨b,q⟩;cases x with
 | non =>
  cases c;cases y with
  | non=>cases a;exact PySem.EqNone.eq_none_none (u7 I q<|by simp)
  | bl j=>cases a;exact PySem.EqNone.eq_none_bool (u7 I q<|by simp)
  | int j=>let(t',rfl):=a;exact PySem.EqNone.eq_none_int (u7 I q<|by simp)
  | str j=>let(t',rfl):=a;exact PySem.EqNone.eq_none_str (u7 I q<|by simp)
  | _=>exact absurd (b) tN
 | bl i =>
  cases c;cases y with
  | non=>cases a;exact PySem.EqNone.eq_bool_none (u7 I q<|by simp)
  | bl j=>cases a;exact eq_bool<|u7 I q AV
  | str j=>let(t',rfl):=a;exact PySem.EqMixed.eq_bool_str (u7 I q<|by simp)
  | _=>exact absurd (b) tN
 | int i =>
  let(t,rfl):=c;cases y with
  | non=>cases a;exact PySem.EqNone.eq_int_none (u7 I q<|by simp)
  | int j=>let(t',rfl):=a;exact eq_int<|u7 I q wu
  | str j=>let(t',rfl):=a;exact PySem.EqMixed.eq_int_str (u7 I q<|by simp)
  | _=>exact absurd (b) tN
 | str i =>
  let(t,rfl):=c;cases y with
  | non=>cases a;exact PySem.EqNone.eq_str_none (u7 I q<|by simp)
  | bl j=>cases a;exact PySem.EqMixed.eq_str_bool (u7 I q<|by simp)
  | int j=>let(t',rfl):=a;exact PySem.EqMixed.eq_str_int (u7 I q<|by simp)
  | str j=>let(t',rfl):=a;exact eq_str<|u7 I q wZ
  | _=>exact absurd (b) tN
 | byt i =>
  let(t,rfl):=c;cases y with
  | byt j=>let(t',rfl):=a;exact PySem.W.eq_bytes<|u7 I q wb
  | _=>exact absurd (b) tN
 | _=>cases y <;> exact absurd (b) tN
def Ln :OpR X (compareOp .NotEq) rNe:=by
 rintro π s d H x y v u Q I c a ⟨b,q⟩;cases x with
 | non =>
  cases c;cases y with
  | non=>cases a;exact PySem.EqNone.ne_none_none (u7 I q<|by simp)
  | bl j=>cases a;exact PySem.EqNone.ne_none_bool (u7 I q<|by simp)
  | int j=>let(t',rfl):=a;exact PySem.EqNone.ne_none_int (u7 I q<|by simp)
  | str j=>let(t',rfl):=a;exact PySem.EqNone.ne_none_str (u7 I q<|by simp)
  | _=>exact absurd (b) tN
 | bl i =>
  cases c;cases y with
  | non=>cases a;exact PySem.EqNone.ne_bool_none (u7 I q<|by simp)
  | bl j=>cases a;exact ne_bool<|u7 I q<|AZ not AV
  | str j=>let(t',rfl):=a;exact PySem.EqMixed.ne_bool_str (u7 I q<|by simp)
  | _=>exact absurd (b) tN
 | int i =>
  let(t,rfl):=c;cases y with
  | non=>cases a;exact PySem.EqNone.ne_int_none (u7 I q<|by simp)
  | int j=>let(t',rfl):=a;exact ne_int<|u7 I q<|AZ not wu
  | str j=>let(t',rfl):=a;exact PySem.EqMixed.ne_int_str (u7 I q<|by simp)
  | _=>exact absurd (b) tN
 | str i =>
  let(t,rfl):=c;cases y with
  | non=>cases a;exact PySem.EqNone.ne_str_none (u7 I q<|by simp)
  | bl j=>cases a;exact PySem.EqMixed.ne_str_bool (u7 I q<|by simp)
  | int j=>let(t',rfl):=a;exact PySem.EqMixed.ne_str_int (u7 I q<|by simp)
  | str j=>let(t',rfl):=a;exact ne_str<|u7 I q<|AZ not wZ
  | _=>exact absurd (b) tN
 | byt i =>
  let(t,rfl):=c;cases y with
  | byt j=>let(t',rfl):=a;exact PySem.W.ne_bytes<|u7 I q<|AZ not wb
  | _=>exact absurd (b) tN
 | _=>cases y <;> exact absurd (b) tN
def Hl :OpR X (compareOp .Lt) (rI0 λi j=>.bl<|decide (i<j)):=Jv λ_ _ _ _ _ _ _ q=>lt_int q
def GG :OpR X (compareOp .Gt) (rI0 λi j=>.bl<|decide (j<i)):=Jv λ_ _ _ _ _ _ _ q=>gt_int q
def GE :OpR X (compareOp .GtE) (rI0 λi j=>.bl<|decide (j<=i)):=Jv λ_ _ _ _ _ _ _ q=>ge_int q
def HU :OpR X (compareOp .Is) (λx y H Q=>y = .non/\Q (.bl<|decide (x = .non)) H):=by
 rintro π s c H x y v u Q I a b ⟨rfl,q⟩;cases b;refine is_none_gen<|u7 I q ?_;cases x <;> first
  | (cases a;rfl)
  | (let(t,rfl):=a;rfl)
def FW :OpR X (compareOp .IsNot) (λx y H Q=>y = .non/\Q (.bl (!decide (x = .non))) H):=by
 rintro π s c H x y v u Q I a b ⟨rfl,q⟩;cases b;refine isnot_none_gen<|u7 I q ?_;cases x <;> first
  | (cases a;rfl)
  | (let(t,rfl):=a;rfl)
def gA (b)(h:autoParam (op ≠ .In) gC)(h2:autoParam (op ≠ .NotIn) gC):behindInMarks op b=false:=by
 have c:(op == CmpOp.In)=false:=by cases op <;> first | rfl | exact absurd rfl h
 have a:(op == CmpOp.NotIn)=false:=by cases op <;> first | rfl | exact absurd rfl h2
 cases b <;> simp[behindInMarks,c,a]
def Hi (t:TE):TT:=λa H Q=>t a H λx b=>∃k,x = .bl k/\Q k b
def fA (ho:OpR X (compareOp op) r)(ha:PE X a ta)(hb:PE X b tb)(hm:behindInMarks op b=false):PT X (.Compare a [op] [b] pos) (Hi<|tOp r ta tb):=by
 intro π s d H Q I h;refine wpAny_isTrue_Compare1 (thn (ha π s d H _ I h) λv s1 #v[x,w,p,i,m]=>thn (hb π s1 d w _ p m) λu s2 #v[y,t,o,g,l] =>
  thn (ho π s2 d t x y v u _ o i g l) ?_ ) hm;rintro c A ⟨z,q,n,f,k,e,j⟩
 subst e;cases f;exact Kl #v[q,n,j]
def Cu (K:Qf)(x:V)(H:Hp)(k:Bool):Prop :=
 match x with
 | .non=>k=false
 | .bl b=>k=b
 | .int i=>k=(i != 0)
 | .str y=>y.length<=QX/\k=((y.length:Int) != 0)
 | .byt y=>y.size<=QX/\k=((y.size:Int) != 0)
 | .ref p=>(∃a,SqL K H p a/\k = !a.isEmpty)\/(∃a,SqT K H p a/\k = !a.isEmpty)\/∃c,H p=some (.dK c)/\k = !c.isEmpty
 | _=>False
def tM {vs:List (κ×My)}(r:KV d3 vs):(!vs.isEmpty) = !d3.isEmpty:=by cases r <;> rfl
def ka (r:k8 xs its):(!its.toArray.isEmpty) = !xs.isEmpty:=by cases r <;> simp
def dR :(QX:Nat)<2 ^ 63:=by rw[xD];decide
def Km :Nf X (λx H Q=>∃k,Cu X.K x H k/\Q k H):=by
 rintro π s A H x v Q I g ⟨k,e,q⟩;have B:=xD;cases x with
 | non =>cases g;subst e;exact truthy_none #v[H,I,q]
 | bl b =>cases g;subst e;exact Kl #v[H,I,q]
 | int i =>let(t,rfl):=g;subst e;exact PySem.P.truthy_int #v[H,I,q]
 | str y =>let(t,rfl):=g;let(w,a):=e;subst a;exact PySem.P.truthy_str (by lia) #v[H,I.tok _,q]
 | byt y =>let(t,rfl):=g;let(w,a):=e;subst a;exact PySem.W.truthy_bytes (by lia) #v[H,I.tok _,q]
 | ref p =>
  cases g;have a:=e;rcases a with ⟨f,j,a⟩ | ⟨f,j,a⟩ | ⟨c,j,a⟩
  .subst a;let(o,r,n,u):=I.list j;have d:=r.length;exact wpAny_truthy_list n.isList (by simp only[tG];lia) #v[H,I.tok _,by rwa[ka r]]
  .subst a;let(o,r,n,u):=I.tuple j;have d:=r.length;exact truthy_tuple n (by simp only[tG];lia) #v[H,I.tok _,by rwa[ka r]]
  .subst a;let(u,z,l,r,m):=I.hok p _ j;have d:=Lq r;exact wpAny_truthy_dict z m (by lia) #v[H,I.tok _,by rwa[tM r]]
 | _=>exact(e).elim
def tW :OpR X (binaryOp .Add) (λx y H Q=>∃i j,x = .str i/\y = .str j/\i.length+j.length<=QX/\Q (.str<|i++j) H):=by rintro π s d H x y v u Q I b a ⟨i,j,rfl,rfl,c,q⟩;let(t,rfl):=b;let(t',rfl):=a;exact add_str (λt' e=>#v[.str<|i++j,H,I.tok _,#v[_,rfl],q]) c
def C5 (r:k8 [x] us):∃u,us=[u]/\l4 x u:=by
 cases r with
 | cons b a=>cases a;exact#v[_,rfl,b]
def zZ :w8 X (.builtin "abs") (λxs H Q=>∃i,xs=[.int i]/\Q (.int<|if i<0 then -i else i) H):=by rintro π s a H xs us Q I r ⟨i,rfl,q⟩;let(u,rfl,t,rfl):=C5 r;exact call_abs_int λu b=>#v[.int (if i<0 then -i else i),H,I.tok _,#v[_,rfl],q]
def yg (hc:X.calm=true):w8 X (.builtin "min") (λxs H Q=>∃i j,xs=[.int i,.int j]/\Q (.int<|if j<i then j else i) H):=by
 rintro π s g H xs us Q I r ⟨i,j,rfl,q⟩;obtain⟨u,b,rfl,⟨t,rfl⟩,⟨t',rfl⟩⟩:=(show ∃u b,us=[u,b]/\l4 (V.int i) u/\l4 (V.int j) b by
  cases r with
  | cons f e =>
   cases e with
   | cons d c=>cases c;exact#v[_,_,rfl,f,d])
 refine min_two_ints (I.ok.hd hc) λh' l k=>#v[_,H,I.kept k,?_,q]
 by_cases a:j<i
 .rw[nY a,nY a];exact#v[_,rfl]
 .rw[oj a,oj a];exact#v[_,rfl]
def lZ :w8 X (.type "int") (λxs H Q=>(∃i,xs=[.int i]/\Q (.int i) H)\/∃k,xs=[.bl k]/\Q (.int<|if k then 1 else 0) H):=by
 intro π s b H xs us Q I r h;rcases h with ⟨i,rfl,q⟩ | ⟨k,rfl,q⟩
 .let(u,rfl,t,rfl):=C5 r;exact call_int_int #v[.int i,H,I,#v[_,rfl],q]
 .let(u,rfl,a):=C5 r;cases a;exact call_int_bool #v[.int (if k then 1 else 0),H,I.tok _,#v[_,rfl],q]
end
end
section
def fU.some_of (r:fU (some v) o):∃u,o=some u/\l4 v u:=by
 cases o with
 | none=>exact(r).elim
 | some u=>exact#v[u,rfl,r]
end
variable {kindOf:Str->Option Ro}
section
structure Room k (A:QR):Prop where
 hd:A.handled=none
 dp:A.depth+3*k+5<recursionLimit
 un:A.units+16*k+200<Rl
 gd:A.guards=some []
def Room.mono (r:Room k A)(h:j<=k):Room j A:=#v[r.hd,by have:=r.dp;lia,by have:=r.un;lia,r.gd]
def Room.deeper (r:Room (k+1) A)(env):Room k (A.deeper env) :=
 #v[r.hd,by have:=r.dp;show A.depth+1+3*k+5<_;lia,by have:=r.un;show A.units+3+16*k+200<_;lia,r.gd]
def Room.depth (r:Room k A):A.depth<recursionLimit:=by have:=r.dp;lia
def Room.units (r:Room k A):A.units+64<Rl:=by have:=r.un;lia
def Room.units0 (r:Room k A):A.units<Rl:=by have:=r.un;lia
def T7 :TA:=λ_ H Q=>Q [] H
def z9 (ta:TE)(tr:TA):TA:=λa H Q=>ta a H λx d=>tr a d λb c=>Q (x::b) c
section

def A3 :PA X [] T7:=λ_ _ _ _ H Q I h=>NY #v[[],H,I,.nil,h]
def r8 (ha:PE X e te)(hr:PA X es t)(hs:‹QY (e::es) X.env=(false,eval e X.env)::QY es X.env›):PA X (e::es) (z9 te t):=by intro pos π s a H Q I h;rw[hs];refine Jg (thn (ha π s a H _ I h) ?_ );rintro u s1 ⟨x,l,j,d,g⟩;exact thn (hr pos π s1 a l _ j g) λus s2 #v[b,k,i,c,f]=>#v[x::b,k,i,.cons d c,f]
def EJ (t:TA):TE:=λc H Q=>t c H λa b=>a.length<=QX/\∀p,b p=none->Q (.ref p) (upd b p<|.tup a)
def DR (t:TA):TE:=λc H Q=>t c H λa b=>a.length<=QX/\∀p,b p=none->Q (.ref p) (upd b p<|.lst a)
def sO {x1}(h:PA X es t):PE X (.Tuple es x1 pos) (EJ t):=by intro π s d H Q I g;refine wpAny_Tuple_spliced (thn (h pos π s d H _ I g) λus s1 #v[f,c,a,r,z,q]=>#v[by rwa[<-r.length],?_]);refine#v[.ref (~~~s1),upd c (~~~s1)<|.tup f,a.laid (λb u e=>jM _ e) (qD _) (#v[z,us,r,#v[_,ou _ rfl,rfl,_,rfl],.mk (ou _ rfl) rfl]),rfl,q _ (a.hok.fresh<|qD _) ]
def oX (h:PA X es t):PE X (.List es pos) (DR t):=by intro π s d H Q I g;refine wpAny_List_spliced (thn (h pos π s d H _ I g) λus s1 #v[f,c,a,r,z,q]=>#v[by rwa[<-r.length],?_]);refine#v[.ref (~~~s1),upd c (~~~s1)<|.lst f,a.laid (λb u e=>jM _ e) (qD _) (#v[z,us,0,r,ou _ rfl]),rfl,q _ (a.hok.fresh<|qD _) ]
end
abbrev Sp :=List V->Hp->VK->XK->Prop
abbrev CXT :=List Ra->Hp->QO->XK->My->QO->Prop
structure Env0 P w K mg base (A:QR) outer (s:QO) (H:Hp):Prop where
 frames:A.frames=some outer
 mod:Mod K mg base
 bs:∀b o,base.get? b=some o->s.heap.get? b=some o/\H b=none
 bsz:base.objs.size<= ~~~s
 funs:s.heap.FunFrames base outer
 frf:∀b∈frs outer,H b=none
 hok:HOk P w H s.heap
 bare:AllBare s.gens
def CE (outer:List Ra)(P:QP)(w:QQ)(H:Hp)(s:QO)(Q:VK)(u:My)(s':QO):Prop :=
 ∃v a,s'.os=s.os/\AllBare s'.gens/\Un (frs outer) [] H a s.heap s'.heap/\HOk P w a s'.heap/\l4 v u/\Q v a
def CR (CX:CXT)(outer:List Ra)(P:QP)(w:QQ)(H:Hp)(s:QO)(Q:VK)(E:XK)(r:Result)(s':QO):Prop :=
 match r with
 | .ok (.ret u)=>CE outer P w H s Q u s'
 | .ok _=>False
 | .error e=>CX outer H s E e s'
structure FnOk P w K mg base CX k f fd (ps:List Str) (sp:Sp):Prop where
 len:∀vs H Q E,sp vs H Q E->vs.length=ps.length
 run:∀A outer s H args us vs Q E,Room k A->Env0 P w K mg base A outer s H->BindsTo s fd args (ps.zip us)->k8 vs us->sp vs H Q E ->
  codeAny (model P w) A (.call (.ref f) args) (CR CX outer P w H s Q E) s
def FnOk.imp {K}(F:FnOk P w K mg base CX k f fd ps sp)
  (h:∀vs H Q E,sp' vs H Q E->sp vs H Q E):FnOk P w K mg base CX k f fd ps sp' :=
 #v[λvs H Q E q=>F.len vs H Q E<|h _ _ _ _ q,λA a s H b us vs Q E e g i c d=>F.run A a s H b us vs Q E e g i c<|h _ _ _ _ d]
section
variable {σ:St}
def Inv.env0 (I:Inv X π σ H s):Env0 X.prog X.w X.K X.mg X.base X.A X.stack s H :=
 #v[I.ok.frames,I.ok.mod,I.bs,uj I.ok.bsz I.sz,I.stack,I.stkFree,I.hok,I.bare]
def Inv.after (I:Inv X π σ H s)(h:CE X.stack X.prog X.w H s Q u s'):EP X π σ Q u s':=by let(v,i,e,bare,un,c,r,q):=h;let(f,g,d,t,a):=s';obtain rfl:=e;exact#v[v,i,I.call un c bare<|λb z=>absurd z<|by simp,r,q]
end
def eY (sp:Sp)(dvs:List V)(E:XK)(t:TA):TE:=λa H Q=>t a H λb c=>sp (b++dvs) c Q E
def aW (K:Qf)(fd:QT)(ps:List Str)(ds:List My):Prop :=
 ∀s us,K.In s.heap->(us++ds).length=ps.length->BindsTo s fd #v[us,[]] (ps.zip<|us++ds)
def aW.all {K}(h:∀us,us.length=ps.length->bindArgs fd #v[us,[]]=pure (ps.zip us)):aW K fd ps []:=λs us _ hl=>by rw[Am]at hl ⊢;exact .of_eq<|h us hl
def uI (CX:CXT)(X:Cx)(E:XK):Prop:=∀π (b:St) H s e a,Inv X π b H s->CX X.stack H s E e a->X.xe e a
structure FnScope (N P:List Str) (sc:QS):Prop where
 kind:sc.kind = .function:=by rfl
 co:sc.isCoroutine=false:=by rfl
 gen:sc.isGenerator=false:=by rfl
 nd:N.Nodup:=by decide +kernel
 pre:N.take P.length=P:=by rfl
 par:∀x∈P,sc.names.lookup x=some .local\/sc.names.lookup x=some .cell:=by decide +kernel
 nofree:∀y∈sc.names,y.2 ≠ .free:=by decide +kernel
theorem mC :∀{binds} {m},(∀v,(x,v) ∉ binds)->bindL kindOf binds m x=m x
 | [],_,_=>rfl
 | (n,v)::r,m,h=>by
  unfold bindL;rw[mC λw a=>h w<|kN _ a];split
  .have:x≠n:=by rintro rfl;exact h v ll
   simp[this]
  .rfl
theorem lU :∀{binds} {m},(∀v,(x,v) ∉ binds)->bindC kindOf binds m x=m x
 | [],_,_=>rfl
 | (n,v)::r,m,h=>by
  unfold bindC;rw[lU λw a=>h w<|kN _ a];split
  .rfl
  .have:x≠n:=by rintro rfl;exact h v ll
   simp[this]
def lR :∀{P:List Str} {vs} {i:Nat} {m},P.Nodup->P[i]? = some x->vs[i]? = some v->kindOf x=some .local ->
  bindL kindOf (P.zip vs) m x=some v
 | [],_,_,_,_,h,_,_=>by simp at h
 | _::_,[],_,_,_,_,h,_=>by simp at h
 | p::P,w::vs,0,m,nd,h1,h2,hk=>by
  simp at h1 h2;subst h1;subst h2;show bindL kindOf ((p,w)::P.zip vs) m p=_;unfold bindL;rw[mC λv a=>(FY.1 nd).1 (Ow a).1,nY hk];simp
 | p::P,w::vs,i+1,m,nd,h1,h2,hk=>by show bindL kindOf ((p,w)::P.zip vs) m x=_;exact lR (FY.1 nd).2 (by simpa using h1) (by simpa using h2) hk
def mF :∀{P:List Str} {vs} {i:Nat} {m},P.Nodup->P[i]? = some x->vs[i]? = some v->kindOf x≠some .local ->
  bindC kindOf (P.zip vs) m x=some v
 | [],_,_,_,_,h,_,_=>by simp at h
 | _::_,[],_,_,_,_,h,_=>by simp at h
 | p::P,w::vs,0,m,nd,h1,h2,hk=>by
  simp at h1 h2;subst h1;subst h2;show bindC kindOf ((p,w)::P.zip vs) m p=_;unfold bindC;rw[lU λv a=>(FY.1 nd).1 (Ow a).1,oj hk];simp
 | p::P,w::vs,i+1,m,nd,h1,h2,hk=>by show bindC kindOf ((p,w)::P.zip vs) m x=_;exact mF (FY.1 nd).2 (by simpa using h1) (by simpa using h2) hk
def P2 (N:List Str)(vs:List V):St:=vs.map some++List.replicate (N.length-vs.length) none
def gB (CX:CXT)(P:QP)(w:QQ)(K:Qf)(mg:Str->Option My)(base:QW)(N:List Str)(qual:Str)(scope:QS)(f:QN)(cd:My)(A:QR)(outer:List Ra)(s:QO)(H:Hp)(E:XK):Cx where
 prog:=P
 w:=w
 K:=K
 mg:=mg
 base:=base
 A:=A.deeper<|envOfC qual scope (~~~s) f cd
 N:=N
 s₀:=s
 H₀:=H
 env:=envOfC qual scope (~~~s) f cd
 outer:=outer
 stack:=envOfC qual scope (~~~s) f cd::outer
 ex:=[]
 calm:=true
 fn:=λ_=>true
 pn:=[]
 xe:=λe b=>Re (model P w) (A.deeper<|envOfC qual scope (~~~s) f cd) (leaving (envOfC qual scope (~~~s) f cd) e) (λ_ a=>CX outer H s E e a) (λc a=>CX outer H s E c a) b
def rQ {sc:QS}(h:sc.names.lookup x=some .cell):∃c,(cellsFrom n sc.names []).lookup x=some c:=by exact Cc.1 (NW sc.names n []<|.inl h)
def Hd {K:Qf}{kV}
     (lk:K.lookup f=some #v[oc,od,.func<|PySem.W.fnOf name qual params body scope dV kV doc pm an dr ct,osl]) (hcd:PySem.W.codeIn K dr qual=true) (S:FnScope N ps scope)
  (len:∀vs H Q E,sp vs H Q E->vs.length=ps.length)
  (hbody:∀A outer s H vs Q E,Room k (A.deeper<|envOfC qual scope (~~~s) f dr)->sp vs H Q E ->
   ∃t,PSs (gB CX P w K mg base N qual scope f dr A outer s H E) body t/\t { nx:=λ_ H'=>Q .non H',rt:=Q } (P2 N vs) H) :
  FnOk P w K mg base CX (k+1) f (PySem.W.fnOf name qual params body scope dV kV doc pm an dr ct) ps sp:=by
 refine#v[len,λA outer s H Y us vs Q E U d hb r G=>?_];have hl:=len _ _ _ _ G;have Z:K.In s.heap:=d.mod.kin.keeps λb o e=>(d.bs b o e).1
 have T:=d.mod.nolimit.keeps λb o e=>(d.bs b o e).1
 have B:∀y∈ps.zip us,scope.names.lookup y.1=some .local\/(scope.names.lookup y.1=some .cell/\((cellsFrom (~~~s+1) scope.names []).lookup y.1).isSome=true):=λ#v[n,v] l=>by
  rcases S.par n (Ow l).1 with q | q
  .exact .inl q
  .exact .inr #v[q,NW _ _ _<|.inl q]
 refine codeAny_call_function U.depth (Z _ _ lk) rfl S.co S.gen rfl (PySem.W.codeRec_of Z hcd)<|hb _ _ _ _<|wpAny_newFunctionEnv_cells S.kind B λac he s1 x=>?_
 subst he;refine#v[T.keeps x.toInCall.keep,codeAny_func ?_];let(t,ht,hq):=hbody A outer s H vs Q E (U.deeper _) G;have I:Inv (gB CX P w K mg base N qual scope f dr A outer s H E) [] (P2 N vs) H s1:=(by
  have ab:ps.length<=N.length:=by have:=AZ List.length S.pre;rw[Bp]at this;lia
  let(O,tk,rfl,X):=x.done;have m:∀b:QN,b ∉ (gB CX P w K mg base N qual scope f dr A outer s H E).ex:=λb z=>absurd (show b∈([]:List QN) from z) (by simp)
  refine#v[#v[d.mod,S.kind,rfl,rfl,qD _,λy z c O g=>?_,λy l=>?_,λy c _ h=>?_,λ_=>U.hd,PD d.frames,.inr #v[rfl,rfl],λb z=>absurd z<|m b,d.bs,d.bsz,λb _ _=>m b,λb z=>absurd z<|m b,d.funs,d.frf],
   rfl,d.bare,Un.kept X,#v[_,x.toInCall.ns,λi y v O g h3=>?_],λy c h=>#v[_,x.cell y c h],d.hok.fresh<|qD _,λy c h=>?_,λp L=>absurd (show p∈([]:List (QN×QZ)) from L) (by simp),d.hok.kept X,?_]
  .exact name_of_addr x.apart (yI O) (yI g)
  .have l:=l;rcases l with l | l
   .exact rQ l
   .exact absurd rfl (S.nofree _<|yI l)
  .exact Ir (x.above y c<|yI h)
  .have M:i<vs.length:=by
    unfold P2 at g;by_cases M:i<vs.length
    .exact M
    .rw[FL<|by simpa using M]at g;rw[Ly]at g;split at g <;> cases g
   have ha:vs[i]? = some v:=by
    unfold P2 at g;rw[EL (by simpa using M),sq]at g;cases e:vs[i]? with
    | none=>rw[e]at g;cases g
    | some a=>rw[e]at g;cases g;rfl
   let(u,W,D):=r.get ha;have L:ps[i]? = some y:=by rwa[<-S.pre,List.getElem?_take_of_lt<|by lia]
   have F:ps.Nodup:=by rw[<-S.pre];exact S.nd.sublist (List.take_sublist _ _)
   refine#v[u,D,?_];rcases S.par y (uP L) with k | k
   .exact .inl #v[k,lR F L W k]
   .let(c,e):=rQ k;refine .inr #v[.inl k,c,e,?_];have q:=x.cell y c e;rwa[mF F L W (by show scope.names.lookup y≠_;rw[k];decide)]at q
  .exact d.hok.fresh (Ir<|x.above y c<|yI h)
  .unfold P2;show _=N.length;rw[xy,jI,CZ];lia)
 refine Dp (ht [] s1 (P2 N vs) H _ I hq) (λfl R C=>?_) λe R C=>C
 have fin:∀{j:St} {H':Hp} {v:V} {u:My},Inv (gB CX P w K mg base N qual scope f dr A outer s H E) [] j H' R->l4 v u->Q v H'->CE outer P w H s Q u R :=
  λ{j H' v u} J D q=>#v[v,H',J.os,J.bare,J.base,J.hok,D,q]
 cases fl with
 | ret u =>let(v,j,H',J,D,q):=C;exact fin J D q
 | next =>let(j,H',J,q):=C;exact fin (v:=V.non) J rfl q
 | brk =>let(_,_,_,q):=C;exact False.elim q
 | cont =>let(_,_,_,q):=C;exact False.elim q
end
section
section
variable {id:String}
def tCB (r:List V->Hp->VK->Prop)(t:TA):TE:=λa H Q=>t a H λb c=>r b c Q
def ag (hc:w8 X (.builtin id) r)(hg:Gl X x)(hm:X.mg x=none)(hv:Ri x=some (.builtin id))(ha:PA X (e::es) t)(hn:autoParam (x ≠ "__name__") gC)(hdb:autoParam (nDb x) gC)
  (he:‹QY (e::es) X.env=(false,eval e X.env)::QY es X.env›) (hpl:‹(Rb pos<|QY es X.env).any (·.1)=false›):PE X (.Call (.Name x p) (e::es) [] pos) (tCB r t):=by intro π s a H Q I h;refine Np<|Z2 I hg hm hv (PyProof.Rows.callWith_builtin1 (thn (ha pos π s a H _ I h) λus s1 #v[b,g,f,c,d]=>hc π s1 a g b us Q f c d) he hpl) hn hdb
def ah (hc:w8 X (.type T) r)(hg:Gl X x)(hm:X.mg x=none)(hv:Ri x=some (.type T))(ha:PA X (e::es) t)(hn:autoParam (x ≠ "__name__") gC)(hdb:autoParam (nDb x) gC)
  (he:‹QY (e::es) X.env=(false,eval e X.env)::QY es X.env›) (hpl:‹(Rb pos<|QY es X.env).any (·.1)=false›):PE X (.Call (.Name x p) (e::es) [] pos) (tCB r t):=by intro π s a H Q I h;refine Np<|Z2 I hg hm hv (Fw (thn (ha pos π s a H _ I h) λus s1 #v[b,g,f,c,d]=>hc π s1 a g b us Q f c d) he hpl) hn hdb
end
end
end L2
namespace HT
open PySem PyProof.Rows
section

def cat_tup (ht:IsTup s.heap t vs.toArray)(hb:IsTup s.heap b ws.toArray)(hv:vs≠[])
  (h1:ws=[]->Q (.ref t) s) (h2:ws≠[]->Q (.ref (~~~s)) { s with heap:=s.heap.push { cls:=.type "tuple",data:=.seq (vs++ws).toArray } })
  (hsz:vs.length+ws.length<=QX):Re (model prog w) A (binaryOp .Add (.ref t)<|.ref b) Q E s:=by
 obtain⟨⟨cls,o,data,k⟩,i,m,n,l⟩:=id ht;obtain⟨⟨p,g,j,c⟩,a,f,n2,d⟩:=id hb;simp only at m l f d;subst m l f d;have e:vs.toArray++ws.toArray=(vs++ws).toArray:=by simp
 by_cases h:ws=[]
 .exact concat_meets #v[_,i,rfl] #v[_,a,rfl] noFill_tuple_add seq_tuple_add Ph OS (OB _ _)
   (tuple_addW1 t b vs.toArray ws.toArray n n2 o g k c (by simpa using hv)<|by simp[h]) #v[i,a,h1 h]
 .refine concat_meets #v[_,i,rfl] #v[_,a,rfl] noFill_tuple_add seq_tuple_add Ph OS (OB _ _)
   (tuple_addW2 t b vs.toArray ws.toArray n n2 o g k c (by simpa using hv) (by simpa using h) (by rwa[tG,tG])) #v[i,a,?_]
  rw[e];exact h2 h
def sIx (n d:Nat):Option Int->Nat
 | none=>d
 | some v=>if v<0 then(v+(n:Int)).toNat else min v.toNat n
def sIx_none (n d):sIx n d none=d:=rfl
def sIx_nat (n d k:Nat):sIx n d (some (k:Int))=min k n:=by show(if k<0 then((k:Int)+n ).toNat else min (k:Int).toNat n)=min k n;rw[oj (by lia),yB]
def wV (v) (n d:Nat):(if v<0 then max (v+(n:Int)) 0 else min v (n:Int))=((sIx n d (some v):Nat):Int):=by
 show(if v<0 then max (v+n ) 0 else min v n )=(((if v<0 then(v+(n:Int)).toNat else min v.toNat n):Nat));by_cases a:v<0
 .simp only[nY a];lia
 .simp only[oj a];lia
def uD (i j:Nat):Builtin.Slice.slicePlaces (i:Int) (j:Int) 1=j-i:=by
 unfold Builtin.Slice.slicePlaces;have a:(1:Int) > 0:=by lia
 simp only[a];split <;> lia
def dF (p:IsPart v o)(h:Q o s):Re (model prog w) A (Builtin.Slice.slicePartIndex v) Q E s:=by
 cases p with
 | none=>exact slicePart_none h
 | int i t=>exact slicePart_int h
def af {lo}{Q:Int×Int×Nat->QO->Prop}(hs:s.heap.IsSliceOf sl vl vu .none)(pl:IsPart vl lo)(pu:IsPart vu hi)
  (h:Q (((sIx n 0 lo:Nat):Int),1,sIx n n hi-sIx n 0 lo) s):Re (model prog w) A (Builtin.Slice.sliceApplied (.ref sl)<|pure (n:Int)) Q E s:=by
 let(e,a,c,b):=id hs;refine iD<|iD<|zF a b rfl<|iD<|zF a b rfl<|iD<|zF a b rfl<|iO<|iD<|slicePart_none ?_;rw[oj<|by decide];refine iD<|dF pl<|iD<|dF pu<|iD<|iO ?_;show Re _ _ (match Builtin.Slice.sliceAdjust lo hi 1 (n:Int) with | (lo,hi)=>pure (lo,(1:Int),Builtin.Slice.slicePlaces lo hi 1)) _ _ s;rw[(show Builtin.Slice.sliceAdjust lo hi 1 n=(((sIx n 0 lo):Int),((sIx n n hi):Int)) by
  unfold Builtin.Slice.sliceAdjust;refine Qv ?_ ?_
  .cases lo with
   | none=>rfl
   | some v=>exact wV v n 0
  .cases hi with
   | none=>rfl
   | some v=>exact wV v n n)]
 show Re _ _ (pure (((sIx n 0 lo:Nat):Int),(1),Builtin.Slice.slicePlaces ((sIx n 0 lo:Nat)) ((sIx n n hi:Nat)) 1)) _ _ s;rw[uD];exact iO h
def Ce (xs:Array My)(i k:Nat):((List.range k).filterMap λ(m:Nat)=>xs[((i:Int)+(m:Int)*1).toNat]?).toArray=((xs.toList.drop i).take k).toArray:=by
 have e:(λ(m:Nat)=>xs[((i:Int)+m*1).toNat]?) = λm=>xs[i+m]?:=by
  funext m;have:((i:Int)+m*1).toNat=i+m:=by lia
  rw[this]
 rw[e];have:=pick_run xs i k;rw[List.filterMap_map]at this;have a:((λx=>xs[x]?) ∘ λx=>i+x) = λm=>xs[i+m]?:=rfl
 rw[a]at this;rw[this]
def getItem_tuple_cut {lo}(ht:IsTup s.heap t items)(hs:s.heap.IsSliceOf sl vl vu .none)(pl:IsPart vl lo)(pu:IsPart vu hi)
  (hw:¬(sIx items.size 0 lo=0/\sIx items.size items.size hi=items.size))
  (h:Q (.ref (~~~s)) { s with heap:=s.heap.push { cls:=.type "tuple",data:=.seq ((items.toList.drop<|sIx items.size 0 lo).take<|sIx items.size items.size hi-sIx items.size 0 lo).toArray } })
  (hsz:items.size<=QX):Re (model prog w) A (getItem (.ref t)<|.ref sl) Q E s:=by
 have a:sizeOk (.seq ((items.toList.drop<|sIx items.size 0 lo).take<|sIx items.size items.size hi-sIx items.size 0 lo).toArray):=by show((items.toList.drop<|sIx items.size 0 lo).take<|sIx items.size items.size hi-sIx items.size 0 lo).toArray.size<=QX;rw[tG,Bp,Qw,zq];lia
 have l:sIx items.size items.size hi<=items.size:=(by
  cases hi with
  | none=>exact (qD _)
  | some v =>
   show(if v<0 then(v+((Array.size items)) ).toNat else min v.toNat (Array.size items))<=(Array.size items);by_cases f:v<0
   .rw[nY f];lia
   .rw[oj f];exact Nat.min_le_right _ _)
 let(g,b,d,i):=id hs;unfold getItem;try with_reducible refine Ak ?_
 first | refine iD (iO ?_) | skip
 refine iD (wpAny_sequenceKey ht.typeIs (by decide) ?_);refine iD (xW ht.typeIs Be
  (xw Be ht.typeIs entry_tuple_getitem ?_<|args_tuple_getitem _ _))
 show Re _ _ (Builtin.Tuple.tupleItemsOf (.ref t) >>= _) _ _ s;refine iD<|tupleItemsOf_ ht<|iD<|Nq (#v[g,b,d]) ?_;rw[nY<|by decide];refine iD<|af hs pl pu ?_;show Re _ _ (if (((sIx items.size 0 lo):Int) == 0&&(1) == 1&&(sIx items.size items.size hi-sIx items.size 0 lo) == items.size)=true then _ else _) _ _ s;rw[oj (by intro q;rw[Jz,Jz]at q;have k:=eq_of_beq q.1.1;have j:=eq_of_beq q.2;exact hw #v[by lia,by lia]),Ce];first
  | exact iD<|xI (iO #v[_,rfl,iO h]) a
  | exact iD<|xI (iD<|iO<|iO #v[_,rfl,iO h]) a
  | exact iD<|iD<|xI (iO<|iO #v[_,rfl,iO h]) a
  | exact iD<|iD<|xI (iO #v[_,rfl,iO h]) a
end
end HT
namespace L2
open PySem PySem.Spec PyProof.Rows

section
abbrev TO :=St->Hp->(Option Int->Hp->Prop)->Prop
def PO (X:Cx)(e:Option QV)(t:TO):Prop :=
 ∀a s (b:St) H Q,Inv X a b H s->t b H Q ->
  Re (model X.prog X.w) X.A (evalPart e X.env) (λu d=>∃o c,Inv X a b c d/\IsPart u o/\Q o c) X.xe s
def vy :TO:=λ_ H Q=>Q none H
def GB (t:TE):TO:=λa H Q=>t a H λx b=>∃i,x = .int i/\Q (some i) b
def P5 :∀{us},k8 (ns.map V.int) us->IntsAre us ns:=by
 induction ns with
 | nil=>intro us r;rw[Cq]at r;cases r;exact .nil
 | cons n ns c =>
  intro us r;rw[kX]at r;cases r with
  | cons b a =>let(t,e):=b;subst e;exact .cons n t<|c a
section
variable {lo:Option QV}
def wG :PO X none vy:=by intro a s b H Q I h;rw[evalPart_none];exact iO #v[none,H,I,.none,h]
def mU (h:PE X e te):PO X (some e) (GB te):=by
 intro a s b H Q I f;rw[evalPart_some];refine thn (h a s b H _ I f) ?_;rintro u s1 ⟨x,j,g,c,d⟩
 let(i,rfl,q):=d;let(t,rfl):=c;exact#v[some i,j,g,.int i t,q]
def SlR (X:Cx)(r:V->Option Int->Option Int->Hp->VK->Prop):Prop :=
 ∀a s (b:St) H x v d c lo hi e Q,Inv X a b H s->l4 x v->s.heap.IsSliceOf e d c .none->IsPart d lo->IsPart c hi->r x lo hi H Q ->
  ∃T f,typeLookup (.type T) "__getitem__" = pure (some<|.builtin f)/\s.TypeIs v T/\Re (model X.prog X.w) X.A (getItem v<|.ref e) (EP X a b Q) X.xe s
def tSl (r:V->Option Int->Option Int->Hp->VK->Prop)(te:TE)(tl th:TO):TE:=λa H Q=>te a H λx d=>tl a d λl c=>th a c λu b=>r x l u b Q
def qr (hr:SlR X r)(he:PE X e te)(hl:PO X lo tl)(hu:PO X hi th):PE X (.Subscript e (.Slice lo hi none p2) pos) (tSl r te tl th):=by
 intro a s d H Q I h;refine Subscript_ (thn (he a s d H _ I h) ?_ );rintro v s1 ⟨x,E,C,j,n⟩;refine wpAny_Slice (thn (hl a s1 d E _ C n) λg s2 #v[l,D,B,p,m]=>thn (hu a s2 d D _ B m) ?_ );rintro f c ⟨u,i,A,o,k⟩;rw[evalPart_none];refine iO ?_;let(T,G,y,t,w):=hr a { c with heap:=c.heap.push { cls:=.type "slice",data:=.fields #[g,f,.none] } } d i x v g f l u (~~~c) Q (A.kept λb F q=>jM _ q) j (Qj ..) p o k;exact tail_any t y w (by with_unfolding_all rfl)
def gQ (xs:List V)(lo hi:Option Int):List V:=(xs.drop<|HT.sIx xs.length 0 lo).take<|HT.sIx xs.length xs.length hi-HT.sIx xs.length 0 lo
def ia (xs) (lo hi):(gQ xs lo hi).length<=xs.length:=by unfold gQ;rw[Bp,Qw];lia
def MW (K:Qf):V->Option Int->Option Int->Hp->VK->Prop:=λx lo hi H Q=>∃a b,x = .ref a/\SqT K H a b /\
 ¬(HT.sIx b.length 0 lo=0/\HT.sIx b.length b.length hi=b.length)/\∀p,H p=none->Q (.ref p) (upd H p<|.tup<|gQ b lo hi)
def HN :SlR X (MW X.K):=by
 rintro f s t H x v w u lo hi y Q I j p l k ⟨a,d,rfl,m,n,q⟩;cases j;let(e,r,i,g):=I.tuple m;have c:e.toArray.size=d.length:=by rw[tG];exact r.length.symm
 refine#v["tuple",_,Be.lookup,i.typeIs,HT.getItem_tuple_cut i p l k (by rw[c];exact n) ?_ (by rw[c];exact g) ];rw[c];refine#v[.ref (~~~s),_,I.laid (λb z q=>jM _ q) (qD _) ?_,rfl,q _<|I.hok.fresh<|qD _];exact#v[uj (ia d lo hi) g,_,(r.drop<|HT.sIx d.length 0 lo).take<|HT.sIx d.length d.length hi-HT.sIx d.length 0 lo,Pw _ _,.mk (ou _ rfl) rfl]
def Ma (K:Qf):R2:=λx y H Q=>∃a b d c,x = .ref a/\y = .ref b/\SqT K H a d/\SqT K H b c/\d≠[]/\d.length+c.length<=QX /\
 (c=[]->Q (.ref a) H)/\(c≠[]->∀p,H p=none->Q (.ref p) (upd H p<|.tup<|d++c))
def k8.nil_iff (r:k8 xs us):us=[]↔xs=[]:=by
 cases r with
 | nil=>simp
 | cons _ _=>simp
def Gc :OpR X (binaryOp .Add) (Ma X.K):=by rintro e s C H x y v u Q I l k ⟨a,b,j,i,rfl,rfl,B,A,t,g,n,m⟩;cases l;cases k;let(r,d,p,_):=I.tuple B;let(f,c,p2,_):=I.tuple A;refine HT.cat_tup p p2 (λz=>t<|d.nil_iff.1 z) (λz=>#v[.ref a,H,I,rfl,n<|c.nil_iff.1 z]) (λz=>#v[.ref (~~~s),_,I.laid (λb D q=>jM _ q) (qD _) ?_,rfl,m (λw=>z<|c.nil_iff.2 w) _<|I.hok.fresh<|qD _] ) (by rwa[<-d.length,<-c.length]);exact#v[by rwa[xy],_,d.append c,Pw _ _,.mk (ou _ rfl) rfl]
end
end
variable {its:List My}
section
def ixN (n:Nat)(i:Int):Option Nat:=if 0<=i then(if i<n then some i.toNat else none) else if -(n:Int)<=i then some (i+n).toNat else none
def atI {α:Type}(xs:List α)(i:Int):Option α:=(ixN xs.length i).bind λj=>xs[j]?
def vJ (h:ixN n i=some j):seqIndex? i n=some j/\j<n /\ -(n:Int)<=i/\i<n:=by
 unfold ixN at h;by_cases b:0<=i
 .rw[nY b]at h;by_cases a:i<n
  .rw[nY a]at h;exact#v[by rw[seqIndex_of b a,rn h ],by lia,by lia,a]
  .rw[oj a]at h;cases h
 .rw[oj b]at h;by_cases a:-n<=i
  .rw[nY a]at h;exact#v[by rw[seqIndex_neg (by lia) a,rn h ],by lia,a,by lia]
  .rw[oj a]at h;cases h
def ni {v:α}(h:atI xs i=some v):∃j,seqIndex? i xs.length=some j/\xs[j]? = some v/\j<xs.length /\ -(xs.length:Int)<=i/\i<xs.length:=by
 unfold atI at h;cases e:ixN xs.length i with
 | none=>rw[e]at h;cases h
 | some j =>rw[e]at h;let(d,c,b,a):=vJ e;exact#v[j,d,h,c,b,a]
def vd {j:Nat}{v:α}(h:xs[j]? = some v):atI xs (j:Int)=some v:=by
 have a:=(pG.1 h).1;have e:ixN xs.length j=some j:=by unfold ixN;rw[nY (by lia),nY<|by lia];simp
 unfold atI;rwa[e]
def oQ (b:QV):Prop:=∀o i,subscripted b false o i=operate [o,i] (getItem o i)
def IxR (X:Cx)(r:R2):Prop :=
 ∀b a π s (c:St) H x y v u Q,Inv X π c H s->l4 x v->l4 y u->r x y H Q ->
  subscripted a false v u=operate [v,u] (getItem v u)->Re (model X.prog X.w) X.A (subscriptTail b a v u) (EP X π c Q) X.xe s
def MtR (X:Cx)(id:String)(r:V->List V->Hp->VK->Prop):Prop :=
 ∀π s (a:St) H x b v us Q,Inv X π a H s->l4 x v->k8 b us->r x b H Q ->
  Re (model X.prog X.w) X.A (call (.builtin id) (v::us)) (EP X π a Q) X.xe s
section

def Dz (hr:IxR X r)(ha:PE X a ta)(hb:PE X b tb)(hs:oQ b):PE X (.Subscript a b pos) (tOp r ta tb):=by intro π s c H Q I h;exact Subscript_ (Jy ha hb I h λv u s2 x y g f e d q=>hr a b π s2 c g x y v u Q f e d q<|hs _ _)
def LQ (K:Qf):R2:=λx y H Q=>∃p a i v,x = .ref p/\y = .int i/\SqL K H p a/\atI a i=some v/\Q v H
def HZ (K:Qf):R2:=λx y H Q=>∃p a i v,x = .ref p/\y = .int i/\SqT K H p a/\atI a i=some v/\Q v H
def MI :R2:=λx y H Q=>∃z i c,x = .str z/\y = .int i/\z.length<=QX/\atI z.cps.toList i=some c/\Q (.str #v[#[c]]) H
def vk :IxR X (LQ X.K):=by
 rintro b c π s g H x y v u Q I A o ⟨p,G,i,z,rfl,rfl,B,C,q⟩ k;cases A;let(t,rfl):=o;let(its,r,e,J):=I.list B;let(j,a,F,L,E,D):=ni C;let(w,m,d):=r.get F;have hl:=r.length;have K:=dR;have fin:EP X π g Q w s:=#v[z,H,I,d,q];by_cases l:0<=i
 .have f:i.toNat=j:=by rw[seqIndex_of l D]at a;exact rn a
  exact item_listR e.isList l (by lia) (by rw[f];simpa using m) fin k
 .have f:(i+its.toArray.size ).toNat=j:=by rw[seqIndex_neg (by lia) E]at a;rw[tG,<-hl];exact rn a
  exact subscriptTail_builtinR e.isList.typeIs slot_list_getitem.lookup
   (wpAny_getItem_list_neg e.isList (by lia) (by rw[tG] <;> lia) (by lia) (by rw[f];simpa using m) #v[rfl,fin]) k
def zp :IxR X (HZ X.K):=by
 rintro a b π s d H x y v u Q I k g ⟨p,C,i,z,rfl,rfl,m,n,q⟩ l;cases k;let(t,rfl):=g;let(its,r,e,D):=I.tuple m;let(j,A,o,J,G,F):=ni n;let(w,B,c):=r.get o;have E:=dR;exact subscriptTail_builtinR e.typeIs slot_tuple_getitem.lookup
  (getItem_tuple e (by lia) (by lia) (by rwa[tG,<-r.length ]) (by simpa using B) #v[rfl,#v[z,H,I,c,q] ]) l
def JM :IxR X MI:=by
 rintro a b π s r H x y v u Q I f e ⟨z,i,c,rfl,rfl,A,k,q⟩ g;let(t,rfl):=f;let(w,rfl):=e;let(j,d,n,C,m,l):=ni k;have hl:z.cps.toList.length=z.length:=by simp[Str.length]
 rw[hl]at d m l;have B:=dR;exact tail_any (PF s z t) slot_str_getitem.lookup (getItem_str (by rw[yb (by lia),yb (by lia),Bool.or_false]) (by rw[d];simpa using n) #v[.str #v[#[c]],H,I.tok _,#v[_,rfl],q]) g
def Inv.lst {σ:St}(I:Inv X π σ H s)(h:H p=some (.lst xs)) :
  ∃(its:List My) (n:Nat),k8 xs its/\s.heap.get? p=some { cls:=.type "list",data:=.seq its.toArray n }/\xs.length<=QX:=by let(z,its,n,r,e):=I.hok p _ h;exact#v[its,n,r,e,z]
def Inv.lstUpd {σ:St}(I:Inv X π σ H s)(h:H p=some (.lst xs))
  (ho:s.heap.get? p=some { cls:=.type "list",data:=.seq its.toArray n }) (hf:f { cls:=.type "list",data:=.seq its.toArray n }={ cls:=.type "list",data:=.seq its'.toArray n' }) (r:k8 ys its') (hz:ys.length<=QX) (t) :
  Inv X π σ (upd H p<|.lst ys) { s with heap:=s.heap.update p f,toks:=t }:=by
 have e:(s.heap.update p f).get? p=some { cls:=.type "list",data:=.seq its'.toArray n' }:=by rw[FC f ho (by rw[hf] <;> rfl),hf]
 refine I.write (by rw[h];trivial) (.inl rfl) (λb u a q=>(En _ _<|DO a).trans q) #v[_,e]<|#v[hz,its',n',r,e]
def GV :V->V->V->Hp->(Hp->Prop)->Prop:=λo i v H Q=>∃p a k j,o = .ref p/\i = .int k/\H p=some (.lst a)/\ixN a.length k=some j/\Q (upd H p<|.lst<|a.set j v)
def Az :LU X GV:=by
 rintro π s m H o i v C D u Q I y z x ⟨p,w,k,j,rfl,rfl,d,B,q⟩;cases y;let(t,rfl):=z;let(its,n,r,b,A):=I.lst d;let(a,F,f,e):=vJ B;have hl:=r.length;have E:=dR;have l :=
  I.lstUpd d b ((show QZ.mapSeq (·.setIfInBounds j u) { cls:=.type "list",data:=.seq its.toArray n }={ cls:=.type "list",data:=.seq (its.set j u).toArray n } by simp[QZ.mapSeq])) (r.set x j) (by rwa[As]) s.toks
 by_cases g:0<=k
 .have c:k.toNat=j:=by rw[seqIndex_of g e]at a;exact rn a
  exact PySem.W.ki_setAt b g (by lia) (by rwa[tG,<-hl]) (by rw[c];exact#v[_,l,q])
 .have c:(k+its.toArray.size ).toNat=j:=by rw[seqIndex_neg (by lia) f]at a;rw[tG,<-hl];exact rn a
  exact PySem.W.ki_setBack b (by lia) (by rwa[tG,<-hl]) (by lia) (by rw[c];exact#v[_,l,q])
def mQ (lo hi) (n):(sliceBounds lo hi none n).1=((HT.sIx n 0 lo:Nat):Int)/\(sliceBounds lo hi none n).2.1=((HT.sIx n n hi:Nat):Int)/\(sliceBounds lo hi none n).2.2=1:=by
 refine#v[?_,?_,rfl]
 .cases lo with
  | none=>simp[sliceBounds,HT.sIx]
  | some i =>
   simp only[sliceBounds,HT.sIx,Qx]
   by_cases h:i<0
   .simp only[h] <;> lia
   .simp only[h] <;> lia
 .cases hi with
  | none=>simp[sliceBounds,HT.sIx]
  | some i =>
   simp only[sliceBounds,HT.sIx,Qx]
   by_cases h:i<0
   .simp only[h] <;> lia
   .simp only[h] <;> lia
def kZ (its:List My)(lo hi):slicePick its.toArray lo hi none=((its.drop<|HT.sIx its.length 0 lo).take<|HT.sIx its.length its.length hi-HT.sIx its.length 0 lo).toArray:=by let(c,b,a):=mQ lo hi its.toArray.size;unfold slicePick;rw[c,b,a];simp only[sliceRange_one,pick_run] <;> rfl
def MY (K:Qf):V->Option Int->Option Int->Hp->VK->Prop:=λx c d H Q=>∃a b,x = .ref a/\SqL K H a b/\∀p,H p=none->Q (.ref p) (upd H p<|.lst<|gQ b c d)
def wN :SlR X (MY X.K):=by rintro π s p H x v u t e f w Q I i n k j ⟨a,c,rfl,m,q⟩;cases i;let(its,r,g,l):=I.list m;have d:=r.length;refine#v["list",_,slot_list_getitem.lookup,g.isList.typeIs,wpAny_getItem_list_slice g.isList n k j .none (by simp) ?_ (by rw[tG] <;> lia) ];rw[kZ,<-d];refine#v[.ref (~~~s),_,I.laid (λb y q=>jM _ q) (qD _) ?_,rfl,q _<|I.hok.fresh<|qD _];exact#v[uj (ia c e f) l,_,0,(r.drop<|HT.sIx c.length 0 e).take<|HT.sIx c.length c.length f-HT.sIx c.length 0 e,ou _ rfl]
def aQ :w8 X (.builtin "len") (λxs H Q=>∃p ys,xs=[.ref p]/\(SqL X.K H p ys\/SqT X.K H p ys)/\Q (.int ys.length) H):=by
 rintro π s g H xs us Q I r ⟨p,ys,rfl,b,q⟩;let(u,rfl,e):=C5 r;cases e;have i:=dR;rcases b with b | b
 .let(its,c,d,f):=I.list b;have a:=c.length;exact Calls.call_len_list d.isList (by simp only[tG] <;> lia) #v[.int ys.length,H,I.tok _,#v[s.toks+1,by rw[tG,a]],q]
 .let(its,c,d,f):=I.tuple b;have a:=c.length;exact len_tuple d (by simp only[tG] <;> lia) #v[.int ys.length,H,I.tok _,#v[s.toks+1,by rw[tG,a]],q]
def nM :w8 X (.builtin "len") (λxs H Q=>∃z,xs=[.str z]/\z.length<=QX/\Q (.int z.length) H):=by rintro π s a H xs us Q I r ⟨z,rfl,b,q⟩;let(u,rfl,t,rfl):=C5 r;have c:=dR;exact len_str (by lia) #v[.int z.length,H,I.tok _,#v[_,rfl],q]
def mX :w8 X (.type "list") (λxs H Q=>∃p ys,xs=[.ref p]/\(SqL X.K H p ys\/SqT X.K H p ys)/\∀l,H l=none->Q (.ref l) (upd H l<|.lst ys)):=by
 rintro π s w H xs us Q I r ⟨p,ys,rfl,g,q⟩;let(u,rfl,x):=C5 r;cases x;have fin:∀its,k8 ys its->ys.length<=QX->∀a d,(∀b v,s.heap.get? b=some v->a.get? b=some v) ->
   a.get? (~~~s)=some { cls:=.type "list",dict:=none,data:=.seq its.toArray d,slots:=#[] }->EP X π w Q (.ref (~~~s)) { s with heap:=a }:=λits c f a d kp e =>
  #v[.ref (~~~s),_,I.laid kp (qD _) (show x5 X.prog X.w _ a _ (.lst ys) from#v[f,its,d,c,e]),rfl,q _<|I.hok.fresh<|qD _]
 rcases g with g | g
 .let(its,c,j,f):=I.list g;have i:=c.length;let(o,k,t,n,m):=j.isList;exact call_list_seq p (.inl rfl) k t m (λa d kp e=>fin its c f a d kp e) (by simp only[tG] <;> lia)
 .let(its,c,j,f):=I.tuple g;have i:=c.length;let(o,k,t,n,m):=j;exact call_list_seq p (.inr rfl) k t m (λa d kp e=>fin its c f a d kp e) (by simp only[tG] <;> lia)
def lh :w8 X (.type "tuple") (λxs H Q=>∃p ys,xs=[.ref p]/\((SqL X.K H p ys/\∀l,H l=none->Q (.ref l) (upd H l<|.tup ys))\/(SqT X.K H p ys/\Q (.ref p) H))):=by
 intro π s g H xs us Q I r h;let(p,ys,rfl,h):=h;let(u,rfl,m):=C5 r;cases m;rcases h with ⟨f,q⟩ | ⟨f,q⟩
 .let(its,c,d,i):=I.list f;have j:=c.length;refine call_tuple_list d.isList (λa kp=>?_) (by simp only[tG] <;> lia);have k:Inv X π g H { s with heap:=a }:=I.kept kp;have n:Inv X π g (upd H a.objs.size<|.tup ys) { s with heap:=a.push { cls:=.type "tuple",data:=.seq its.toArray } } :=
   k.laid (λb o e=>jM _ e) (qD _) (#v[i,its,c,Pw _ _,.mk (ou _ rfl) rfl])
  exact#v[.ref a.objs.size,_,n,rfl,q _<|k.hok.fresh<|qD _]
 .let(its,c,d,i):=I.tuple f;exact call_tuple_same d #v[.ref p,H,I,rfl,q]
def tyV (K:Qf)(T:String)(x:V)(H:Hp):Prop:=match x with
 | .str _=>T = "str"
 | .int _=>T = "int"
 | .ref p=>(T = "list" /\ ∃b,SqL K H p b)\/(T = "tuple" /\ ∃o,K.lookup p=some o/\o.cls = .type "tuple" /\ o.dict=none) \/
   (T = "dict" /\ ((∃a,H p=some (.dK a))\/∃a,H p=some (.dT a)))\/(T = "set" /\ ∃S n,H p=some (.set S n))
 | _=>False
def tBM (K:Qf)(T:String)(r:V->List V->Hp->VK->Prop)(to:TE)(t:TA):TE:=λa H Q=>to a H λx b=>tyV K T x b/\t a b λc d=>r x c d Q
variable {id:String}
def Bn (pa:PlainAttrs T)(slot:Slot T name id)(hty:typeOf (.builtin id)=pure (.type "method_descriptor"))(hm:MtR X id r)(ho:PE X o to)(ha:PA X (e::es) t)
  (hbase:‹Rh o name X.env (eval o X.env)=eval o X.env›)
  (hfew:‹((Rb cpos<|QY (e::es) X.env).all (λx=>!x.1)&&(Rp cpos<|Rq [] X.env).all (λx=>x.1.isSome)
   && decide ((e::es).length+([]:List Rc).length+(if ([]:List Rc).isEmpty then 0 else 1)<30))=true›)
  (hline:‹(apos.endLine == cpos.line)=true›) (hs:‹QY (e::es) X.env=(false,eval e X.env)::QY es X.env›) (hplain:‹(Rb cpos<|QY es X.env).any (·.1)=false›) :
  PE X (.Call (.Attribute o name apos) (e::es) [] cpos) (tBM X.K T r to t):=by
 intro π s j H Q I h;refine wpAny_Call_method_late hbase hfew hline rfl (thn (ho π s j H _ I h) ?_ );rintro v s1 ⟨x,L,f,g,ty,C⟩;let(G,F):=(show s1.TypeIs v T/\∀a,v = .ref a->∃u,s1.heap.get? a=some u/\u.dict=none by
  cases x with
  | str z =>let(t,rfl):=g;cases(ty);exact#v[PF s1 z t,λ_ e=>nomatch e]
  | int i =>let(t,rfl):=g;cases(ty);exact#v[typeIs_int s1 i t,λ_ e=>nomatch e]
  | ref p =>
   cases g;rcases ty with ⟨rfl,M,D⟩ | ⟨rfl,o,b,E,l⟩ | ⟨rfl,b⟩ | ⟨rfl,S,n,b⟩
   .let(its,_,q,_):=f.list D;refine#v[q.isList.typeIs,λa e=>?_];cases e;let(o,n,e,c,l,_):=q;exact#v[o,e,l]
   .refine#v[#v[o,f.kIn p o b,E],λa e=>?_];cases e;exact#v[o,f.kIn _ o b,l]
   .have z:∃o,s1.heap.get? p=some o/\o.ExactDict:=by
     rcases b with ⟨k,b⟩ | ⟨k,b⟩
     .let(_,_,_,_,o,_,_,e,d,_):=f.hok p _ b;exact#v[o,e,d]
     .let(_,_,_,_,o,_,_,e,d,_):=f.hok p _ b;exact#v[o,e,d]
    let(o,e,d):=z;refine#v[#v[o,e,d.1],λa m=>?_];cases m;exact#v[o,e,d.2.1]
   .let(o,_,_,_,e,d,_):=f.hok p _ b;refine#v[#v[o,e,d.1],λa m=>?_];cases m;exact#v[o,e,d.2.1]
  | _=>exact False.elim ty)
 refine#v[T,id,pa,slot,hty,G,F,?_];have w:=ha cpos π s1 j L _ f C;rw[hs]at w ⊢;refine KB (by show(false||(Rb cpos<|QY es X.env).any (·.1))=false;rw[hplain] <;> rfl)<|Oh<|thn w λus s2 #v[y,K,J,A,B]=>hm π s2 j K x y v us Q J g A B
end
end

section
def MtM (X:Cx)(id:String)(r:V->List V->Hp->VK->Prop):Prop :=
 ∀π s (a:St) H x b v us Q,Inv X π a H s->l4 x v->k8 b us->r x b H Q ->
  Re (model X.prog X.w) X.A (call (.builtin id) (v::us)) (EP X π a Q) X.xe s
theorem k8.one:∀{x} {us},k8 [x] us->∃u,us=[u]/\l4 x u
 | _,_,.cons r .nil=>#v[_,rfl,r]
def k8.reverse (h:k8 xs us):k8 xs.reverse us.reverse:=by
 induction h with
 | nil=>exact .nil
 | cons r t a=>rw[ND,ND];exact k8.append a<|.cons r .nil
theorem k8.rep (h:k8 xs us):∀k,k8 (List.replicate k xs).flatten (List.replicate k us).flatten
 | 0=>.nil
 | k+1=>by rw[Ft,Ft,Lp,Lp];exact k8.append h<|k8.rep h k
def gG (its):∀k (acc:List My),
  List.foldl (λx1 x2=>x1++x2) acc.toArray (List.replicate k its.toArray)=(acc++(List.replicate k its).flatten).toArray
 | 0,acc=>by simp
 | k+1,acc=>by
  have e:acc.toArray++its.toArray=(acc++its).toArray:=by simp
  have a:(acc++its)++(List.replicate k its).flatten=acc++(List.replicate (k+1) its).flatten:=by rw[Ft,Lp,NZ]
  rw[<-a,<-gG its k (acc++its),<-e,Ft,Kr]
section
variable {σ:St}
def Inv.lset (I:Inv X π σ H s)(hH:H l=some (.lst xs))
  (e:s.heap.get? l=some { cls:=.type "list",data:=.seq its.toArray n }) (hf:f its.toArray=its'.toArray) (hv:k8 ys its') (hz:ys.length<=QX) :
  Inv X π σ (upd H l<|.lst ys) { s with heap:=s.heap.update l<|QZ.mapSeq f,toks:=t' }:=by have q:=PySem.IsL.update e f;rw[hf]at q;refine I.write (by rw[hH];exact trivial) (.inl rfl) (λc u b a=>(En s.heap (QZ.mapSeq f)<|DO b).trans a) #v[_,q]<|#v[hz,its',_,hv,q]
def Inv.lnew (I:Inv X π σ H s)(hv:k8 ys its)(hz:ys.length<=QX) :
  Inv X π σ (upd H (~~~s)<|.lst ys) { s with heap:=s.heap.push { cls:=.type "list",data:=.seq its.toArray },toks:=t' } :=
 I.laid (λ_ _ q=>jM _ q) (qD _) #v[hz,its,0,hv,ou _ rfl]
def Inv.fresh (I:Inv X π σ H s):H (~~~s)=none:=I.hok.fresh<|qD _
def Inv.lstM (I:Inv X π σ H s)(hH:H l=some (.lst xs)):xs.length<=QX/\∃(its:List My) (n:Nat),k8 xs its/\xs.length=its.length/\s.heap.get? l=some { cls:=.type "list",data:=.seq its.toArray n }:=by let(z,its,n,r,e):=I.hok l _ hH;exact#v[z,its,n,r,r.length,e]
def Cy (h:n<=QX):Builtin.List.listTooLong n=false:=by exact yb (by lia)
end
section

def iU :V->List V->Hp->VK->Prop:=λx b H Q=>∃l a y,x = .ref l/\b=[y]/\H l=some (.lst a)/\a.length<QX/\Q .non (upd H l<|.lst<|a++[y])
def cE :MtM X "list.append" iU:=by rintro π s f H x i v us Q I b c ⟨l,g,y,rfl,rfl,a,j,q⟩;cases b;let(u,rfl,d):=c.one;let(z,its,n,r,hl,e):=I.lstM a;refine NQ F.slot_list_append #v[_,e,rfl] F.entry_list_append (F.args_list_append_2 _ _) (PySem.list_append l its.toArray n u (by rw[tG];lia)) #v[e,#v[.non,_,I.lset a e (by simp) (r.append<|.cons d .nil) ?_,rfl,q] ];rw[xy,List.length_singleton];lia
def Lw :R2:=λx y H Q=>∃l b c a,x = .ref l/\y = .ref b/\H l=some (.lst c)/\H b=some (.lst a)/\c.length+a.length<=QX/\∀p,H p=none->Q (.ref p) (upd H p<|.lst<|c++a)
def zk :OpR X (binaryOp .Add) Lw:=by
 rintro π s o H x y v u Q I d c ⟨l,b,w,p,rfl,rfl,i,j,A,q⟩;cases d;cases c;let(z,its,n,r,hl,e):=I.lstM i;let(t,a,n2,f,g,m):=I.lstM j;refine PySem.P.add_list e m ?_ (by rw[tG,tG];lia);have k:its.toArray++a.toArray=(its++a).toArray:=by simp
 rw[k];exact#v[.ref _,_,I.lnew (r.append f) (by rw[xy];lia),rfl,q _ I.fresh]
def MM :R2:=λx y H Q=>∃l k a,x = .ref l/\y = .int k/\H l=some (.lst a) /\ -(2 ^ 63)<=k/\k<2 ^ 63/\a.length*k.toNat<=QX /\
 ∀p,H p=none->Q (.ref p) (upd H p<|.lst (List.replicate k.toNat a).flatten)
def oy {α:Type}(xs:List α)(k):(List.replicate k xs).flatten.length=k*xs.length:=by
 induction k with
 | zero=>simp
 | succ k a=>rw[Ft,Lp,xy,a,Nat.succ_mul,Nat.add_comm]
def JS :OpR X (binaryOp .Mult) MM:=by
 rintro π s G H x y v u Q I A w ⟨l,k,J,rfl,rfl,B,D,C,o,q⟩;cases A;let(t,rfl):=w;let(z,its,n,r,hl,e):=I.lstM B;have d:its.toArray.size*k.toNat<=QX:=by rwa[tG,<-hl]
 have g:¬its.toArray.size*k.toNat > (2 ^ 63-1) / 8:=by
  have:QX<=(2 ^ 63-1) / 8:=by decide
  lia
 have c:List.foldl (λj i=>j++i) #[] (List.replicate (if its.toArray.isEmpty=true then 0 else k.toNat) its.toArray)=(List.replicate k.toNat its).flatten.toArray:=by
  have E:=λm=>by have:=gG its m [];rwa[zY]at this
  rw[E];cases its with
  | nil=>simp
  | cons a K=>rw[oj<|by simp]
 refine wpAny_binaryOp_repeat_ref (by decide) #v[_,e,rfl] (λp=>typeIs_int p k t) noFill_list_mul F.fills_int_mul PH repeat_list F.slot_int_index.lookup
  (NQ PH (typeIs_int s k t) F.entry_int_rmul (F.args_int_rmul_2 _ _) (int___rmul___int_list k t l its.toArray n)
   #v[e,rfl,#v[_,e,rfl],NQ F.slot_list_mul #v[_,e,rfl] F.entry_list_mul (F.args_list_mul_2 _ _) (AutoListH.list___mul___list_int_3 l its.toArray n k t (by rw[fitsIndex_both D C];exact tN) g (by rw[Cy d];exact tN) ) #v[e,?_]])
 rw[c];exact#v[.ref _,_,I.lnew (r.rep k.toNat) (by rwa[oy,Qy]),rfl,q _ I.fresh]
end
end
variable {o:Option V}{d3:List (List Key×V)}
section
section
variable {κ:Type}[DecidableEq κ]
def W4 (d3:List (κ×V))(k:κ):Option V:=(d3.find? λa=>decide (a.1=k)).map (·.2)
def D8 (d3:List (κ×V))(k:κ)(v:V):List (κ×V) :=
 if (d3.any λa=>decide (a.1=k))=true then d3.map (λa=>if a.1=k then(a.1,v) else a) else d3++[(k,v)]
def V6 {k:κ}(e:p.1=k):W4 (p::r) k=some p.2:=by simp[W4,e]
def A1 {k:κ}(e:¬p.1=k):W4 (p::r) k=W4 r k:=by simp[W4,e]
theorem Z6 (k):∀d3:List (κ×V),(d3.any λkv=>decide (kv.1=k))=(W4 d3 k).isSome
 | []=>rfl
 | p::r=>by
  rw[Po];by_cases e:p.1=k
  .simp only[V6 e,xq e,Bool.true_or,Nr]
  .rw[A1 e,yb e,Bool.false_or];exact Z6 k r
def bH (d3) (k:κ)(v):(D8 d3 k v).length<=d3.length+1:=by
 unfold D8;split
 .rw[jI];lia
 .rw[xy,qN,Ee];lia
def fH {d3}{k:κ}(v) (h:W4 d3 k=none):D8 d3 k v=d3++[(k,v)]:=by unfold D8;rw[Z6,h];exact oj (by decide)
def fU.isSome_eq (r:fU o u):o.isSome=u.isSome:=by
 cases o with
 | none=>cases u with
  | none=>rfl
  | some _=>exact(r).elim
 | some _=>cases u with
  | none=>exact(r).elim
  | some _=>rfl
def fU.getD (r:fU o u)(rd:l4 d d'):l4 (o.getD d) (u.getD d'):=by
 cases o with
 | none=>cases u with
  | none=>exact rd
  | some _=>exact(r).elim
 | some _=>cases u with
  | none=>exact(r).elim
  | some _=>exact r
def KV.val {d3}{vs} (r:KV d3 vs)(k:κ):fU (W4 d3 k) (valueAt vs k):=by
 induction r with
 | nil=>exact True.intro
 | @cons p q i a h t f =>
  let(d,g):=h;by_cases e:p.1=k
  .have b:valueAt (q::a) k=some q.2:=by simp[valueAt,d.symm.trans e ]
   rwa[V6 e,b]
  .have c:¬q.1=k:=λz=>e<|d.trans z
   have b:valueAt (q::a) k=valueAt a k:=by simp[valueAt,c]
   rwa[A1 e,b]
def KV.any {d3}{vs} (r:KV d3 vs)(k:κ):(d3.any λkv=>decide (kv.1=k))=vs.any λkv=>decide (kv.1=k):=by
 induction r with
 | nil=>rfl
 | cons h t a=>rw[Po,Po,a,h.1]
def KV.repl {d3}{vs} (r:KV d3 vs)(k:κ)(ry:l4 y u) :
  KV (d3.map λkv=>if kv.1=k then(kv.1,y) else kv) (vs.map λkv=>if kv.1=k then(kv.1,u) else kv):=by
 induction r with
 | nil=>exact .nil
 | @cons p q f d h t b =>
  rw[kX,kX];refine .cons ?_ b;let(a,c):=h;by_cases e:p.1=k
  .rw[nY e,nY<|a.symm.trans e];exact#v[a,ry]
  .rw[oj e,oj<|λz=>e<|a.trans z];exact#v[a,c]
def KV.put {d3}{vs} (r:KV d3 vs)(k:κ)(ry:l4 y u):KV (D8 d3 k y) (stored vs k u):=by
 unfold D8 stored;rw[r.any k];by_cases e:(vs.any λa=>decide (a.1=k))=true
 .rw[nY e,nY e];exact r.repl k ry
 .rw[oj e,oj e];exact Paired.snoc r #v[rfl,ry]
def KV.length {d3}{vs:List (κ×My)}(r:KV d3 vs):d3.length=vs.length:=Lq r
end
def pD (r:l4 (kV k) u):(t6 P w).is k u=true:=by
 cases k with
 | inl i=>let(t,e):=(r);subst e;exact (show jV (.inl i) (.int i t)=true by simp[jV,My.isInt])
 | inr x=>let(t,e):=(r);subst e;exact (show jV (.inr x) (.str x t)=true by simp[jV,My.isStrOf])
theorem mv :∀{ks} {us},k8 (ks.map kV) us->ItemsAre (t6 P w) ks us
 | [],_,r=>by rw[Cq]at r;cases r;exact .nil
 | k::ks,_,r=>by
  rw[kX]at r;cases r with
  | cons h t=>exact .cons (pD h)<|mv t
abbrev KT (H:Hp):List (List Key×V)->List (List Key×QN×My)->Prop:=Paired λp q=>p.1=q.1/\H q.2.1=some (.tup<|p.1.map kV)/\l4 p.2 q.2.2
def KT.val (r:KT H d3 xs)(k):fU (W4 d3 k) ((atKey xs k).map (·.2)):=by
 induction r with
 | nil=>exact True.intro
 | @cons p q i a h t f =>
  let(d,_,g):=h;by_cases e:p.1=k
  .have b:atKey (q::a) k=some q.2:=by simp[atKey,d.symm.trans e ]
   rwa[V6 e,b]
  .have c:¬q.1=k:=λz=>e<|d.trans z
   have b:atKey (q::a) k=atKey a k:=by simp[atKey,c]
   rwa[A1 e,b]
def KT.repl (r:KT H d3 xs)(k)(ry:l4 y u) :
  KT H (d3.map λkv=>if kv.1=k then(kv.1,y) else kv) (xs.map<|putAt k u):=by
 induction r with
 | nil=>exact .nil
 | @cons p q g f h t c =>
  rw[kX,kX];refine .cons ?_ c;let(a,b,d):=h;unfold putAt;by_cases e:p.1=k
  .rw[nY e,nY<|a.symm.trans e];exact#v[a,b,ry]
  .rw[oj e,oj<|λz=>e<|a.trans z];exact#v[a,b,d]
def KT.put (r:KT H d3 xs)(k)(hb:H b=some (.tup<|k.map kV))(ry:l4 y u) :
  KT H (D8 d3 k y) (storedH xs k b u):=by
 have e:(d3.any λa=>decide (a.1=k))=(atKey xs k).isSome:=by rw[Z6,(r.val k).isSome_eq,NF]
 unfold D8 storedH;rw[e];by_cases q:(atKey xs k).isSome=true
 .rw[nY q,nY q];exact r.repl k ry
 .rw[oj q,oj q];exact Paired.snoc r #v[rfl,hb,ry]
def KT.keeps {xs} (r:KT H d3 xs)(ht:∀b ys,H b=some (.tup ys)->H' b=some (.tup ys)):KT H' d3 xs :=
 Paired.mapP r λ_ _ z=>#v[z.1,ht _ _ z.2.1,z.2.2]
section

def GM (ok:HOk P w H h)(e:Rd H a u):x5 P w H h a u:=e.ok ok
def BF {d3} (ok:HOk P w H h)(e:Rd H a (.dK d3)):d3.length<=QX/\(a == sysModules)=false/\∃vs,KV d3 vs/\h.DictOf (t6 P w) a vs :=
 GM ok e
def CM {d3} (ok:HOk P w H h)(e:H a=some (.dK d3)):d3.length<=QX/\(a == sysModules)=false/\∃vs,KV d3 vs/\h.DictOf (t6 P w) a vs:=BF ok<|.inl e
def sY (ok:HOk P w H h)(e:H a=some (.tup<|ks.map kV)):(tupleKind<|t6 P w).is h ks a:=by obtain⟨_,its,r,⟨o,d,c,n,b⟩,_⟩:=(ok a _ e);exact#v[o,its.toArray,n,d,c,b,by simpa using mv r]
def Bx (ok:HOk P w H h)(e:Rd H a (.dT d3)):d3.length<=QX/\(a == sysModules)=false /\
  ∃xs,KT H d3 xs/\h.DictOfH (tupleKind<|t6 P w) a xs:=by
 let(z,y,xs,r,o,n,s,k,j,i,g,f):=(GM ok e);refine#v[z,y,xs,r,o,n,s,k,j,i,g,λx b=>?_,f];have all:∀{l} {m},KT H l m->∀x∈m,(tupleKind<|t6 P w).is h x.1 x.2.1:=by
  intro l m q;induction q with
  | nil=>intro x b;exact nomatch b
  | @cons p q v u c t d =>
   intro x b;rcases oZ.1 b with e | b
   .subst e;exact sY ok (by rw[<-c.1];exact c.2.1)
   .exact d x b
 exact all r x b
end
def gb (H:Hp)(a:QN)(y:V)(r:Option V):Prop :=
 (∃d3 k,Rd H a (.dK d3)/\y=kV k/\r=W4 d3 k)\/∃d3 k b,Rd H a (.dT d3)/\y = .ref b/\H b=some (.tup<|k.map kV)/\r=W4 d3 k
def jt (H:Hp)(a:QN)(y v:V)(H':Hp):Prop :=
 (∃d3 k,H a=some (.dK d3)/\y=kV k/\d3.length<QX/\H'=upd H a (.dK<|D8 d3 k v)) \/
 ∃d3 k b,H a=some (.dT d3)/\y = .ref b/\H b=some (.tup<|k.map kV)/\d3.length<QX/\H'=upd H a (.dT<|D8 d3 k v)
def gb.k {d3}{k} (e:H a=some (.dK d3)):gb H a (kV k) (W4 d3 k):=.inl #v[d3,k,.inl e,rfl,rfl]
def jt.k {d3}{k}(e:H a=some (.dK d3))(hl:d3.length<QX):jt H a (kV k) v (upd H a<|.dK<|D8 d3 k v):=.inl #v[d3,k,e,rfl,hl,rfl]
section
variable {σ:St}
def Inv.big (I:Inv X π σ H s):sysModules<( ~~~s):=by exact OC (by decide) ((I.mod.glob.keeps I.bk).lt)
def yN (hu:A.units+1<Rl)(I:Inv X π σ H s)(g:gb H a y (some v))(ry:l4 y u)(h:∀w' s',Inv X π σ H s'->l4 v w'->Q w' s') :
  Re (model X.prog X.w) A (getItem (.ref a) u) Q E s:=by
 rcases g with ⟨d3,k,e,j,l⟩ | ⟨d3,k,b,e,j,t,l⟩
 .subst j;let(z,r,vs,d,m):=BF I.hok e;let(w',f,c):=fU.some_of (by rw[l];exact d.val k);exact wpAny_getItem_of (pD ry) m.mapOf f<|h w' _ (I.tok _) c
 .subst j;cases(ry);let(z,r,n,d,m):=Bx I.hok e;let(w',f,c):=fU.some_of (by rw[l];exact d.val k);let(p,q,i):=sA.1 f;refine wpAny_getItem_heap (tupleKind_room_in1 hu) (sY I.hok t) m q ?_;rw[i];exact h w' _ (I.tok _) c
def U0 (I:Inv X π σ H s)(mu:Mut (H a))(hs:QW.SameBut a s.heap h')(he:∃q,h'.get? a=some q)(new:x5 X.prog X.w (upd H a ob) h' a ob) :
  Inv X π σ (upd H a ob) { s with heap:=h',toks:=t' } :=
 I.write mu (.inl rfl) (λb q c z=>(hs.2 b c).trans z) he new
def AC {d3} (z:d3.length<=QX)(hd:(a == sysModules)=false)(rel:KV d3 vs)(dd:h'.DictOf (t6 P w) a vs) :
  x5 P w H' h' a (.dK d3):=#v[z,hd,vs,rel,dd]
def lT (hu:A.units+1<Rl)(I:Inv X π σ H s)(g:jt H a y v H')(ry:l4 y u)(rv:l4 v r)(h:∀s',Inv X π σ H' s'->Q () s') :
  Re (model X.prog X.w) A (setItem (.ref a) u r) Q E s:=by
 rcases g with ⟨d3,k,e,o,l,p⟩ | ⟨d3,k,b,e,o,B,l,p⟩
 .subst o p;let(z,n,vs,d,t):=CM I.hok e;have j:vs.length<=QX:=by rwa[<-d.length]
  refine wpAny_setItem_pairs (pD ry) t λw f m=>h _ ?_
  exact U0 I (by rw[e];exact True.intro) m (let #v[q,_,_,i,_]:=f;#v[q,i])<|AC (by have:=bH d3 k v;lia) n (d.put k rv) f
 .subst o p;cases(ry);let(z,n,C,d,t):=(Bx I.hok<|.inl e);have j:C.length<=QX:=by rwa[<-Lq d]
  refine wpAny_setItem_heap (tupleKind_room_in1 hu) (sY I.hok B) t λw f m=>h _ ?_
  let(q,L,M,i,K,J,G,_,F):=f;refine U0 I (by rw[e];exact True.intro) m #v[q,i] #v[(by have:=bH d3 k v;lia),n,_,(d.put k B rv).keeps λc N x=>?_,q,L,M,i,K,J,G,F];rwa[h7<|Gz x e<|λz=>nomatch z]
end
def EN (i:QV):Prop:=∀a b,subscripted i false a b=operate [a,b] (getItem a b)
def wC {id}
  (hl:typeLookup (.type T) "__getitem__" = pure (some<|.builtin id)) (hs:EN slice)
  (h:Re (model prog w) A (eval value env) (λo s₁=>Re (model prog w) A (eval slice env) (λi s₂=>s₂.TypeIs o T/\Re (model prog w) A (getItem o i) Q E s₂) E s₁) E s) :
  Re (model prog w) A (eval (.Subscript value slice pos) env) Q E s:=by
 refine Subscript_ (Dp h (λo s₁ d=>Dp d (λi s₂ a=>?_) λ_ _ x=>x) λ_ _ x=>x);let(e,a):=a;refine iD ?_;rw[getitemInPython_of_ne e.not_modules];refine iD<|NR e hl ?_;have fin:Re (model prog w) A (subscripted slice false o i) (λr b=>Re (model prog w) A (letTemporaryGo value o r >>= λ_=>pure r) Q E b) E s₂:=by rw[hs o i];exact wpAny_operating (Dp a (λr b c=>iD<|wpAny_letTemporaryGo<|iO c) λ_ _ x=>x)
 first
  | exact iO<|iD fin
  | exact iD<|iO<|iD fin
  | exact iD fin
def MD (td ty:TE):TE:=λb H Q=>td b H λx d=>ty b d λy c=>∃a v,x = .ref a/\gb c a y (some v)/\Q v c
def Mm (td ty tv:TE):TS:=λD b H=>tv b H λv f=>td b f λx e=>ty b e λy d=>∃a c,x = .ref a/\jt d a y v c/\D.nx b c
section
variable {o:QV}
def aE (hu:X.A.units+1<Rl)(ho:PE X o td)(hi:PE X i ty)(hs:EN i):PE X (.Subscript o i pos) (MD td ty):=by
 intro π s j H Q I h;refine wC PySem.F.slot_dict_getitem.lookup hs (thn (ho π s j H _ I h) λu s1 #v[x,z,t,m,p]=>thn (hi π s1 j z _ t p) ?_ );rintro D s2 ⟨y,w,f,l,a,v,q,g,n⟩;subst q;obtain rfl:=m;exact#v[(by
  rcases g with ⟨d3,k,e,_,_⟩ | ⟨d3,k,b,e,_,_,_⟩
  .let(_,_,vs,_,d):=BF f.hok e;exact d.typeIs
  .let(_,_,A,_,d):=Bx f.hok e;exact d.typeIs),yN hu f g l λB C r c=>#v[v,w,r,c,n]]
def jf (hu:X.A.units+1<Rl)(ho:PE X o td)(hi:PE X i ty)(hv:PE X value tv)(hs:Rg value (some<|.Subscript o i pos') pos.line X.env=pure false) :
  PS X (.Assign [.Subscript o i pos'] value pos) (Mm td ty tv):=by intro π s b H D I h;refine Pi (thn (hv π s b H _ I h) λr s1 #v[v,z,q,e,k]=>thn (ho π s1 b z _ q k) λu s2 #v[x,w,p,d,j]=>thn (hi π s2 b w _ p j) ?_ ) hs;rintro C B ⟨y,E,n,c,a,t,l,g,f⟩;subst l;obtain rfl:=d;exact lT hu n g c e λA m=>#v[b,t,m,f]
end
def qY (h:QW)(hb:sysModules<h.objs.size):x5 P w H (h.push { cls:=.type "dict",data:=.dict #[] }) h.objs.size (.dK []) :=
 #v[CW _,Me.2<|DO<|uu hb,[],.nil,QW.DictOf.new h]
def ID :TE:=λ_ H Q=>∀p,H p=none->Q (.ref p) (upd H p<|.dK [])
section

def BH :PE X (.Dict [] [] pos) ID:=λπ s b H Q I h =>
 wpAny_Dict_empty #v[.ref (~~~s),_,I.laid (λ_ _ q=>jM _ q) (qD _)<|qY s.heap I.big,rfl,h _<|I.hok.fresh<|qD _]
end
def uc:List (TE×TE)->St->Hp->(List (V×V)->Hp->Prop)->Prop
 | [],_,H,Q=>Q [] H
 | (tk,tv)::r,σ,H,Q=>tk σ H λx d=>tv σ d λy c=>uc r σ c λa b=>Q ((x,y)::a) b
abbrev VV :List (V×V)->List (My×My)->Prop:=Paired λp q=>l4 p.1 q.1/\l4 p.2 q.2
def PPs (X:Cx)(pos:Pos)(keys:List (Option QV))(values:List QV)(trs:List (TE×TE)):Prop :=
 ∀π s (a:St) H Q,Inv X π a H s->uc trs a H Q ->
  Re (model X.prog X.w) X.A (evalPairs<|pairTrees keys values X.env pos) (λvs d=>∃b c,Inv X π a c d/\VV b vs/\Q b c) X.xe s
def Fy :PPs X pos [] [] []:=λπ s a H Q I h=>pairTrees_nil_walk #v[[],H,I,.nil,h]
def eV {vs}(hk:PE X k tk)(hv:PE X v tv)(hr:PPs X pos ks vs trs) :
  PPs X pos (some k::ks) (v::vs) ((tk,tv)::trs):=λπ s a H Q I h =>
 pairTrees_cons_walk (thn (hk π s a H _ I h) λu s1 #v[x,p,m,d,g]=>thn (hv π s1 a p _ m g) λr s2 #v[y,o,l,c,f] =>
  thn (hr π s2 a o _ l f) λq t #v[i,n,j,b,e]=>#v[(x,y)::i,n,j,.cons #v[d,c] b,e])
def gH (d3 more:List (Key×V)):List (Key×V):=more.foldl (λa b=>D8 a b.1 b.2) d3
def KV.merge :∀{more} {rs} {d3} {vs},KV more rs->KV d3 vs->KV (gH d3 more) (merged vs rs):=by
 intro more rs d3 vs r;induction r generalizing d3 vs with
 | nil=>intro q;exact q
 | @cons p q d c h t b =>
  intro a;have e:KV (D8 d3 p.1 p.2) (stored vs q.1 q.2):=by have:=a.put p.1 h.2;rwa[<-h.1]
  exact b e
theorem dw:∀more d3,(gH d3 more).length<=d3.length+more.length
 | [],d3=>by show d3.length<=d3.length+0;lia
 | p::r,d3=>by have b:=dw r<|D8 d3 p.1 p.2;have a:=bH d3 p.1 p.2;show(gH (D8 d3 p.1 p.2) r).length<=_;rw[qN];lia
theorem jB :∀{d3} {ws},VV (d3.map λkv=>(kV kv.1,kv.2)) ws->∃rs,Carries (t6 P w) ws rs/\KV d3 rs
 | [],_,r=>by rw[Cq]at r;cases r;exact#v[[],True.intro,.nil]
 | p::d3,_,r=>by
  rw[kX]at r;cases r with
  | @cons a b as bs h t =>let(rs,c,q):=jB t;let(d,b2):=b;exact#v[(p.1,b2)::rs,#v[pD h.1,rfl,c],.cons #v[rfl,h.2] q]
def LZ (trs:List (TE×TE)):TE:=λc H Q=>∀p,H p=none->uc trs c (upd H p<|.dK []) λd b=>b p=some (.dK [])/\∃d3,d=d3.map (λa=>(kV a.1,a.2))/\d3.length<=15/\Q (.ref p) (upd b p<|.dK<|gH [] d3)
def DJ (h:PPs X pos keys values trs)(hall:keys.all (·.isSome)=true)(hl:keys.length=values.length)(h0:keys≠[])
  (h15:keys.length<=15):PE X (.Dict keys values pos) (LZ trs):=by
 intro π s g H Q I q;refine wpAny_Dict_walk (knd:=t6 X.prog X.w) hall hl h0 h15 (thn (h π _ g _ _ (I.laid (t':=s.toks) (λ_ _ q=>jM _ q) (qD _)<|qY s.heap I.big)<|q _ (I.hok.fresh<|qD (~~~s)) ) ?_ );rintro C s2 ⟨D,E,f,d,e,d3,y,lk,m⟩;subst y;let(j,c,k):=jB d;let(z,v,i,l,A):=CM f.hok e;cases l;refine#v[j,c,A,λh' b p=>#v[.ref (~~~s),_,?_,rfl,m]];exact U0 f (by rw[e];exact True.intro) p (let #v[q,_,_,r,_]:=b;#v[q,r])<|AC (by have x:=dw d3 [];rw[Ee]at x;rw[xD];lia) v (k.merge .nil) b
structure M2 (X:Cx) o m (apos:Pos) e f cpos:Prop where
 base:Rh o m X.env (eval o X.env)=eval o X.env
 few:((Rb cpos<|QY [e,f] X.env).all (λx=>!x.1)&&(Rp cpos<|Rq [] X.env).all (λx=>x.1.isSome)
  && decide (([e,f]:List QV).length+([]:List Rc).length+(if ([]:List Rc).isEmpty then 0 else 1)<30))=true
 line:(apos.endLine == cpos.line)=true
 trees:Rb cpos (QY [e,f] X.env)=[(false,eval e X.env),(false,eval f X.env)]
end
end L2
namespace Att
open PySem PySem.W PySem.Calls PyProof.Rows
def iJ :∀ns vs,WellAll P h vs (ns.map WData.int)->IntsAre vs ns:=by
 intro ns;induction ns with
 | nil =>intro vs w;rw[Cq]at w;cases w;exact .nil
 | cons n ns c =>
  intro vs w;rw[kX]at w;cases w with
  | cons a b =>cases a;exact .cons _ _<|c _ b
def yr (l:OpenLaw)(args):l.row.toRowW.claim.post args (.bool true) args=true :=
 postW_of (X:=(true == true))
  (show WShape.has [] (.bool true) .bool=true by first | rfl | decide | simp[WShape.arms])
  (w_eq_bool (w_res rfl) w_lit) rfl
def attach_call {l:OpenLaw}
  (hn:l.most=some n) (hdf:d.params.defaults=[])
  (call:∀w s₀ s₁ mg mb fa o pm cd doc a vs ns,
   Ground q loose [] XP w s₀ mg mb s₁.heap->YP w s₁.heap ->
   s₁.heap.get? fa=some o->o.data = .func (docDef d.name d.params d.body d.scope pm cd doc)->s₁.heap.CodeRec cd d.name->mg d.name=some (.ref fa) ->
   s₁.heap.get? a=some { cls:=.type "list",data:=.seq vs.toArray }->IntsAre vs ns->ns.length<=n->s₁.gens = #[] ->
   codeAny (model l.prog w) callerA (.call (.ref fa) #v[[.ref a],[]]) (λr s'=>r = .ok (.ret<|.bool true)/\OldK s₁.heap s'.heap/\s'.os=s₁.os/\AllBare s'.gens) s₁) :
  WalkO q loose XP YP l.row.toRowW d [] (λf vs=>PySem.call f vs):=by
 intro w s₀ s₁ mg mb G Y fa o pm cd doc N kV t L v B u K c i as e z F p J;obtain rfl:=Dflts.none B hdf;obtain rfl:=Dflts.noKw B;let(a,vs,ns,rfl,rfl,j,g,b):=(show ∃a vs ns,i=[My.ref a]/\c=[WData.list<|ns.map WData.int]/\(QO.heap s₁).get? a=some { cls:=.type "list",data:=.seq vs.toArray }/\IntsAre vs ns/\ns.length<=n by
  let(d,r,rfl,M,y):=hasAllW_cons ((pre_splitW e).1);obtain rfl:=hasAllW_nil y;let(O,rfl,x):=hasW_list M;let(ns,rfl):=items_int x;have b:ns.length<=n:=by
   have h:(WTm.not<|.lt (.lit<|.int n )<|.len<|.arg 0).holds [] { args:=[.list<|ns.map .int] }=true:=by have h:=(holds_andW ((pre_splitW e).2) ).1;rwa[hn]at h
   have m:=condW_of h<|w_not<|w_lt w_lit<|w_len_list<|w_arg rfl;rw[jI]at m;refine Nat.le_of_not_lt λq=>?_
   first
    | (rw[xq (by lia) ]at m;exact absurd m<|by decide)
    | (simp at m;lia)
  cases p with
  | cons D C =>
   cases C;cases D with
   | list t k=>exact#v[_,_,ns,rfl,rfl,t,iJ ns _ k,b])
 refine enter_call (OD (call w s₀ s₁ mg mb fa o pm cd doc a vs ns G Y t (fd_plain L) v u j g b K) λr s' H=>?_);let(rfl,y,x,h):=H;exact#v[.inl #v[.bool true,.bool true,[],rfl,λ_=>rfl,.bool true,yr l _,λ_=>#v[List.Pairwise.nil,λ_ I=>(nomatch I)]],y,x,h]
end Att
namespace L2
open PySem PySem.Spec PyProof.Rows
section
theorem gY:∀{vs} {ns},IntsAre vs ns->k8 (ns.map V.int) vs
 | _,_,.nil=>.nil
 | _,_,.cons n t h=>.cons #v[t,rfl]<|gY h
end
end L2
namespace L2
open PySem PySem.Spec PyProof.Rows
def U2 (s:QU):Arguments:=match s with
 | .FunctionDef _ a _ _ _ _ _ _ _ _=>a
 | _=>{ posonlyargs:=[],args:=[],vararg:=none,kwonlyargs:=[],kw_defaults:=[],kwarg:=none,defaults:=[] }
def m4 (s:QU):List QU:=match s with
 | .FunctionDef _ _ b _ _ _ _ _ _ _=>b
 | _=>[]
def c7 (s:QU):QS:=match s with
 | .FunctionDef _ _ _ _ _ _ sc _ _ _=>sc
 | _=>{ kind:=.function,names:=[],isGenerator:=false,isCoroutine:=false }
abbrev CX0:CXT:=λ_ _ _ _ _ _=>False
abbrev E0:XK:=λ_ _ _=>False
def KG :uI CX0 X E0:=λ_ _ _ _ _ _ _ h=>h.elim
structure Fun (K:Qf) x qual st f fd:Prop where
 ex:∃(oc:My) (od:Option QN) (kV doc pm:My) (an:Option QN) (dr ct:My) (osl:Array (Option My)),
  fd=PySem.W.fnOf x qual (U2 st) (m4 st) (c7 st) .none kV doc pm an dr ct/\K.lookup f=some #v[oc,od,.func fd,osl]/\PySem.W.codeIn K dr qual=true
 kp:PySem.W.keepIn K (.ref f)=true
section
variable {K:Qf}
def Fun.ok {st}(F:Fun K x qual st f fd)(S:FnScope N ps (c7 st))(len:∀vs H Q E,sp vs H Q E->vs.length=ps.length)
  (hbody:∀dr A outer s H vs Q E,Room k (A.deeper<|envOfC qual (c7 st) (~~~s) f dr)->sp vs H Q E ->
   ∃t,PSs (gB CX0 P w K mg base N qual (c7 st) f dr A outer s H E).nox (m4 st) t/\t { nx:=λ_ H'=>Q .non H',rt:=Q } (P2 N vs) H):FnOk P w K mg base CX0 (k+1) f fd ps sp:=by
 let(j,i,kV,e,g,l,dr,ct,c,rfl,lk,b):=F.ex;refine Hd lk b S len λA outer s H vs Q E d a=>?_
 let(t,h,q):=hbody dr A outer s H vs Q E d a;exact#v[t,h.nox,q]
def Fun.binds {st}(F:Fun K x qual st f fd)
  (h:∀kV doc pm an dr ct us,us.length=ps.length->bindArgs (PySem.W.fnOf x qual (U2 st) (m4 st) (c7 st) .none kV doc pm an dr ct) #v[us,[]]=pure (ps.zip us)):aW K fd ps []:=by let(d,c,kV,doc,pm,an,dr,ct,a,rfl,lk,b):=F.ex;exact .all<|h kV doc pm an dr ct
def Cn {st}{kV} (l:K.lookup f=some #v[oc,od,.func<|PySem.W.fnOf x qual (U2 st) (m4 st) (c7 st) .none kV doc pm an dr ct,osl])
  (c:PySem.W.codeIn K dr qual=true) (k:PySem.W.keepIn K (.ref f)=true):Fun K x qual st f (PySem.W.fnOf x qual (U2 st) (m4 st) (c7 st) .none kV doc pm an dr ct):=#v[#v[oc,od,kV,doc,pm,an,dr,ct,osl,rfl,l,c],k]
end
def Mn (hr:Room k A):A.units+1<Rl:=xr (Dy (by decide) _) hr.units
def hV (h:n<=1000):n<QX:=xr h (by decide)
section

def pv (i)(hN:‹X.N[i]? = some x›)(hv:autoParam (Vis X.env.scope x) kA)(hd:autoParam (nDb x) gC)
  (hcd:autoParam (nCd x) gC):PE X (.Name x pos) (P4 i):=A9 hN hv hd hcd
end
def Na {B:Prop} (h:B):if false=true then A else B:=by rwa[oj tN]
def Gr {B:Prop}[Decidable c](h1:c->A)(h2:¬c->B):if c then A else B:=by
 by_cases h:c
 .rw[nY h];exact h1 h
 .rw[oj h];exact h2 h
def i5 (H H':Hp):Prop:=∀b o,H b=some o->H' b=some o
def i5.refl (H):i5 H H:=λ_ _ h=>h
def i5.seq {K}(e:i5 H H')(h:SqL K H a xs):SqL K H' a xs:=by
 rcases h with (h | ⟨o,h⟩) | h
 .exact .inl<|.inl<|e _ _ h
 .exact .inl<|.inr #v[o,e _ _ h]
 .exact .inr h
end L2
set_option maxHeartbeats 4000000
namespace L2
open PySem PySem.Spec PyProof.Rows

section
def G0 (f:Str->QN):List (Str×Ro)->List (Str×QN)->List (Str×QN)
 | [],acc=>acc
 | (n,kd)::r,acc=>G0 f r (if (kd == Ro.free)=true then(n,f n)::acc else acc)
def J9 (h:∀y∈scope.names,y.2 = .free->cellOf env y.1=pure (f y.1)) :
  closureFor scope env=pure (G0 f scope.names []):=by
 have d:∀l a,(∀y∈l,y.2 = .free->cellOf env y.1=pure (f y.1)) ->
   (forIn l a (λ(x:Str×Ro) (o:List (Str×QN))=>if (x.2 == Ro.free)=true then(do let c <-cellOf env x.1;pure (ForInStep.yield ((x.1,c)::o))) else pure (ForInStep.yield o)))=pure (G0 f l a):=by
  intro l;induction l with
  | nil=>intro a _;rfl
  | cons y r k =>
   intro a j;let(n,g):=y;rw[Ox];by_cases b:(g == Ro.free)=true
   .have m:=j (n,g) ll (by simpa using b);simp only[b];rw[m];show(forIn r ((n,f n)::a) _:Sem _)=_;rw[k _ λz i=>j z<|kN _ i];simp only[G0,b,Bc]
   .simp only[b];show(forIn r a _:Sem _)=_;rw[k _ λz i=>j z<|kN _ i];simp only[G0,b];rfl
 have:=d scope.names [] h;show(forIn scope.names [] _ >>= λr=>pure r)=_;rw[this];rfl
theorem N6 :∀l acc {x} {c},(G0 f l acc).lookup x=some c->((x,Ro.free)∈l/\c=f x)\/acc.lookup x=some c
 | [],_,_,_,h=>.inr h
 | (n,kd)::r,acc,x,c,h=>by
  rw[G0]at h;rcases N6 r _ h with ⟨a,i⟩ | a
  .exact .inl #v[kN _ a,i]
  .by_cases b:(kd == Ro.free)=true
   .rw[nY b]at a;have e:kd = .free:=by simpa using b
    subst e;by_cases d:x=n
    .subst d;simp at a;exact .inl #v[ll,a.symm]
    .rw[yH,Me.2 d ]at a;exact .inr a
   .rw[oj b]at a;exact .inr a
theorem aq :∀l acc {x},((x,Ro.free)∈l\/acc.lookup x=some (f x))->(G0 f l acc).lookup x=some (f x)
 | [],_,_,h=>by
  rcases h with h | h
  .exact absurd h (by simp)
  .exact h
 | (n,kd)::r,acc,x,h=>by
  rw[G0];refine aq r _ ?_;by_cases a:(kd == Ro.free)=true
  .rw[nY a];have e:kd = .free:=by simpa using a
   subst e;by_cases b:x=n
   .subst b;exact .inr (by simp)
   .rcases h with h | h
    .rcases oZ.1 h with z | z
     .cases z;exact absurd rfl b
     .exact .inl z
    .exact .inr (by rwa[yH,Me.2 b ])
  .rw[oj a];rcases h with h | h
   .rcases oZ.1 h with z | z
    .cases z;exact absurd rfl a
    .exact .inl z
   .exact .inr h
def P8 (scope:QS)(cl:List (Str×QN))(n:Nat):List (Str×QN):=cellsFrom (n+1) scope.names cl
theorem N0:∀names n acc,cellsFrom n names acc=cellsFrom n names []++acc
 | [],_,_=>rfl
 | (x,k)::r,n,acc=>by
  unfold cellsFrom;split
  .rw[N0 r (n+1) ((x,n)::acc),N0 r (n+1) [(x,n)],NZ];rfl
  .exact N0 r n acc
theorem cq:∀names n {x} {c},(x,c)∈cellsFrom n names []->(x,Ro.cell)∈names
 | [],_,_,_,h=>by cases h
 | (y,k)::r,n,x,c,h=>by
  unfold cellsFrom at h;split at h
  .rename_i a;rw[N0]at h;rcases zj.1 h with h | h
   .exact kN _<|cq r (n+1) h
   .have a:k = .cell:=by simpa using a
    subst a;cases xp.1 h;exact ll
  .exact kN _<|cq r n h
theorem CA {α:Type}:∀{l r:List (Str × α)} {x} {c},(l++r).lookup x=some c->l.lookup x=some c\/(l.lookup x=none/\r.lookup x=some c)
 | [],r,x,c,h=>.inr #v[rfl,h]
 | (y,v)::l,r,x,c,h=>by
  rw[yS,yH]at h;rw[yH];cases hb:x == y with
  | true=>rw[hb]at h;exact .inl h
  | false=>rw[hb]at h;exact CA h
theorem nC {α:Type}:∀{l r:List (Str × α)} {x},l.lookup x=none->(l++r).lookup x=r.lookup x
 | [],r,x,h=>rfl
 | (y,v)::l,r,x,h=>by
  rw[yH]at h;rw[yS,yH];cases hb:x == y with
  | true=>rw[hb]at h;cases h
  | false=>rw[hb]at h;exact nC h
theorem oC {α:Type}:∀{l r:List (Str × α)} {x} {c},l.lookup x=some c->(l++r).lookup x=some c
 | [],r,x,c,h=>by cases h
 | (y,v)::l,r,x,c,h=>by
  rw[yH]at h;rw[yS,yH];cases hb:x == y with
  | true=>rwa[hb]at h
  | false=>rw[hb]at h;exact oC h
def tD {code}
  (hQ:∀h₁,h₁.Ns (~~~s) (λ_=>none)->(∀b o,s.heap.get? b=some o->h₁.get? b=some o)->CellsOk h₁ (~~~s+1) (cellsFrom (~~~s+1) scope.names []) ->
   Q (newEnv scope (~~~s) globals (cellsFrom (~~~s+1) scope.names closure) qual func code (some env) builtins) { s with heap:=h₁ }) :
  Re M A (newFunctionEnv scope globals closure [] qual func code (some env) builtins) Q E s:=by simp only[newFunctionEnv];refine iD<|wpAny_alloc<|iD (wpAny_layCells _ (λd a c=>by cases hkc:a == Ro.cell <;> simp[hkc]) _ _ _ _ ?_);have ok:=cellsFrom_ok scope.names (s.heap.push { cls:=.type "dict",data:=.dict #[] }) (~~~s+1) [] #v[λ_ _ f=>(nomatch f),List.Pairwise.nil] (by rw[AW];exact qD _);rw[AW]at ok;rw[AW ..];rw[OO];refine iD<|iO<|iO<|hQ _ ((QW.Ns.new s.heap<|.type "dict").keeps<|pushCells_keeps _ _) (λb o e=>pushCells_keeps _ _ b o<|jM _ e) ok
theorem cR (hφ:∀n k,φ (n,k)=(n,k)\/(k = .free /\ φ (n,k)=(n,.cell))):∀{names:List (Str×Ro)} {x},names.lookup x=some .free->(names.map φ).lookup x=some .cell\/(names.map φ).lookup x=some .free
 | [],_,h=>by simp at h
 | (n,k)::r,x,h=>by
  have a:=@cR φ hφ r x;rw[kX];cases hx:x == n with
  | true =>
   simp only[yH,hx]at h;cases h;rcases hφ n .free with e | ⟨_,e⟩
   .rw[e,yH,hx];exact .inr rfl
   .rw[e,yH,hx];exact .inl rfl
  | false =>
   simp only[yH,hx]at h;rcases hφ n k with e | ⟨_,e⟩
   .rw[e,yH,hx];exact a h
   .rw[e,yH,hx];exact a h
def Ad (target iter:QV)(ifs:List QV)(it:My)(env:Ra)(act:Sem Fin->Sem Fin)(more:Sem Fin):Sem Fin:=do
 standAt iter.pos
 match <-pyNext it with
 | none=>pure<|.done .next
 | some v =>
  letOwnedTupleGo target it v
  assign target env v
  let mut ok:=true
  for c in ifs do
   if ok then ok <-isTrue c env (eval c env)
  if ok then act more else more
def HJ (elt:QV)(acc:My)(env:Ra):Sem Unit:=do let _ <-call (.builtin "list.append") [acc,<-eval elt env]
section

def LM (I:Nat->QO->Prop)
  (ht:compTurn (.ListComp elt gens scope pos) d it acc env=Ad target iter ifs it env act (again<|.compLoop (.ListComp elt gens scope pos) d it acc env))
  (turn:∀n s,I n s->Re (model prog w) A (pyNext it) (λr s₁=>match r with
   | none=>R (.ok .next) s₁
   | some v=>Re (model prog w) A (letOwnedTupleGo target it v) (λ_ s₀=>Re (model prog w) A (assign target env v) (λ_ s₂ =>
     Re (model prog w) A (forIn ifs true λc r=>if r=true then do let ok <-isTrue c env (eval c env);pure (ForInStep.yield ok) else pure (ForInStep.yield r)) (λok s₃ =>
      if ok=true then ∀k Q E,(∀s₅,(∃m,m<n/\I m s₅)->Re (model prog w) A k Q E s₅)->Re (model prog w) A (act k) Q E s₃
      else ∃m,m<n/\I m s₃) (λ_ _=>False) s₂) (λ_ _=>False) s₀) (λ_ _=>False) s₁) (λ_ _=>False) s)
  (n) (h:I n s):codeAny (model prog w) A (.compLoop (.ListComp elt gens scope pos) d it acc env) R s:=by
 refine codeAny_loop rfl I (λn s j=>wpAny_noted ?_ ) n h;rw[ht];refine iD (Qo<|iD<|Dp (turn n s j) (λr s₁ b=>?_) λ_ _ e=>e.elim);cases r with
 | none=>exact iO b
 | some v =>
  refine iD (Dp b (λ_ s₀ i=>iD (Dp i (λ_ s₂ g=>iD<|Dp g (λok s₃ a=>?_) λ_ _ e=>e.elim) λ_ _ e=>e.elim) ) λ_ _ e=>e.elim);cases ok with
  | false=>exact iO #v[rfl,a]
  | true=>exact a _ _ _ λs₅ f=>iO #v[rfl,f]
end
def iG (k:Nat)(cap:List Nat)(σ:St):St:=List.replicate k none++cap.map λj=>(σ[j]?).join
structure Caps (ON:List Str) (osc:QS) (N:List Str) k (cap:List Nat) (scope:QS):Prop where
 kind:scope.kind = .function:=by rfl
 cell:∀y∈scope.names,y.2 = .cell->scope.names.lookup y.1=some .cell:=by decide +kernel
 loc:∀y∈scope.names,y.2 = .local->scope.names.lookup y.1=some .local:=by decide +kernel
 free:∀y∈scope.names,y.2 = .free->osc.names.lookup y.1=some .cell\/osc.names.lookup y.1=some .free:=by decide +kernel
 len:N.length=k+cap.length:=by rfl
 capx:(cap.map λj=>ON[j]?)=(N.drop k).map some:=by rfl
 capf:∀x∈N.drop k,scope.names.lookup x=some .free:=by decide +kernel
def cxC (X:Cx)(N:List Str)(scope:QS)(cl:List (Str×QN))(C:QN)(ex:List QN)(π:List (QN×QZ))(s₀:QO)(H₀:Hp):Cx where
 prog:=X.prog
 w:=X.w
 K:=X.K
 mg:=X.mg
 base:=X.base
 A:=X.A
 N:=N
 s₀:=s₀
 H₀:=H₀
 env:=compEnvC scope cl C X.env
 outer:=X.stack
 stack:=X.stack
 ex:=ex
 fn:=λx=>match scope.names.lookup x with
  | some .cell=>true
  | _=>false
 calm:=X.calm
 pn:=X.pn++π
 xe:=λ_ _=>False
def PTs (X:Cx)(ifs:List QV)(t:TT):Prop :=
 ∀a s (b:St) H Q,Inv X a b H s->t b H Q ->
  Re (model X.prog X.w) X.A (forIn ifs true λc r=>if r=true then do let ok <-isTrue c X.env (eval c X.env);pure (ForInStep.yield ok) else pure (ForInStep.yield r)) (TP X a b Q) X.xe s
def Mz :TT:=λ_ H Q=>Q true H
def tLC (wi:TI)(k:Nat)(cap:List Nat)(g:TG)(tt:TT)(te:TE):TE:=λh H Q=>wi h H λJ n=>∀D,n D=none ->
 ∃W:Nat->Nat->St->List V->Hp->Prop,(∃m,W 0 m (iG k cap h) []<|upd n D<|.lst [])/\∀i m c a e,W i m c a e ->
  (J.stop i e/\Q (.ref D) e) \/
  (J.go i e/\∀x l,J.yld i e x l->g x c l λb o=>tt b o λok f=>if ok=true then te b f λy j=>j D=some (.lst a)/\a.length<QX/\∃d,d<m/\W (i+1) d b (a++[y]) (upd j D<|.lst<|a++[y])
   else f D=some (.lst a)/\∃d,d<m/\W (i+1) d b a f)
def vZ {act:Ra->Sem Fin->Sem Fin}
   {σ:St}       {Qs:Hp->Prop} {W:Nat->Nat->St->Hp->Prop}  {P:QN->Result->QO->Prop}
  (hturn:∀env,compTurn (.ListComp elt (#v[tg,iter,ifs,0]::rest) scope pos) 0 (.ref it) (.ref D) env=Ad tg iter ifs (.ref it) env (act env) (again<|.compLoop (.ListComp elt (#v[tg,iter,ifs,0]::rest) scope pos) 0 (.ref it) (.ref D) env))
  (hc:X.calm=true) (hosc:X.env.scope=osc) (hcap:Caps X.N osc N k cap scope)
  (hcl:∀{x} {c},cl.lookup x=some c->X.env.cells.lookup x=some c) (hhas:∀x,(x,Ro.free)∈scope.names->∃c,cl.lookup x=some c)
  (hg:∀cl C ex π s H,PG (cxC X N scope cl C ex π s H) tg g)
  (ht:∀cl C ex π s H,PTs (cxC X N scope cl C ex π s H) ifs tt)
  (I3:Inv X π σ H3 s3) (T:Turn X.prog X.w X.K tg J fp it tn) (st:tn 0 s3.heap) (f3:∀b∈fp,bX X π H3 b) (w0:W 0 m0 (iG k cap σ) H3)
  (hend:∀s6 σ5 H5,Inv (cxC X N scope (P8 scope cl (~~~s3)) (~~~s3) fp π s3 H3) [] σ5 H5 s6->Inv X π σ H5 s6->Qs H5->P (~~~s3) (.ok .next) s6)
  (turn:∀i m O' H',W i m O' H'->(J.stop i H'/\Qs H') \/
   (J.go i H'/\∃C:Bool->St->Hp->Prop,(∀x H2,J.yld i H' x H2->g x O' H2 λσ2 H3=>tt σ2 H3 λok H4=>C ok σ2 H4)/\(∀σ2 H4,C false σ2 H4->∃m',m'<m/\W (i+1) m' σ2 H4) /\
    ∀pins' s (σ2:St) H4,Inv (cxC X N scope (P8 scope cl (~~~s3)) (~~~s3) fp π s3 H3) pins' σ2 H4 s->C true σ2 H4->∀k R E,
     (∀s' σ3 H5,Inv (cxC X N scope (P8 scope cl (~~~s3)) (~~~s3) fp π s3 H3) pins' σ3 H5 s'->(∃m',m'<m/\W (i+1) m' σ3 H5)->Re (model X.prog X.w) X.A k R E s')->Re (model X.prog X.w) X.A (act (compEnvC scope (P8 scope cl (~~~s3)) (~~~s3) X.env) k) R E s)) :
  Re (model X.prog X.w) X.A (newFunctionEnv scope X.env.globals cl [] X.env.qual none .none<|some X.env) (λcenv s₄ =>
   codeAny (model X.prog X.w) X.A (.compStart (.ListComp elt (#v[tg,iter,ifs,0]::rest) scope pos) 0 (.ref it) (.ref D) { cenv with scope:=relabel scope X.env }) (P cenv.locals) s₄) X.xe s3:=by
 refine tD λG M w ab=>?_
 have t:∀{x:Str} {c:QN},(P8 scope cl (~~~s3)).lookup x=some c->((cellsFrom (~~~s3+1) scope.names []).lookup x=some c/\scope.names.lookup x=some .cell/\G.IsCell c none/\(~~~s3)<c)\/cl.lookup x=some c:=λ{x c} e=>by
  unfold P8 at e;rw[N0]at e;rcases CA e with z | z
  .have O:=yI z;let(L,a2):=ab.empty x c O;exact .inl #v[z,hcap.cell _ (cq _ _ O) rfl,L,a2]
  .exact .inr z.2
 have bm:∀{x:Str} {c:QN},cl.lookup x=some c->c<( ~~~s3):=λ{x c} e=>by let(v,z):=I3.cell x c<|hcl e;exact z.lt
 have a8:∀{x:Str},scope.names.lookup x=some .free->(P8 scope cl (~~~s3)).lookup x=cl.lookup x:=λ{x} e=>by
  unfold P8;rw[N0];refine nC ?_;cases q:(cellsFrom (~~~s3+1) scope.names []).lookup x with
  | none=>rfl
  | some c =>have z:=hcap.cell _ (cq _ _<|yI q) rfl;rw[e]at z;cases z
 have a6:∀x y c,(P8 scope cl (~~~s3)).lookup x=some c->(P8 scope cl (~~~s3)).lookup y=some c->x=y:=λx y c h1 h2=>by
  rcases t h1 with ⟨L,_,_,A⟩ | a <;> rcases t h2 with ⟨b1,_,_,b4⟩ | b
  .exact name_of_addr ab.apart (yI L)<|yI b1
  .exact absurd (bm b)<|Nat.not_lt.2<|Ir A
  .exact absurd (bm a)<|Nat.not_lt.2<|Ir b4
  .exact I3.ok.inj x y c (hcl a)<|hcl b
 have a7:∀x,((relabel scope X.env).names.lookup x=some .cell\/(relabel scope X.env).names.lookup x=some .free)->∃c,(P8 scope cl (~~~s3)).lookup x=some c:=λx I=>by
  unfold P8;rw[N0];cases q:(cellsFrom (~~~s3+1) scope.names []).lookup x with
  | some c=>exact#v[c,oC q]
  | none =>
   rcases (show (x,Ro.free)∈scope.names\/(x,Ro.cell)∈scope.names by
    have go:∀kd,(relabel scope<|Cx.env X).names.lookup x=some kd->kd = .cell\/kd = .free->(x,Ro.free)∈scope.names\/(x,Ro.cell)∈scope.names:=by
     intro kd I V;have O:=yI I;unfold relabel at O;obtain⟨⟨n,k0⟩,hy,e⟩:=ue.1 O;by_cases hc:(k0 == Ro.free&&(Cx.env X).scope.kind == .function&&(Cx.env X).kindOf n == some .cell)=true
     .simp only[hc,Bc]at e;cases e;have:k0 = .free:=by simp only[Jz]at hc;simpa using hc.1.1
      subst this;exact .inl hy
     .simp only[hc,yz]at e;cases e;rcases V with r | r
      .subst r;exact .inr hy
      .subst r;exact .inl hy
    rcases I with I | I
    .exact go _ I (.inl rfl)
    .exact go _ I<|.inr rfl) with z | z
   .let(c,e):=hhas x z;exact#v[c,(nC q).trans e]
   .have y:=NW scope.names (~~~s3+1) []<|.inl<|hcap.cell _ z rfl;rw[q]at y;cases y
 have a9:∀x c,(cxC X N scope (P8 scope cl (~~~s3)) (~~~s3) fp π s3 H3).fn x=true->(P8 scope cl (~~~s3)).lookup x=some c-> ~~~s3<=c:=λx c h e=>by
  rcases t e with ⟨_,_,_,A⟩ | a
  .exact Ir A
  .have I:scope.names.lookup x=some .cell:=by
    have h:(match scope.names.lookup x with | some .cell=>true | _=>false)=true:=h;split at h
    .assumption
    .cases h
   let(c',K):=Cc.1 (NW scope.names (~~~s3+1) []<|.inl I);have Q:(P8 scope cl (~~~s3)).lookup x=some c':=by unfold P8;rw[N0];exact oC K
   rw[e]at Q;cases Q;exact Ir (ab.empty x c<|yI K).2
 have ba:∀b∈fp,b≠(~~~s3):=λb f=>by let(o,e,_):=T.obj _ _ st b f;exact uu<|pz e
 have cne:∀b∈fp,∀{x:Str} {c:QN},(P8 scope cl (~~~s3)).lookup x=some c->c≠b:=λb f {x c} e=>by
  rcases t e with ⟨_,_,_,A⟩ | a
  .let(o,e,_):=T.obj _ _ st b f;exact DO<|uu<|OC (pz e) A
  .exact(f3 b f).2.2.2.2.1 x c<|hcl a
 have al:∀{x:Str} {c:QN},(P8 scope cl (~~~s3)).lookup x=some c->H3 c=none:=λ{x c} e=>by
  rcases t e with ⟨_,_,_,A⟩ | a
  .exact I3.hok.fresh<|Ir A
  .exact I3.freeC x c<|hcl a
 have nofs:∀{b:QN},b≠X.env.locals->b ∉ X.fs->b ∉ frs X.stack:=λ{b} h1 h2 z=>(oZ.1<|I3.stkSub b z).elim h1 h2
 have IY:Inv (cxC X N scope (P8 scope cl (~~~s3)) (~~~s3) fp π s3 H3) [] (iG k cap σ) H3 { s3 with heap:=G }:=by
  refine#v[#v[I3.ok.mod,hcap.kind,I3.ok.glob,I3.ok.blt,qD _,a6,a7,a9,I3.ok.hd,I3.ok.frames,.inl rfl,
   λb f=>#v[ba b f,λx c e=>cne b f e],I3.bs,uj I3.ok.bsz I3.sz,λb o e f=>?_,λb f=>nofs (f3 b f).2.1 (f3 b f).2.2.1,I3.stack,I3.stkFree],
   rfl,I3.bare,Un.kept w,#v[_,M,λi x v e1 Q e3=>?_],λx c e=>?_,I3.hok.fresh<|qD _,λx c e=>al e,λp U=>?_,I3.hok.kept w,?_]
  .rcases(f3 b f).2.2.2.1 with z | z
   .exact I3.ok.noex b o e z
   .exact absurd (uz (pz e)<|uj I3.ok.bsz z)<|Bl _
  .by_cases hi:i<k
   .unfold iG at Q;rw[EL (by simpa using hi),Ly,nY hi]at Q;cases Q
   .obtain⟨d,rfl⟩:∃d,i=k+d:=#v[i-k,by lia];unfold iG at Q;rw[FL (by simp),CZ,Nat.add_sub_cancel_left,sq]at Q;let(j,hj,hv):=sA.1 Q;have bt:σ[j]? = some (some v):=by
     cases q:σ[j]? with
     | none=>rw[q]at hv;cases hv
     | some o=>rw[q]at hv;exact AZ some hv
    have bi:(N.drop k)[d]? = some x:=by rwa[List.getElem?_drop]
    have ad:=hcap.capf x<|uP bi;have be:=yI ad;have ac:=hcap.free _ be rfl;rw[<-hosc]at ac;let(m,hn,hl):=I3.loc;let(u,r,l):=hl j x v (by have z:=AZ (λl=>l[d]?) hcap.capx;simp only[sq,hj,bi]at z;exact rn z) bt<|.inr ac;refine#v[u,r,?_];rcases l with ⟨V,_⟩ | ⟨V,c,b3,b0⟩
    .have V:X.env.scope.names.lookup x=some .local:=V;rcases ac with z | z <;> (rw[V]at z;cases z)
    .let(c',K):=hhas x be;have:=rn<|(hcl K).symm.trans b3;subst this;exact .inr #v[(show (relabel scope<|Cx.env X).names.lookup x=some .cell\/(relabel scope<|Cx.env X).names.lookup x=some .free by
      refine cR (λn k=>?_) ad;by_cases hc:(k == Ro.free&&(Cx.env X).scope.kind == .function&&(Cx.env X).kindOf n == some .cell)=true
      .refine .inr #v[?_,nY hc];simp only[Jz]at hc;simpa using hc.1.1
      .exact .inl<|oj hc),c',(a8 ad).trans K,b0.keeps w]
  .rcases t e with ⟨_,_,a3,_⟩ | a
   .exact#v[_,a3]
   .let(v,z):=I3.cell x c<|hcl a;exact#v[v,z.keeps w]
  .have U:=U;rw[Am]at U;let(L,a2,a3,A,a5):=I3.pin p U;exact#v[w _ _ L,a2,uu<|pz L,nofs a3 A,a5]
  .show(iG k cap σ).length=N.length;unfold iG;rw[xy,CZ,jI,hcap.len]
 have B:∀{H':Hp},(∀b∈fp,H' b=none)->∀b∈fp,bX (cxC X N scope (P8 scope cl (~~~s3)) (~~~s3) fp π s3 H3) [] H' b:=λ{H'} hn b f=>by let(a0,L,a2,a3,A,a5):=f3 b f;refine#v[hn b f,ba b f,nofs L a2,.inl f,λx c e=>cne b f e,λp U=>a5 p ?_];rwa [Am]at U
 have S:codeAny (model X.prog X.w) X.A (.compLoop (.ListComp elt (#v[tg,iter,ifs,0]::rest) scope pos) 0 (.ref it) (.ref D)<|compEnvC scope (P8 scope cl (~~~s3)) (~~~s3) X.env)
   (P (~~~s3)) { s3 with heap:=G }:=by
  refine LM (λn s'=>∃i O' H',Inv (cxC X N scope (P8 scope cl (~~~s3)) (~~~s3) fp π s3 H3) [] O' H' s'/\tn i s'.heap/\(∀b∈fp,H' b=none)/\W i n O' H') (hturn _) ?_ m0
   #v[0,_,H3,IY,T.keep _ _ _ st λb _ o e=>w b o e,λb f=>(f3 b f).1,w0]
  rintro n s5 ⟨i,σ5,H5,I5,ap,bg,w5⟩;rcases turn i n σ5 H5 w5 with ⟨an,q⟩ | ⟨go,C,step,bv,bd⟩
  .refine thn (T.done (cxC X N scope (P8 scope cl (~~~s3)) (~~~s3) fp π s3 H3) rfl rfl rfl hc i [] s5 σ5 H5 _ I5 (B bg) ap an) λr s6 #v[hr,I6]=>?_
   subst hr;exact hend s6 σ5 H5 I6 (I3.call' I6.os I6.base I6.hok I6.bare λb f=>by let(a0,L,a2,a3,A,a5):=f3 b f;exact#v[a3,L,A,a5]) q
  .refine thn (T.item (cxC X N scope (P8 scope cl (~~~s3)) (~~~s3) fp π s3 H3) rfl rfl rfl hc i [] s5 σ5 H5 _ I5 (B bg) ap go) λr s6 #v[u,hr,h6]=>?_
   subst hr;refine thn h6 λ_ s7 #v[x,H7,I7,r7,y7,Z,b5]=>?_
   have F:∀{s':QO} {O':St} {H':Hp},Inv (cxC X N scope (P8 scope cl (~~~s3)) (~~~s3) fp π s3 H3) ([]++jm fp s7.heap) O' H' s'->tn (i+1) s'.heap/\∀b∈fp,H' b=none:=λ{s' O' H'} I'=>by refine#v[T.keep _ _ _ Z λb f o e=>(I'.pin (b,o)<|uO _<|uO _<|aJ f e).1,λb f=>?_];let(o,e,d):=T.obj _ _ Z b f;exact(I'.pin (b,o)<|uO _<|uO _<|aJ f e).2.1
   refine thn (hg _ _ _ _ _ _ _ s7 σ5 H7 x u _ (I7.pinned (B b5)<|T.obj _ _ Z) r7<|step x H7 y7) λ_ s8 #v[Y,H8,I8,q8]=>thn (ht _ _ _ _ _ _ _ s8 Y H8 _ I8 q8) λok s9 #v[H9,I9,q9]=>?_
   cases ok with
   | false =>let(m',O,w9):=bv _ _ q9;let(k1,k2):=F I9;exact#v[m',O,i+1,Y,H9,I9.unpinned,k1,k2,w9]
   | true =>
    intro kk R E V;refine bd _ s9 Y H9 I9 q9 kk R E λbr am b7 bn #v[m',O,bp]=>V br ?_
    let(k1,k2):=F bn;exact#v[m',O,i+1,am,b7,bn.unpinned,k1,k2,bp]
 exact codeAny_compStart_list S (T.self X.A 0 _ _ _ (T.keep _ _ _ st λb _ o e=>w b o e) S)
def BL 
   {σ:St}        {W:Nat->Nat->St->List V->Hp->Prop} 
  (hc:X.calm=true) (hosc:X.env.scope=osc) (hcap:Caps X.N osc N k cap scope)
  (hcl:∀{x} {c},cl.lookup x=some c->X.env.cells.lookup x=some c) (hhas:∀x,(x,Ro.free)∈scope.names->∃c,cl.lookup x=some c)
  (hg:∀cl C ex π s H,PG (cxC X N scope cl C ex π s H) tg g)
  (ht:∀cl C ex π s H,PTs (cxC X N scope cl C ex π s H) ifs tt)
  (he:∀cl C ex π s H,PE (cxC X N scope cl C ex π s H) elt te)
  (I3:Inv X π σ H3 s3) (hD:H3 D=some (.lst [])) (T:Turn X.prog X.w X.K tg J fp it tn) (st:tn 0 s3.heap) (f3:∀b∈fp,bX X π H3 b) (w0:W 0 m0 (iG k cap σ) [] H3)
  (turn:∀i m O' acc H',W i m O' acc H'->(J.stop i H'/\Q (.ref D) H') \/
   (J.go i H'/\∀x H2,J.yld i H' x H2->g x O' H2 λσ2 H3=>tt σ2 H3 λok H4=>if ok=true then te σ2 H4 λy H5=>H5 D=some (.lst acc)/\acc.length<QX/\∃m',m'<m/\W (i+1) m' σ2 (acc++[y]) (upd H5 D<|.lst<|acc++[y])
    else H4 D=some (.lst acc)/\∃m',m'<m/\W (i+1) m' σ2 acc H4)) :
  Re (model X.prog X.w) X.A (newFunctionEnv scope X.env.globals cl [] X.env.qual none .none<|some X.env) (λcenv s₄ =>
   codeAny (model X.prog X.w) X.A (.compStart (.ListComp elt [#v[tg,iter,ifs,0]] scope pos) 0 (.ref it) (.ref D) { cenv with scope:=relabel scope X.env }) (compPost (model X.prog X.w) X.A X.xe none (EP X π σ Q) (.ref D) cenv.locals) s₄) X.xe s3:=by
 refine vZ (act:=λd k=>do HJ elt (.ref D) d;k) (Qs:=Q<|.ref D) (W:=λi m O' H'=>∃acc,H' D=some (.lst acc)/\W i m O' acc H') (λd=>by rfl) hc hosc hcap hcl hhas hg ht I3 T st f3 #v[[],hD,w0] (λO K H5 G I7 q=>?_) λi m O' H' #v[acc,ab,w]=>?_
 .let(m,U,_):=id G.loc;refine#v[m,U,λj u=>?_];let(g0,g1,g2,g3,g4,g5):=I3.fpOk (qD _) G.free;exact#v[.ref D,H5,I7.turned (λb o Z e=>(u.2 b Z).trans e) g0 g1 g3 g4 g5,rfl,q]
 .rcases turn i m O' acc H' w with h | ⟨go,step⟩
  .exact .inl h
  .refine .inr #v[go,_,step,λσ2 H4 h=>?_,λt s σ2 H4 I h k R E Y=>?_]
   .let(z,m',v,M):=(h);exact#v[m',v,acc,z,M]
   .refine iD (iD<|Dp (he _ _ _ _ _ _ _ s σ2 H4 _ I h) (?_ ) λ_ _ j=>j.elim);rintro L p ⟨y,f,F,r,a,S,m',v,l⟩;refine iD (Dp (cE (X:=cxC X N scope (P8 scope cl (~~~s3)) (~~~s3) fp π s3 H3) _ p σ2 f (.ref D) [y] (.ref D) [L] (λ_ H'=>H'=upd f D (.lst<|acc++[y])) F rfl (.cons r .nil) #v[D,acc,y,rfl,rfl,a,S,rfl])
     (λ_ n #v[_,ac,B,_,A]=>iO ?_) λ_ _ j=>j.elim)
    subst A;exact Y n σ2 _ B #v[m',v,_,i3,l]
def GU 
  (hc:X.calm=true) (hosc:X.env.scope=osc) (hcap:Caps X.N osc N k cap scope) (hi:PI X tg iter wi)
  (hg:∀cl C ex π s H,PG (cxC X N scope cl C ex π s H) tg g)
  (ht:∀cl C ex π s H,PTs (cxC X N scope cl C ex π s H) ifs tt)
  (he:∀cl C ex π s H,PE (cxC X N scope cl C ex π s H) elt te)
  (hs:autoParam (∀x,Rj iter X.env x=pure x) qAk) :
  PE X (.ListComp elt [#v[tg,iter,ifs,0]] scope pos) (tLC wi k cap g tt te):=by
 intro π s w H Q I h;have i:∀y∈scope.names,y.2 = .free->∃c,X.env.cells.lookup y.1=some c:=λy m n=>I.ok.has y.1 (by show X.env.scope.names.lookup y.1=_\/X.env.scope.names.lookup y.1=_;rw[hosc];exact hcap.free y m n)
 let f:=λx=>(X.env.cells.lookup x).getD 0
 have z:∀y∈scope.names,y.2 = .free->X.env.cells.lookup y.1=some (f y.1):=λy m n=>by let(c,e):=i y m n;show _=some ((X.env.cells.lookup y.1).getD 0);rw[e];rfl
 have a:=J9 λy m n=>by unfold cellOf;rw[z y m n]
 have p:∀{x} {c},(G0 f scope.names []).lookup x=some c->X.env.cells.lookup x=some c:=λ{x c} e=>by
  rcases N6 _ _ e with ⟨r,u⟩ | r
  .rw[u];exact z (x,.free) r rfl
  .simp at r
 have d:∀x,(x,Ro.free)∈scope.names->∃c,(G0 f scope.names []).lookup x=some c:=λx G=>#v[_,aq _ _<|.inl G]
 generalize G0 f scope.names []=cl at a p d;rw[eval_ListComp];refine wpAny_comprehension_free rfl hs a hcap.kind hcap.loc<|thn (hi π s w H _ I h) λv s1 r=>thn r λF s2 u=>?_
 let(R,K,O,J,M,e,B,T,l,A,E):=u;subst e;obtain⟨W,⟨P,D⟩,j⟩:=E (~~~s2)<|B.hok.fresh<|qD _;refine xI ?_;have t:∀b∈K,b≠(~~~s2):=λb q=>by let(o,e,_):=T.obj _ _ l b q;exact uu<|pz e
 exact BL hc hosc hcap p d hg ht he (B.lnew .nil<|CW _) i3 T (T.keep _ _ (s2.heap.push { cls:=.type "list",data:=.seq ([]:List My).toArray }) l λb _ o e=>jM _ e) (λb q=>#v[by rw[h7<|t b q];exact(A b q).1,(A b q).2]) D j
end
section
mutual
def c6 (K:Qf)(H:Hp):CD->V->Prop
 | .none,v=>v = .non
 | .bool b,v=>v = .bl b
 | .int i,v=>v = .int i
 | .str x,v=>v = .str x
 | .tuple ds,v=>∃a c,v = .ref a/\SqT K H a c/\b9 K H ds c
 | .list ds,v=>∃a c,v = .ref a/\H a=some (.lst c)/\b9 K H ds c
 | .dict _,_=>False
def b9 (K:Qf)(H:Hp):List CD->List V->Prop
 | [],xs=>xs=[]
 | d::ds,xs=>∃x r,xs=x::r/\c6 K H d x/\b9 K H ds r
end
section
variable {X:Cx}{π:List (QN×QZ)}{σ:St}{H:Hp}{s:QO}
mutual
theorem E3 (I:Inv X π σ H s):∀(d:CD) (v:V) (u:My),c6 X.K H d v->l4 v u->∃as,Reads s.heap u d as
 | .none,v,u,h,r=>by
  simp only[c6]at h;subst h;cases(show u=My.none from r);exact#v[_,.none]
 | .bool b,v,u,h,r=>by
  simp only[c6]at h;subst h;cases(show u=My.bool b from r);exact#v[_,.bool b]
 | .int i,v,u,h,r=>by
  simp only[c6]at h;subst h;let(t,rfl):=(show ∃t,u=My.int i t from r);exact#v[_,.int i t]
 | .str x,v,u,h,r=>by
  simp only[c6]at h;subst h;let(t,rfl):=(show ∃t,u=My.str x t from r);exact#v[_,.str x t]
 | .tuple ds,v,u,h,r=>by
  simp only[c6]at h;let(a,e,rfl,k,l):=h;cases(show u=My.ref a from r);let(c,f,j,_):=I.tuple k;let(o,q,p,n,m):=j;let(as,g):=bj I ds e c l f;exact#v[_,.tuple q p m g]
 | .list ds,v,u,h,r=>by
  simp only[c6]at h;let(a,e,rfl,k,l):=h;cases(show u=My.ref a from r);let(c,f,j,_):=I.list<|SqL.of k;let(o,q,p,n,m):=j.isList;let(as,g):=bj I ds e c l f;exact#v[_,.list q p m g]
 | .dict d3,v,u,h,r=>by simp only[c6]at h
theorem bj (I:Inv X π σ H s):∀(ds:List CD) (xs:List V) (us:List My),b9 X.K H ds xs->k8 xs us->∃as,ReadsAll s.heap us ds as
 | [],xs,us,h,r=>by
  simp only[b9]at h;subst h;cases r;exact#v[_,.nil]
 | d::ds,xs,us,h,r=>by
  simp only[b9]at h;let(x,a,rfl,i,g):=h;cases r with
  | cons f e =>let(as,c):=E3 I d x _ i f;let(bs,b):=bj I ds a _ g e;exact#v[_,.cons c b]
end
end
structure Shw (d:CD) dp n:Prop where
 sh:d.showable=true
 nd:d.hasDict=false
 de:d.depth<=dp
 ln:d.shown.length<=n
def Shw.int {k} (h:i.natAbs<2 ^ k)(hk:0<k)(hk2:k<=1900):Shw (.int i) 0 (k+20):=by
 have a:i.natAbs.log2<1920:=by
  by_cases b:i.natAbs=0
  .rw[b];decide
  .have:=(Qh b).2 h;lia
 refine#v[by simp only[CD.showable,a,Ot],by simp only[CD.hasDict],by simp only[CD.depth];lia,?_];have c:i.natAbs.log2<k:=by
  by_cases b:i.natAbs=0
  . rwa[b]
  .exact(Qh b).2 h
 have e:=int_text_length_le hk c;simp only[CD.shown];rw[PySem.ofString_length];lia
section
def HA (K:Qf):List V->Hp->VK->Prop:=λb H Q=>∃a d,b=[.ref a]/\c6 K H d (.ref a)/\Shw d 50 16000000/\Q (.str d.shown) H
end
end
end L2
namespace HT
open PySem PyProof.Rows
section

def getItem_tuple_whole {lo}(ht:IsTup s.heap t items)(hs:s.heap.IsSliceOf sl vl vu .none)(pl:IsPart vl lo)(pu:IsPart vu hi)
  (h0:sIx items.size 0 lo=0) (h1:sIx items.size items.size hi=items.size) (h:Q (.ref t) s):Re (model prog w) A (getItem (.ref t)<|.ref sl) Q E s:=by
 let(e,b,c,f):=id hs;unfold getItem;try with_reducible refine Ak ?_
 first | refine iD (iO ?_) | skip
 refine iD (wpAny_sequenceKey ht.typeIs (by decide) ?_);refine iD (xW ht.typeIs Be
  (xw Be ht.typeIs entry_tuple_getitem ?_<|args_tuple_getitem _ _))
 show Re _ _ (Builtin.Tuple.tupleItemsOf (.ref t) >>= _) _ _ s;refine iD<|tupleItemsOf_ ht<|iD<|Nq (#v[e,b,c]) ?_;rw[nY<|by decide];refine iD<|af hs pl pu ?_;show Re _ _ (if (((sIx items.size 0 lo):Int) == 0&&(1) == 1&&(sIx items.size items.size hi-sIx items.size 0 lo) == items.size)=true then _ else _) _ _ s;rw[nY (by rw[h0,h1];simp) ];refine iD<|iD<|Nq ht.typeIs<|iO ?_;rw[nY<|by decide];exact iD<|JV<|iO #v[_,rfl,iO h]
def sU (n:Nat):Builtin.Slice.slicePlaces ((n:Int)-1) (-1) (-1)=n:=by
 unfold Builtin.Slice.slicePlaces;rw[oj<|by decide];split
 .rw[show(-(-1))=1 by decide,Int.ediv_one];lia
 .omega
def gJ {n:Nat}(hs:s.heap.IsSliceOf sl .none .none vst)(pst:IsPart vst (some (-1)))
  (h:Q ((n:Int)-1,-1,n) s):Re (model prog w) A (Builtin.Slice.sliceApplied (.ref sl)<|pure (n:Int)) Q E s:=by
 let(d,a,c,b):=id hs;refine iD<|iD<|zF a b rfl<|iD<|zF a b rfl<|iD<|zF a b rfl<|iO<|iD<|dF pst ?_;rw[oj<|by decide];refine iD<|slicePart_none<|iD<|slicePart_none<|iD<|iO ?_;show Re _ _ (match Builtin.Slice.sliceAdjust none none (-1) n with | (lo,hi)=>pure (lo,(-1),Builtin.Slice.slicePlaces lo hi (-1))) _ _ s;rw[(show Builtin.Slice.sliceAdjust none none (-1) n=((n:Int)-1,-1) by unfold Builtin.Slice.sliceAdjust;simp)]
 show Re _ _ (pure ((n:Int)-1,(-1),Builtin.Slice.slicePlaces (n-1) (-1) (-1))) _ _ s;rw[sU];exact iO h
theorem ax {α β:Type}{f g:α->Option β}:∀{l:List α},(∀x∈l,f x=g x)->l.filterMap f=l.filterMap g
 | [],_=>rfl
 | x::r,h=>by rw[Mw,Mw,h x ll,ax λy a=>h y<|kN _ a]
def Dj (xs:Array My):((List.range xs.size).filterMap λ(m:Nat)=>xs[(((xs.size:Int)-1)+(m:Int)*(-1)).toNat]?).toArray=xs.toList.reverse.toArray:=by
 congr 1;have e:((List.range xs.size).filterMap λ(m:Nat)=>xs[(((xs.size:Int)-1)+m*(-1)).toNat]?)=(List.range xs.size).filterMap λm=>xs.toList.reverse[m]?:=by
  refine ax λm a=>?_
  rw[List.getElem?_reverse<|by simpa using (Iw.1 a) ];have:(((xs.size:Int)-1)+m*(-1)).toNat=xs.toList.length-1-m:=by rw[zq];lia
  rw[this];simp
 rw[e];have:=PySem.W.krv_all xs.toList.reverse.toArray;simpa using this
def getItem_tuple_rev (ht:IsTup s.heap t items)(hs:s.heap.IsSliceOf sl .none .none vst)(pst:IsPart vst (some (-1)))
  (h:Q (.ref (~~~s)) { s with heap:=s.heap.push { cls:=.type "tuple",data:=.seq items.toList.reverse.toArray } })
  (hsz:items.size<=QX):Re (model prog w) A (getItem (.ref t)<|.ref sl) Q E s:=by
 have a:sizeOk (.seq items.toList.reverse.toArray):=by show items.toList.reverse.toArray.size<=QX;rwa[tG,PZ,zq]
 let(f,b,d,g):=id hs;unfold getItem;try with_reducible refine Ak ?_
 first | refine iD (iO ?_) | skip
 refine iD (wpAny_sequenceKey ht.typeIs (by decide) ?_);refine iD (xW ht.typeIs Be
  (xw Be ht.typeIs entry_tuple_getitem ?_<|args_tuple_getitem _ _))
 show Re _ _ (Builtin.Tuple.tupleItemsOf (.ref t) >>= _) _ _ s;refine iD<|tupleItemsOf_ ht<|iD<|Nq (#v[f,b,d]) ?_;rw[nY<|by decide];refine iD<|gJ hs pst ?_;show Re _ _ (if ((items.size:Int)-1 == 0&&(-1) == 1&&items.size == items.size)=true then _ else _) _ _ s;rw[oj (by simp),Dj];first
  | exact iD<|xI (iO #v[_,rfl,iO h]) a
  | exact iD<|xI (iD<|iO<|iO #v[_,rfl,iO h]) a
  | exact iD<|iD<|xI (iO<|iO #v[_,rfl,iO h]) a
  | exact iD<|iD<|xI (iO #v[_,rfl,iO h]) a
end
end HT
namespace L2
open PySem PySem.Spec PyProof.Rows
section
section

def GC (K:Qf):V->Option Int->Option Int->Hp->VK->Prop:=λx c d H Q=>∃a b,x = .ref a/\SqT K H a b/\((gQ b c d=b/\HT.sIx b.length 0 c=0/\HT.sIx b.length b.length d=b.length->Q (.ref a) H) /\
 (¬(HT.sIx b.length 0 c=0/\HT.sIx b.length b.length d=b.length)->∀p,H p=none->Q (.ref p) (upd H p<|.tup<|gQ b c d)))
def FR :SlR X (GC X.K):=by
 rintro e s p H x v t q k o u Q I g n j i ⟨a,d,rfl,l,w,z⟩;by_cases c:HT.sIx d.length 0 k=0/\HT.sIx d.length d.length o=d.length
 .cases g;let(f,r,m,A):=I.tuple l;have b:f.toArray.size=d.length:=by rw[tG];exact r.length.symm
  exact#v["tuple",_,Be.lookup,m.typeIs,HT.getItem_tuple_whole m n j i (by rw[b];exact c.1) (by rw[b];exact c.2) #v[.ref a,H,I,rfl,w #v[by unfold gQ;rw[c.1,c.2];simp,c.1,c.2] ]]
 .exact HN e s p H (.ref a) v t q k o u Q I g n j i #v[a,d,rfl,l,c,z c]
def AM (hc:X.calm=true):w8 X (.builtin "sum") (λxs H Q=>∃(a:QN) (ns:List Int),xs=[.ref a]/\SqL X.K H a (ns.map V.int)/\Q (.int ns.sum) H):=by
 rintro d s o H xs us Q I r ⟨a,ns,rfl,l,q⟩;let(u,rfl,j):=C5 r;cases j;let(k,i,p,v):=I.list l;have f:=P5 i;let(c,b):=f.allInts.items;refine sum_intListG (I.ok.hd hc) (b▸p.isList) λw t g n=>#v[.int ns.sum,H,I.kept n,#v[g,?_],q]
 have e:numsOf (intItems c).toList=ns:=by rw[<-b];exact f.numsOf
 rw[nums_intItems]at e;rw[preSum_eq,Ff (by simp),e]
def Ik (K:Qf):R2:=λx y H Q=>∃a b c,x = .ref a/\y = .ref b/\SqL K H a c/\SqL K H b []/\Q (.bl (!c.isEmpty)) H
def Do (hu:X.A.units<Rl):OpR X (compareOp .NotEq) (Ik X.K):=by
 rintro d s w H x y v u Q I k i ⟨a,b,z,rfl,rfl,r,o,q⟩;cases k;cases i;let(m,l,p,C):=I.list r;let(g,c,f,n):=I.list o;cases c;cases l with
 | nil=>exact(SeqAt.RcNeAt.lists (e:=λ_=>true) p.isList f.isList rfl hu λj t _=>absurd t<|by simp) _ _ _ _ #v[.bl false,H,I,rfl,q]
 | cons B A=>exact(SeqAt.RcNeAt.lists_lengths p.isList f.isList (by simp) hu) _ _ _ _ #v[.bl true,H,I,rfl,q]
end
end
variable {H':Hp}
section
def m7 (P:QP)(w:QQ)(K:Qf)(mg:Str->Option My)(base:QW)(x:Str)(k:Nat)(ps:List Str)(sp:Sp):Prop :=
 ∃f a,FnOk P w K mg base CX0 k f a ps sp/\mg x=some (.ref f)/\PySem.W.keepIn K (.ref f)=true/\aW K a ps []
def cK (C:m7 X.prog X.w X.K X.mg X.base x k ps sp)(hr:Room k X.A)(hg:Gl X x)(ha:PA X (e::es) t)
  (hdb:autoParam (nDb x) gC) (he:‹QY (e::es) X.env=(false,eval e X.env)::QY es X.env›) (hpl:‹(Rb pos<|QY es X.env).any (·.1)=false›) :
  PE X (.Call (.Name x p) (e::es) [] pos) (eY sp [] E0 t):=by
 let(f,v,G,m,kp,b):=C;refine λa s g H Q I h=>Np<|nK I hg m (PySem.W.callWith_K I.ok.mod.kin kp (thn (ha pos a s g H _ I h) λus s1 #v[i,l,d,r,q]=>#v[d.kIn,?_]) he hpl) hdb;have j:k8 (i++([])) (([] ++ us)++([])):=r.append .nil;refine wpAny_call (OD (G.run X.A X.stack s1 l #v[([] ++ us),[]] (([] ++ us)++([])) (i++([])) Q E0 hr d.env0 (b s1 ([] ++ us) d.kIn (by rw[<-j.length];exact G.len _ _ _ _ q) ) j q) λr n c=>?_);cases r with
 | error e=>exact KG a g l s1 e n d c
 | ok o =>
  cases o with
  | ret u=>exact d.after c
  | next=>exact False.elim c
  | brk=>exact False.elim c
  | cont=>exact False.elim c
def KpE (D:QN->Prop)(H H':Hp):Prop:=∀b o,H b=some o->¬D b->H' b=some o
def SqT.kp {K}(h:SqT K H a xs)(k:KpE D H H')(hD:∀b,D b->∃d3,H b=some (.dK d3)):SqT K H' a xs:=by
 rcases h with (h | ⟨o,h⟩) | h
 .refine .inl (.inl<|k _ _ h λz=>?_);let(d3,e):=hD _ z;rw[h]at e;cases e
 .refine .inl (.inr #v[o,k _ _ h λz=>?_]);let(d3,e):=hD _ z;rw[h]at e;cases e
 .exact .inr h
section
variable {K:Qf}{H:Hp}{D:QN->Prop}
mutual
theorem c6.kp (k:KpE D H H')(hD:∀b,D b->∃d3,H b=some (.dK d3)):∀(d:CD) (v:V),c6 K H d v->c6 K H' d v
 | .none,v,h=>by simpa only[c6] using h
 | .bool b,v,h=>by simpa only[c6] using h
 | .int i,v,h=>by simpa only[c6] using h
 | .str x,v,h=>by simpa only[c6] using h
 | .tuple ds,v,h=>by
  simp only[c6]at h ⊢;let(a,c,e,f,g):=h;exact#v[a,c,e,f.kp k hD,b9.kp k hD ds c g]
 | .list ds,v,h=>by
  simp only[c6]at h ⊢;let(a,c,e,f,g):=h;refine#v[a,c,e,k _ _ f λz=>?_,b9.kp k hD ds c g];let(d3,e):=hD _ z;rw[f]at e;cases e
 | .dict d3,v,h=>by simp only[c6]at h
theorem b9.kp (k:KpE D H H')(hD:∀b,D b->∃d3,H b=some (.dK d3)):∀(ds:List CD) (xs:List V),b9 K H ds xs->b9 K H' ds xs
 | [],xs,h=>by simpa only[b9] using h
 | d::ds,xs,h=>by simp only[b9]at h ⊢;let(x,r,e,c,a):=h;exact#v[x,r,e,c6.kp k hD d x c,b9.kp k hD ds r a]
end
end
def i5.kpE (s:i5 H H'):KpE (λ_=>False) H H':=λb o h _=>s b o h
def c6.same {K}(h:c6 K H d v)(s:i5 H H'):c6 K H' d v:=c6.kp s.kpE (λ_ z=>z.elim) d v h
def b9.same {K}(h:b9 K H ds xs)(s:i5 H H'):b9 K H' ds xs:=b9.kp s.kpE (λ_ z=>z.elim) ds xs h
def SqT.same {K}(h:SqT K H a xs)(s:i5 H H'):SqT K H' a xs:=h.kp s.kpE (λ_ z=>z.elim)
def i5.upd (hp:H p=none):i5 H (upd H p o):=λb u e=>by rwa[h7<|k9 e hp]
section
variable {K:Qf}
theorem b9.length:∀{ds} {xs},b9 K H ds xs->xs.length=ds.length
 | [],xs,h=>by simp only[b9]at h;subst h;rfl
 | d::ds,xs,h=>by simp only[b9]at h;let(x,r,rfl,b,a):=h;rw[qN,qN,a.length]
theorem b9.get:∀{ds} {xs} {i:Nat} {x},b9 K H ds xs->xs[i]? = some x->∃d,ds[i]? = some d/\c6 K H d x
 | [],xs,i,x,h,e=>by simp only[b9]at h;subst h;simp at e
 | d::ds,xs,i,x,h,e=>by
  simp only[b9]at h;let(y,r,rfl,b,a):=h;cases i with
  | zero=>simp at e;subst e;exact#v[d,rfl,b]
  | succ i=>simpa using a.get (by simpa using e)
theorem b9.snoc:∀{ds} {xs} {d} {x},b9 K H ds xs->c6 K H d x->b9 K H (ds++[d]) (xs++[x])
 | [],xs,d,x,h,h'=>by simp only[b9]at h;subst h;simp only[zY];exact#v[x,[],rfl,h',rfl]
 | e::ds,xs,d,x,h,h'=>by simp only[b9]at h;let(y,r,rfl,b,a):=h;simp only[yS];exact#v[y,r++[x],rfl,b,a.snoc h']
theorem b9.append (h':b9 K H ds' xs'):∀{ds} {xs},b9 K H ds xs->b9 K H (ds++ds') (xs++xs')
 | [],xs,h=>by simp only[b9]at h;subst h;simpa using h'
 | e::ds,xs,h=>by simp only[b9]at h;let(y,r,rfl,b,a):=h;simp only[yS];exact#v[y,r++xs',rfl,b,b9.append h' a]
theorem b9.reverse:∀{ds} {xs},b9 K H ds xs->b9 K H ds.reverse xs.reverse
 | [],xs,h=>by simp only[b9]at h;subst h;simp[b9]
 | d::ds,xs,h=>by simp only[b9]at h;let(y,r,rfl,b,a):=h;rw[ND,ND];exact(b9.reverse a).snoc b
theorem b9.take:∀{ds} {xs} n,b9 K H ds xs->b9 K H (ds.take n) (xs.take n)
 | [],xs,n,h=>by simp only[b9]at h;subst h;simp[b9]
 | d::ds,xs,0,h=>by simp[b9]
 | d::ds,xs,n+1,h=>by simp only[b9]at h;let(y,r,rfl,b,a):=h;simp only[List.take_succ_cons];exact#v[y,r.take n,rfl,b,b9.take n a]
def c6.tup (h:H a=some (.tup xs))(h2:b9 K H ds xs):c6 K H (.tuple ds) (.ref a):=by simp only[c6];exact#v[a,xs,rfl,SqT.of h,h2]
def c6.lst (h:H a=some (.lst xs))(h2:b9 K H ds xs):c6 K H (.list ds) (.ref a):=by simp only[c6];exact#v[a,xs,rfl,h,h2]
def b9.nil :b9 K H [] []:=by simp only[b9]
def b9.cons (h:c6 K H d x)(h2:b9 K H ds xs):b9 K H (d::ds) (x::xs):=by simp only[b9];exact#v[x,xs,rfl,h,h2]
def c6.int :c6 K H (.int i) (.int i):=by simp only[c6]
def c6.bl :c6 K H (.bool b) (.bl b):=by simp only[c6]
def c6.st :c6 K H (.str x) (.str x):=by simp only[c6]
def c6.non :c6 K H .none .non:=by simp only[c6]
def c6.ofTup (h:c6 K H (.tuple ds) v):∃a xs,v = .ref a/\SqT K H a xs/\b9 K H ds xs:=by simpa only[c6] using h
end
def JU {J:It}(n){g:TG}{tt:TT}{te:TE}{Q:Hp->Prop}(Pv:Nat->St->List V->Hp->Prop)(h0:Pv 0 σ0 [] H0)
  (hgo:∀i σ acc H,i<n->Pv i σ acc H->J.go i H) (hstop:∀σ acc H,Pv n σ acc H->J.stop n H)
  (hs:∀i σ acc H,i<n->Pv i σ acc H->∀x H2,J.yld i H x H2->∀R:St->List V->Hp->Prop,(∀σ acc H,Pv (i+1) σ acc H->R σ acc H) ->
   g x σ H2 λσ2 H3=>tt σ2 H3 λok H4=>if ok=true then te σ2 H4 λy H5=>H5 D=some (.lst acc)/\acc.length<QX/\R σ2 (acc++[y]) (upd H5 D<|.lst<|acc++[y]) else H4 D=some (.lst acc)/\R σ2 acc H4)
  (hd:∀σ acc H,Pv n σ acc H->Q H) :
  ∃W:Nat->Nat->St->List V->Hp->Prop,(∃m,W 0 m σ0 [] H0)/\∀i m O' acc H',W i m O' acc H' ->
  (J.stop i H'/\Q H') \/
  (J.go i H'/\∀x H2,J.yld i H' x H2->g x O' H2 λσ2 H3=>tt σ2 H3 λok H4=>if ok=true then te σ2 H4 λy H5=>H5 D=some (.lst acc)/\acc.length<QX/\∃m',m'<m/\W (i+1) m' σ2 (acc++[y]) (upd H5 D<|.lst<|acc++[y])
   else H4 D=some (.lst acc)/\∃m',m'<m/\W (i+1) m' σ2 acc H4):=by
 refine#v[λi m σ acc H=>m=n-i/\i<=n/\Pv i σ acc H,#v[n,by simp,CW _,h0],?_];rintro i m σ acc H ⟨rfl,b,p⟩;by_cases a:i<n
 .exact .inr #v[hgo i σ acc H a p,λx H2 y=>hs i σ acc H a p x H2 y (λσ acc H=>∃m',m'<n-i/\m'=n-(i+1)/\i+1<=n/\Pv (i+1) σ acc H) λσ acc H q=>#v[n-(i+1),by lia,rfl,a,q]]
 .have e:i=n:=by lia
  subst e;exact .inl #v[hstop σ acc H p,hd σ acc H p]
end
section
section
variable {K:Qf}
def Fv (hK:X.K=K):IxR X (HZ K):=by subst hK;exact zp
def AX (hK:X.K=K):IxR X (LQ K):=by subst hK;exact vk
def dk (hK:X.K=K):w8 X (.builtin "len") (λxs H Q=>∃p ys,xs=[.ref p]/\(SqL K H p ys\/SqT K H p ys)/\Q (.int ys.length) H):=by subst hK;exact aQ
def bV (hK:X.K=K):w8 X (.type "tuple") (λxs H Q=>∃p ys,xs=[.ref p]/\((SqL K H p ys/\∀l,H l=none->Q (.ref l) (upd H l<|.tup ys))\/(SqT K H p ys/\Q (.ref p) H))):=by subst hK;exact lh
def jj (hK:X.K=K)(hg:X.A.guards=some [])(hu:X.A.units+64<Rl):w8 X (.builtin "repr") (HA K):=by subst hK;rintro c s k H l us Q I r ⟨a,d,rfl,j,b,q⟩;let(u,rfl,f):=C5 r;cases f;let(as,g):=E3 I d (.ref a) (.ref a) j rfl;refine repr_of_reads' g b.sh (CD.noDict_hsm b.nd) hg (by have:=b.de;lia) (λ_ _ e=>e) (λn u m i=>#v[.str d.shown,H,I.kept i,#v[u,rfl],q]) (uj b.ln (by rw[xD];decide))
def AN (hK:X.K=K):SlR X (GC K):=by subst hK;exact FR
end
end
section
section
variable {K:Qf}
def Lj (K:Qf):R2:=λx y H Q=>∃a b d c,x = .ref a/\y = .ref b/\SqT K H a d/\SqT K H b c/\d.length+c.length<=QX /\
 (d=[]->Q (.ref b) H)/\(c=[]->Q (.ref a) H)/\∀p,H p=none->Q (.ref p) (upd H p<|.tup<|d++c)
def DU (hK:X.K=K):OpR X (binaryOp .Add) (Lj K):=by
 subst hK;rintro c s C H x y v u Q I o m ⟨a,b,l,D,rfl,rfl,z,w,P,L,J,G⟩;by_cases p:l=[]
 .cases o;cases m;let(O,F,N,_):=I.tuple z;let(d,T,M,_):=I.tuple w;subst p;cases F;obtain⟨⟨S,R,A,E⟩,q,t,n,r⟩:=id N;obtain⟨⟨B,j,k,i⟩,e,g,n2,f⟩:=id M;simp only at t r g f;subst t r g f;exact concat_meets #v[_,q,rfl] #v[_,e,rfl] noFill_tuple_add seq_tuple_add Ph OS (OB _ _)
   (tuple_addW0 a b #[] d.toArray n n2 R j E i rfl) #v[q,e,#v[.ref b,H,I,rfl,L rfl]]
 .exact Gc c s C H (.ref a) (.ref b) v u Q I o m #v[a,b,l,D,rfl,rfl,z,w,p,P,J,λ_=>G]
end
end
section
def ya 
   {σ:St}       {Q:St->Hp->Prop} {W:Nat->Nat->St->List V->Hp->Prop} 
  (hNd:X.N.Nodup) (hix:X.N[ix]? = some y) (hLy:Loc X.env.scope y) (hfy:X.fn y=true\/X.env.scope.names.lookup y=some .local)
  (hc:X.calm=true) (hosc:X.env.scope=osc) (hcap:Caps X.N osc N k cap scope)
  (hcl:∀{x} {c},cl.lookup x=some c->X.env.cells.lookup x=some c) (hhas:∀x,(x,Ro.free)∈scope.names->∃c,cl.lookup x=some c)
  (hg:∀cl C ex π s H,PG (cxC X N scope cl C ex π s H) tg g)
  (ht:∀cl C ex π s H,PTs (cxC X N scope cl C ex π s H) ifs tt)
  (he:∀cl C ex π s H,PE (cxC X N scope cl C ex π s H) elt te)
  (I3:Inv X π σ H3 s3) (hD:H3 D=some (.lst [])) (T:Turn X.prog X.w X.K tg J fp it tn) (st:tn 0 s3.heap) (f3:∀b∈fp,bX X π H3 b) (w0:W 0 m0 (iG k cap σ) [] H3)
  (turn:∀i m O' acc H',W i m O' acc H'->(J.stop i H'/\Q (σ.set ix<|some<|.ref D) H') \/
   (J.go i H'/\∀x H2,J.yld i H' x H2->g x O' H2 λσ2 H3=>tt σ2 H3 λok H4=>if ok=true then te σ2 H4 λy H5=>H5 D=some (.lst acc)/\acc.length<QX/\∃m',m'<m/\W (i+1) m' σ2 (acc++[y]) (upd H5 D<|.lst<|acc++[y])
    else H4 D=some (.lst acc)/\∃m',m'<m/\W (i+1) m' σ2 acc H4)) :
  Re (model X.prog X.w) X.A (newFunctionEnv scope X.env.globals cl [] X.env.qual none .none<|some X.env) (λcenv s₄ =>
   codeAny (model X.prog X.w) X.A (.compStart (.ListComp elt [#v[tg,iter,ifs,0]] scope pos) 0 (.ref it) (.ref D) { cenv with scope:=relabel scope X.env }) (compPost (model X.prog X.w) X.A X.xe (some<|assign (.Name y py) X.env) (λ_ s'=>∃O' H',Inv X π O' H' s'/\Q O' H') (.ref D) cenv.locals) s₄) X.xe s3:=by
 refine vZ (act:=λj k=>do HJ elt (.ref D) j;k) (Qs:=λH'=>Q (σ.set ix<|some<|.ref D) H') (W:=λi m O' H'=>∃acc,H' D=some (.lst acc)/\W i m O' acc H') (λj=>by rfl) hc hosc hcap hcl hhas hg ht I3 T st f3 #v[[],hD,w0] (λZ ab H5 I6 I7 q=>?_) λi m O' H' #v[acc,ac,w]=>?_
 .let(m,hn,_):=id I6.loc;let(g0,g1,g2,g3,g4,g5):=I3.fpOk (qD _) I6.free;let(o,es,ep,ho,a,d):=id hn;have O:Inv X (π++[(~~~s3,o)]) σ H5 Z:=I7.pins_of λp hp=>by
   rcases zj.1 hp with z | z
   .exact I7.pin p<|uO _ z
   .rw[xp.1 z];exact#v[ho,g0,g1,g2,λv z=>by have Y:=z;rw[a]at Y;cases Y]
  refine wpAny_assign_Name (ae O hNd hix hLy (v:=.ref D) rfl (λs7 I8=>?_) hfy);refine#v[m,#v[o,es,ep,(I8.pin (~~~s3,o)<|uO _<|uO _<|xp.2 rfl).1,a,d],λn F=>#v[_,H5,I8.unpinned.turned (λb o hb e=>(F.2 b hb).trans e) g0 g1 g3 g4 g5,q] ]
 .rcases turn i m O' acc H' w with h | ⟨go,step⟩
  .exact .inl h
  .refine .inr #v[go,_,step,λσ2 H4 h=>?_,λB s σ2 H4 I h k R E hk=>?_]
   .let(K,m',G,w9):=(h);exact#v[m',G,acc,K,w9]
   .refine iD (iD<|Dp (he _ _ _ _ _ _ _ s σ2 H4 _ I h) (λyv u #v[y,l,U,A,f,hz,m',G,r]=>?_) λ_ _ n=>n.elim);refine iD (Dp (cE (X:=cxC X N scope (P8 scope cl (~~~s3)) (~~~s3) fp π s3 H3) _ u σ2 l (.ref D) [y] (.ref D) [yv] (λ_ H'=>H'=upd l D (.lst<|acc++[y])) U rfl (.cons A .nil) #v[D,acc,y,rfl,rfl,f,hz,rfl])
     (λ_ t #v[_,ad,S,_,M]=>iO ?_) λ_ _ n=>n.elim)
    subst M;exact hk t σ2 _ S #v[m',G,_,i3,r]
def rp 
  (hNd:X.N.Nodup) (hix:X.N[ix]? = some y) (hLy:Loc X.env.scope y)
  (hc:X.calm=true) (hosc:X.env.scope=osc) (hcap:Caps X.N osc N k cap scope) (hi:PI X tg iter wi)
  (hg:∀cl C ex π s H,PG (cxC X N scope cl C ex π s H) tg g)
  (ht:∀cl C ex π s H,PTs (cxC X N scope cl C ex π s H) ifs tt)
  (he:∀cl C ex π s H,PE (cxC X N scope cl C ex π s H) elt te)
  (hs:autoParam (∀x,Rj iter X.env x=pure x) qAk) (hfy:autoParam (X.fn y=true\/X.env.scope.names.lookup y=some .local) gV)
  (hsw:‹Rg (.ListComp elt [#v[tg,iter,ifs,0]] scope pos) (some<|.Name y py) spos.line X.env=pure true›) :
  PS X (.Assign [.Name y py] (.ListComp elt [#v[tg,iter,ifs,0]] scope pos) spos) (cf (tLC wi k cap g tt te)<|Q9 ix):=by
 intro π s z H U I h;have i:∀y∈scope.names,y.2 = .free->∃c,X.env.cells.lookup y.1=some c:=λy n p=>I.ok.has y.1 (by show X.env.scope.names.lookup y.1=_\/X.env.scope.names.lookup y.1=_;rw[hosc];exact hcap.free y n p)
 let f:=λx=>(X.env.cells.lookup x).getD 0
 have B:∀y∈scope.names,y.2 = .free->X.env.cells.lookup y.1=some (f y.1):=λy n p=>by let(c,e):=i y n p;show _=some ((X.env.cells.lookup y.1).getD 0);rw[e];rfl
 have a:=J9 λy n p=>by unfold cellOf;rw[B y n p]
 have q:∀{x:Str} {c:QN},(G0 f scope.names []).lookup x=some c->X.env.cells.lookup x=some c:=λ{x c} e=>by
  rcases N6 _ _ e with ⟨t,w⟩ | t
  .rw[w];exact B (x,.free) t rfl
  .simp at t
 have d:∀x,(x,Ro.free)∈scope.names->∃c,(G0 f scope.names []).lookup x=some c:=λx M=>#v[_,aq _ _<|.inl M]
 generalize G0 f scope.names []=cl at a q d;rw[exec_Assign_Name_used _ _ _ _ hsw];refine iD<|Qo<|iD<|iD (Dp (wpAny_comprehension_free rfl hs a hcap.kind hcap.loc (thn (hi π s z H _ I h) λv s1 t=>thn t λL s2 w=>?_) ) (λ_ A O=>iO<|iO O) λ_ _ e=>e)
 let(Z,P,V,J,S,e,E,T,m,D,K):=w;subst e;obtain⟨W,⟨Y,G⟩,l⟩:=K (~~~s2)<|E.hok.fresh<|qD _;refine xI ?_;have u:∀b∈P,b≠(~~~s2):=λb r=>by let(o,e,_):=T.obj _ _ m b r;exact uu<|pz e
 exact ya hNd hix hLy hfy hc hosc hcap q d hg ht he (E.lnew .nil<|CW _) i3 T (T.keep _ _ (s2.heap.push { cls:=.type "list",data:=.seq ([]:List My).toArray }) m λb _ o e=>jM _ e) (λb r=>#v[by rw[h7<|u b r];exact(D b r).1,(D b r).2]) G l
end
section
section
variable {K:Qf}
def FU (K:Qf):List V->Hp->VK->Prop:=λd H Q=>∃(a:QN) (c:List Int),d=[.ref a]/\SqL K H a (c.map V.int)/\c.length<64 /\
 ∀p (b:List Int),H p=none->b.Perm c->b.Pairwise (· <= ·)->Q (.ref p) (upd H p<|.lst<|b.map V.int)
def qP (hK:X.K=K):w8 X (.builtin "sorted") (FU K):=by
 subst hK;rintro g s m H E us Q I r ⟨a,t,rfl,w,A,q⟩;let(u,rfl,n):=C5 r;cases n;let(d,j,p,v):=I.list w;have k:d.length=t.length:=by rw[<-j.length,jI]
 refine PyProof.Rows.sorted_ints p.isList (P5 j) (by lia) λc i C l B=>?_
 let(e,z):=sortedAll_at s.heap d c;have D:Inv X g m (upd H (~~~s+1)<|.lst<|i.map V.int) { s with heap:=sortedAll s.heap d c,toks:=s.toks } :=
  I.laid (λb o x=>sortedAll_old x) (KD _) #v[by rwa[jI,l.length_eq,<-jI],c.toList,e,gY C,by rw[z]]
 exact#v[.ref<|~~~s+1,_,D,rfl,q _ i (I.hok.fresh<|KD _) l B]
def LR (ta:TA):TE:=λb H Q=>ta b H λc a=>∃j,c=[.int j]/\∀p,a p=none->Q (.ref p) (upd a p<|.rng 0 j)
def BE (hg:Gl X "range")(hm:X.mg "range" = none)(ha:PA X [a] ta)(hs:‹QY [a] X.env=[(false,eval a X.env)]›):PE X (.Call (.Name "range" p) [a] [] pos) (LR ta):=by
 intro c s f H Q I h;refine Call_ (Z2 I hg hm boot_range<|Fw (thn (ha pos c s f H _ I h) ?_ ) hs rfl);rintro us s1 ⟨l,m,d,i,k⟩;let(j,e,q):=k;subst e;cases i with
 | cons r g =>cases g;let(t,rfl):=r;refine call_range_1<|#v[.ref (~~~s1),_,d.laid (o:=.rng 0 j) (λb o e=>jM _ e) (qD _) #v[_,_,_,ou _ rfl],rfl,q _<|d.hok.fresh<|qD _]
theorem M9:∀{xs} {us},xs.length=us.length->(∀(i:Nat) x u,xs[i]? = some x->us[i]? = some u->l4 x u)->k8 xs us
 | [],[],_,_=>.nil
 | [],_::_,e,_=>by simp at e
 | _::_,[],e,_=>by simp at e
 | x::xs,u::us,e,h=>.cons (h 0 x u rfl rfl) (M9 (by simpa using e) λi y v b a=>h (i+1) y v (by simpa using b)<|by simpa using a)
end
end
section
def isT (a T:String):Bool:=a == T||(a == "bool" && T == "int")
end
section
section
variable {K:Qf}
def Mj (K:Qf):List V->Hp->VK->Prop:=λc H Q=>∃(a:QN) (b:List Int),c=[.ref a]/\SqT K H a (b.map V.int)/\b≠[]/\∀m,m∈b->(∀n∈b,m<=n)->Q (.int m) H
def yP (hK:X.K=K)(hc:X.calm=true):w8 X (.builtin "min") (Mj K):=by
 subst hK;rintro C s O H P us Q I r ⟨a,d,rfl,G,y,q⟩;let(u,rfl,x):=C5 r;cases x;let(c,B,p,S):=I.tuple G;have g:c.length=d.length:=by rw[<-B.length,jI]
 have k:=NM.2 y;have D:s.heap.IsTuple a c.toArray:=p;have m:a<( ~~~s):=by let(o,e,_):=p;exact pz e
 have f:∀(i:Nat) v,c.toArray[i]? = some v->∃t,v = .int (d.getD i 0) t:=λi v w=>by
  have w:c[i]? = some v:=by simpa using w
  let(U,_):=pG.1 w;have z:(d.map V.int)[i]? = some (V.int<|d.getD i 0):=by rw[sq,qK<|by lia];simp[qK<|show i<d.length by lia]
  let(u,E,x):=B.get z;rw[w]at E;cases E;exact x
 refine call_min_walk<|Ld D ?_;refine#v[_,_,_,_,_,_,_,rfl,Walks.tuple (A:=X.A.in1) (I.ok.hd hc) _ a (uu m) c.toArray,#v[#v[_,ou _ rfl,rfl,rfl],?_],?_,?_,CmpOf.ints_lt (λi=>d.getD i 0) f,λv Y R M L=>?_]
 .exact D.at λo e=>jM _ e
 .intro b z;rw[AW];have:b=( ~~~s)\/b=a:=by simpa using z
  rcases this with e | e
  .rw[e];exact Gs _
  .rw[e];exact FJ m
 . rwa[tG,g]
 .let(W,N):=argBest_lt (λi=>d.getD i 0)<|c.toArray.size-1;let(t,rfl):=f _ v M;have F:c.toArray.size=d.length:=by rw[tG,g]
  refine#v[.int _,H,I.kept λb o e=>L b o (by simp;exact uu<|pz e)<|jM _ e,#v[t,rfl],q _ ?_ λn J=>?_]
  .exact getD_mem (by lia)
  .let(j,T,rfl):=mem_getD J;exact N j (by lia)
end
end
end L2
namespace L2
open PySem PyProof.Rows
def mW {a b:Bool}(h:Q (.bool<|decide ((if a then(1:Int) else 0)<if b then 1 else 0)) s) :
  Re (model prog w) A (call (.builtin "int.__lt__") [.bool a,.bool b]) Q E s:=by refine xw PySem.F.slot_bool_lt rfl entry_int_lt (iO #v[_,rfl,h])<|args_int_lt _ _
def Lx (κ:Nat->Int)(i j:Nat):Prop:=κ i < κ j\/(κ i = κ j/\i<j)
structure SB kd (a0:Array Rn) st:Prop where
 size:(arrOf st).size=a0.size
 kind:kindOf st=kd
 failed:failedOf st=none
 pend:pendingOf st = #[]

def SB.setArr {st} (h:SB kd a0 st)(hp:xs.size=(arrOf st).size):SB kd a0 (PyProof.Rows.setArr st xs):=#v[hp.trans h.size,h.kind,h.failed,h.pend]
structure SG kd a0 st (p:Nat->Nat):Prop where
 base:SB kd a0 st
 inj:∀i j,i<a0.size->j<a0.size->p i=p j->i=j
 at_:∀i,i<a0.size->(arrOf st)[i]? = a0[p i]?
 lt:∀i,i<a0.size->p i<a0.size
def fD (prog:QP)(w:QQ)(A:QR)(s:QO)(kd:SortKind)(a0:Array Rn)(κ:Nat->Int):Prop :=
 ∀i j x y,i≠j->a0[i]? = some x->a0[j]? = some y->∀E Q,Q (decide (κ i < κ j)) s->Re (model prog w) A (keyLt' kd x.1 y.1) Q E s
def SoK (κ:Nat->Int)(p:Nat->Nat)(n:Nat):Prop:=∀i j,i<=j->j<n->κ (p i) <= κ (p j)
def SoS (κ:Nat->Int)(p:Nat->Nat)(n:Nat):Prop:=(∀i j,i<j->j<n->Lx κ (p i) (p j))/\(∀i,n<=i->p i=i)/\∀i,i<n->p i<n

def SoS.sorted (h:SoS κ p n):SoK κ p n:=by
 intro i j b a;by_cases e:i=j
 .subst e;exact Fg _
 .rcases h.1 i j (by lia) a with q | q
  .exact Int.le_of_lt q
  .exact Int.le_of_eq q.1
def SoS.more (h:SoS κ p n)(hnm:n<=m)(hs:SoK κ p m):SoS κ p m:=by
 refine#v[λi j b e=>?_,λi d=>h.2.1 i (by lia),λi d=>?_]
 .by_cases c:j<n
  .exact h.1 i j b c
  .have q:=hs i j (by lia) e;rcases OE q with q | q
   .exact .inl q
   .refine .inr #v[q,?_];rw[h.2.1 j (by lia) ];by_cases a:i<n
    .have:=h.2.2 i a;lia
    . rwa[h.2.1 i<|by lia]
 .by_cases a:i<n
  .have:=h.2.2 i a;lia
  . rwa[h.2.1 i<|by lia]

section

def rR {st}(g:SG kd a0 st p)(hL:fD prog w A s kd a0 κ)(hi:i<a0.size)(hj:j<a0.size)(hij:i≠j)
  (h:Q (some<|decide (κ (p i) < κ (p j))) st):wpS (model prog w) A E s (ltAt' i j) Q st:=by have b:=getElem?_pos a0 (p i) (g.lt i hi);have a:=getElem?_pos a0 (p j) (g.lt j hj);rw[ltAt'_eq];refine CQ<|wpS_get ?_;show wpS _ _ _ _ (do let x <-elem' (arrOf st) i;let y <-elem' (arrOf st) j;lt' x y) Q st;rw[elem'_eq,elem'_eq,g.at_ i hi,g.at_ j hj,b,a];refine CQ<|Gv<|CQ<|Gv ?_;rw[lt'_eq];refine CQ<|wpS_get ?_;rw[g.base.kind];refine CQ (wpS_lift<|Fq<|hL _ _ _ _ (λz=>hij<|g.inj i j hi hj z) b a _ _ (#v[rfl,Gv h]) )
def SG.bub {st}(g:SG kd a0 st p)(hk:k<a0.size)(hl:l<=k) :
  SG kd a0 (setArr st<|bubble (arrOf st) k<|k-l) (λi=>if i=l then p k else if l<i/\i<=k then p (i-1) else p i):=by
 refine#v[g.base.setArr<|bubble_size _ _ _,λi j a b e=>?_,λi a=>?_,λi a=>?_]
 .try dsimp only at e
  repeat' split at e
  all_goals first
   | lia
   | (have:=g.inj _ _ (by lia) (by lia) e;lia)
 .have e:=getElem?_bubble (by rw[g.base.size];exact hk) (k-l) (by lia) i;rw[show k-(k-l)=l by lia]at e;rw[e];repeat' split
  .exact g.at_ _ hk
  .exact g.at_ _ (by lia)
  .exact g.at_ _ a
 .try dsimp only
  repeat' split
  .exact g.lt _ hk
  .exact g.lt _ (by lia)
  .exact g.lt _ a
def SG.mir {st}(g:SG kd a0 st p)(hv:v<=a0.size) :
  SG kd a0 (setArr st<|mirror (arrOf st) u v<|(v-u) / 2) (λi=>if u<=i/\i<v then p (u+v-1-i) else p i):=by
 refine#v[g.base.setArr<|mirror_size _ _ _ _,λi j a b e=>?_,λi a=>?_,λi a=>?_]
 .try dsimp only at e
  repeat' split at e
  all_goals first
   | lia
   | (have:=g.inj _ _ (by lia) (by lia) e;lia)
 .rw[getElem?_mirror_all (i:=u) (by rw[g.base.size];exact hv) i ];repeat' split
  .exact g.at_ _ (by lia)
  .exact g.at_ _ a
 .try dsimp only
  split
  .exact g.lt _ (by lia)
  .exact g.lt _ a
def xv {st}(hL:fD prog w A s kd a0 κ)(hn:n<=a0.size)(hok:ok<=n)(hB:SG kd a0 st p)(hs:SoS κ p ok)
  (h:∀st' p',SG kd a0 st' p'->SoS κ p' n->Q true st'):wpS (model prog w) A E s (binarySort' 0 n ok) Q st:=by
 rw[binarySort'_eq];simp only[yo];refine CQ (wpS_mono (OF (I:=λk c st'=>c=(none,())/\∃p',SG kd a0 st' p'/\SoS κ p' (min k n))
  (Q:=λc st'=>c=(none,())/\∃p',SG kd a0 st' p'/\SoS κ p' n) ?step ?fin ?init) ?post)
 case post =>
  rintro c st' ⟨rfl,p',m,e⟩
  exact Gv<|h st' p' m e
 case init =>
  refine#v[rfl,p,hB,?_]
  by_cases u:ok=0
  .subst u
   refine hs.more (by lia) λi j F N=>?_
   have:i=j:=by lia
   subst this;exact Fg _
  . rwa[show min (max ok 1) n=ok by lia]
 case fin =>
  rintro c st' ⟨O,p',m,e⟩
  refine#v[O,p',m,?_]
  rwa [show min (max (max ok 1) n) n=n by lia]at e
 case step =>
  rintro k c st' P M ⟨rfl,p',t,d⟩
  rw[show min k n=k by lia]at d
  have H:k<a0.size:=by lia
  have e:=d.sorted
  have m:=t.base
  refine CQ (wpS_mono (OF (I:=λx c a=>a=st'/\∃l r,c=(none,l,r)/\l<=r/\r<=k/\r-l<=k-x /\
    (∀i,i<l->κ (p' i) <= κ (p' k))/\(∀i,r<=i->i<k->κ (p' k) < κ (p' i)))
   (Q:=λc a=>a=st'/\∃l r,c=(none,l,r)/\l<=k /\
    (∀i,i<l->κ (p' i) <= κ (p' k))/\(∀i,l<=i->i<k->κ (p' k) < κ (p' i))) ?istep ?ifin ?iinit) ?ipost)
  case iinit=>exact#v[rfl,0,k,rfl,by lia,by lia,by lia,λi y=>by lia,λi u z=>by lia]
  case ifin =>
   rintro c a ⟨rfl,l,r,rfl,C,o,L,f,g⟩
   have:l=r:=by lia
   subst this
   exact#v[rfl,l,l,rfl,o,f,g]
  case istep =>
   rintro x c a _ K ⟨rfl,l,r,rfl,C,o,L,f,g⟩
   by_cases v:l >= r
   .rw[nY v]
    have:l=r:=by lia
    subst this
    exact Gv #v[rfl,l,l,rfl,o,f,g]
   .rw[oj v]
    refine CQ (rR t hL H (by lia) (by lia) ?_)
    by_cases b:κ (p' k) < κ (p'<|(l+r) / 2)
    .simp only[b]
     refine Gv #v[rfl,l,(l+r) / 2,rfl,by lia,by lia,by lia,f,λi u z=>Int.lt_of_lt_of_le b<|e _ _ u z ]
    .simp only[b]
     refine Gv #v[rfl,(l+r) / 2+1,r,rfl,by lia,by lia,by lia,λi u=>Int.le_trans (e i ((l+r) / 2) (by lia)<|by lia)<|Int.not_lt.1 b,g]
  case ipost =>
   rintro c a ⟨rfl,l,r,rfl,D,f,g⟩
   rw[moveDown'_eq]
   refine CQ<|wpS_modify<|Gv #v[rfl,_,t.bub H D,?_]
   rw[show min (k+1) n=k+1 by lia]
   have J:=d.2.1 k<|qD _
   have B:∀i,i<l->Lx κ (p' i) (p' k):=λi y=>by
    have q:=f i y;rcases OE q with q | q
    .exact .inl q
    .refine .inr #v[q,?_];rw[J];exact d.2.2 i (by lia)
   have G:∀i,l<=i->i<k->Lx κ (p' k) (p' i):=λi u z=>by exact .inl (g i u z)
   refine#v[λi j F N=>?_,λi y=>?_,λi y=>?_]
   .dsimp only
    repeat' split
    all_goals first
     | (exfalso;lia)
     | exact B _ (by lia)
     | exact G _ (by lia) (by lia)
     | exact d.1 _ _ (by lia) (by lia)
   .dsimp only
    rw[oj (by lia),oj<|by lia]
    exact d.2.1 i (by lia)
   .dsimp only
    repeat' split
    .rw[J];lia
    .have:=d.2.2 (i-1) (by lia);lia
    .have:=d.2.2 i (by lia);lia
def ze {st}(hL:fD prog w A s kd a0 κ)(hn:nrem<=a0.size)(ha:1<=a)(han:a<=nrem)(hG:SG kd a0 st p)
  (hs:SoK κ p a)
  (h:∀n,a<=n->n<=nrem->SoK κ p n->(n=nrem \/ κ (p n) < κ (p<|n-1))->Q (none,n) st) :
  wpS (model prog w) A E s (ascLoop a nrem) Q st:=by
 refine OF (I:=λx c e=>e=st/\c=(none,x)/\SoK κ p x) ?step ?fin #v[rfl,rfl,hs];case fin =>
  rintro c e ⟨rfl,rfl,d⟩
  rw[show max a nrem=nrem by lia]at d ⊢
  exact h nrem han (qD _) d<|.inl rfl
 case step =>
  rintro x c e m o ⟨rfl,rfl,d⟩
  refine CQ (rR hG hL (by lia) (by lia) (by lia) ?_)
  by_cases b:κ (p x) < κ (p<|x-1)
  .simp only[b]
   exact Gv (h x m (by lia) d<|.inr b)
  .simp only[b]
   refine Gv #v[rfl,rfl,λi j k q=>?_]
   by_cases f:j<x
   .exact d i j k f
   .have g:j=x:=by lia
    subst g
    by_cases l:i=j
    .subst l;exact Fg _
    .exact Int.le_trans (d i (j-1) (by lia)<|by lia)<|Int.not_lt.1 b
def DoS (κ:Nat->Int)(p:Nat->Nat)(n:Nat):Prop:=(∀i j,i<j->j<n->Lx κ (p j) (p i))/\(∀i,n<=i->p i=i)/\∀i,i<n->p i<n
def rC {st}(hL:fD prog w A s kd a0 κ)(hn:nrem<=a0.size)(h1:1<=n)(hnn:n<=nrem)(hB:SG kd a0 st p)
  (hs:DoS κ p n) (h:∀m st' p',SG kd a0 st' p'->1<=m->m<=nrem->SoS κ p' m->Q (some m) st') :
  wpS (model prog w) A E s (tail3 n nrem) Q st:=by
 refine CQ<|wpS_reverse ?_;have f:=hB.mir (u:=0) (v:=n) (by lia);have e:SoS κ (λi=>if 0<=i/\i<n then p (0+n-1-i) else p i) n:=by
  refine#v[λi j g k=>?_,λi d=>?_,λi d=>?_]
  .dsimp only;rw[nY (by lia),nY<|by lia];exact hs.1 _ _ (by lia) (by lia)
  .dsimp only;rw[oj<|by lia];exact hs.2.1 i d
  .dsimp only;rw[nY<|by lia];exact hs.2.2 _ (by lia)
 exact CQ (ze hL hn h1 hnn f e.sorted λm c b a _=>Gv<|h m _ _ f (by lia) b<|e.more c a)
def GoS (κ:Nat->Int)(p:Nat->Nat)(g n:Nat):Prop :=
 DoS κ p g/\g<n/\(∀i,g<=i->i<n->κ i = κ (n-1))/\∀i,i<g->κ (n-1) < κ (p i)
def GoS.close {st}(hG:SG kd a0 st p)(h:GoS κ p g n)(hn:n<=a0.size):DoS κ (λi=>if g<=i/\i<n then p (g+n-1-i) else p i) n:=by
 let(a,f,c,hl):=h;refine#v[λi j b e=>?_,λi d=>?_,λi d=>?_]
 .dsimp only;by_cases l:g<=i
  .rw[nY (by lia),nY (by lia),a.2.1 _ (by lia),a.2.1 _<|by lia];refine .inr #v[?_,by lia];rw[c _ (by lia) (by lia),c (g+n-1-i) (by lia)<|by lia]
  .by_cases k:g<=j
   .rw[nY (by lia),oj (by lia),a.2.1 _<|by lia];refine .inl ?_;rw[c _ (by lia)<|by lia];exact hl i (by lia)
   .rw[oj (by lia),oj<|by lia];exact a.1 i j b (by lia)
 .dsimp only;rw[oj<|by lia];exact a.2.1 i (by lia)
 .dsimp only;split
  .rw[a.2.1 _<|by lia];lia
  .have:=a.2.2 i (by lia);lia
def GoS.close1 (h:GoS κ p g n)(e:n=g+1):DoS κ p n:=by
 let(b,k,l,hl):=h;subst e;refine#v[λi j a f=>?_,λi d=>b.2.1 i (by lia),λi d=>?_]
 .by_cases c:j<g
  .exact b.1 i j a c
  .have:j=g:=by lia
   subst this;rw[b.2.1 j<|qD _];exact .inl<|hl i a
 .by_cases c:i<g
  .have:=b.2.2 i c;lia
  . rwa[b.2.1 i<|by lia]
def EH {st}(hL:fD prog w A s kd a0 κ)(hn:nrem<=a0.size)(h1:1<=n)(hnn:n<=nrem)(hB:SG kd a0 st p)
  (hs:GoS κ p (n-1) n)
  (h:∀m neq st' p',SG kd a0 st' p'->n<=m->m<=nrem->neq+1<=m->GoS κ p' (m-(neq+1)) m->Q (none,m,neq) st') :
  wpS (model prog w) A E s (descLoop n nrem) Q st:=by
 refine OF (I:=λx c st'=>∃neq p',c=(none,x,neq)/\SG kd a0 st' p'/\neq+1<=x/\GoS κ p' (x-(neq+1)) x) ?step ?fin #v[0,p,rfl,hB,by lia,hs];case fin =>
  rintro c st' ⟨neq,p',rfl,e,q,a⟩
  rw[show max n nrem=nrem by lia]at q a ⊢
  exact h nrem neq st' p' e hnn (qD _) q a
 case step =>
  rintro x c st' t C ⟨neq,p',rfl,e,q,a⟩
  refine CQ (rR e hL (by lia) (by lia) (by lia) ?_)
  have B:=a.1.2.1 x (by lia)
  have z:=a.1.2.1 (x-1) (by lia)
  rw[B,z]
  have put:∀{o},κ x < κ (x-1)->DoS κ o x->(∀i,i<x->κ (x-1) <= κ (o i))->GoS κ o (x+1-(0+1)) (x+1):=by
   intro o b d G;rw[show x+1-(0+1)=x by lia];refine#v[d,by lia,λi h1 F=>?_,λi k=>?_]
   .rw[show i=x by lia];rfl
   .exact Int.lt_of_lt_of_le b<|G i k
  have l:=λi k=>by
   by_cases D:i<x-(neq+1)
   .exact Int.le_of_lt<|a.2.2.2 i D
   .rw[a.1.2.1 i<|by lia];exact Int.le_of_eq (a.2.2.1 i (by lia) k).symm
  by_cases b:κ x < κ (x-1)
  .simp only[b]
   by_cases g:neq > 0
   .rw[nY g]
    refine CQ (wpS_reverse<|Gv #v[0,_,rfl,e.mir (u:=x-(neq+1)) (v:=x) (by lia),by lia,put b (a.close e<|by lia) λi k=>?_])
    try dsimp only
    split
    .exact l _ (by lia)
    .exact l _ k
   .rw[oj g]
    exact Gv #v[0,p',rfl,e,by lia,put b (a.close1<|by lia) l]
  .simp only[b]
   refine CQ (rR e hL (by lia) (by lia) (by lia) ?_)
   rw[B,z]
   by_cases f:κ (x-1) < κ x
   .simp only[f]
    exact Gv (h x neq st' p' e t (by lia) q a)
   .simp only[f]
    have j:κ x = κ (x-1):=by lia
    refine Gv #v[neq+1,p',rfl,e,by lia,?_]
    rw[show x+1-(neq+1+1)=x-(neq+1) by lia]
    refine#v[a.1,by lia,λi h1 F=>?_,λi k=>?_]
    .rw[show x+1-1=x by lia]
     by_cases r:i=x
     .subst r;rfl
     .rw[j];exact a.2.2.1 i h1 (by lia)
    .rw[show x+1-1=x by lia,j];exact a.2.2.2 i k
def iB {st}(hL:fD prog w A s kd a0 κ)(hn:nrem<=a0.size)(hnn:n+1<=nrem)(hB:SG kd a0 st p)
  (hs:GoS κ p n (n+1)) (h:∀m st' p',SG kd a0 st' p'->1<=m->m<=nrem->SoS κ p' m->Q (some m) st') :
  wpS (model prog w) A E s (descPart n nrem) Q st:=by
 refine CQ<|wpS_lift<|JV #v[rfl,CQ (EH hL hn (by lia) hnn hB hs λm e st' p' b f c g d=>?_) ];by_cases a:e > 0
 .rw[nY a];exact CQ (wpS_reverse<|rC hL hn (by lia) c (b.mir<|by lia) (d.close b<|by lia) h)
 .rw[oj a];exact rC hL hn (by lia) c b (d.close1<|by lia) h
def AE {st}(hL:fD prog w A s kd a0 κ)(hn:nrem<=a0.size)(h1:1<=nrem)(hB:SG kd a0 st id)
  (h:∀m st' p',SG kd a0 st' p'->1<=m->m<=nrem->SoS κ p' m->Q (some m) st') :
  wpS (model prog w) A E s (countRun' 0 nrem) Q st:=by
 rw[countRun0_eq];have t:SoS κ id 0:=#v[λi j _ r=>by lia,λi _=>rfl,λi f=>by lia];have one:SoK κ id 1:=λi j o r=>by
  have:i=j:=by lia
  subst this;exact Fg _
 refine CQ (ze hL hn (qD 1) h1 hB one λn l g c q=>?_);dsimp only;by_cases d:n=nrem
 .rw[nY<|by simpa using d];exact Gv (h n st id hB l g<|t.more (by lia) c)
 .rw[oj<|by simpa using d];have e:=q.resolve_left d;by_cases p:n > 1
  .rw[nY p];refine CQ (rR hB hL (by lia) (by lia) (by lia) ?_);simp only[id];by_cases a:κ 0 < κ (n-1)
   .simp only[a];exact Gv (h n st id hB l g<|t.more (by lia) c)
   .simp only[a];have b:∀j,j<n->κ j = κ (n-1):=by intro j u;have y:κ 0 <= κ j:=c 0 j (by lia) u;have x:κ j <= κ (n-1):=c j (n-1) (by lia) (by lia);lia
    refine CQ (wpS_reverse<|iB hL hn (by lia) (hB.mir<|by lia) (#v[#v[λi j o r=>?_,λi f=>?_,λi f=>?_],by lia,λi h1 v=>?_,λi f=>?_]) h)
    .dsimp only;rw[nY (by lia),nY<|by lia];refine .inr #v[?_,by simp only[id];lia];simp only[id];rw[b _ (by lia),b (0+n-1-i)<|by lia]
    .dsimp only;rw[oj<|by lia];rfl
    .dsimp only;rw[nY<|by lia];simp only[id];lia
    .rw[show i=n by lia];rfl
    .dsimp only;rw[nY<|by lia];simp only[id]at e ⊢;rwa[b (0+n-1-i) (by lia),show n+1-1=n by lia]
  .rw[oj p];have k:n=1:=by lia
   subst k;refine iB hL hn (by lia) hB #v[#v[λi j o r=>by lia,λi f=>rfl,λi f=>f],by lia,λi h1 v=>?_,λi f=>?_] h
   .rw[show i=1 by lia]
   . rwa[show i=0 by lia]
def ug (κ:Nat->Int)(a0:Array Rn)(st:SortSt):Prop :=
 failedOf st=none/\pendingOf st = #[(0,a0.size,0)]/\(arrOf st).size=a0.size/\∃p,(∀i,i<a0.size->(arrOf st)[i]? = a0[p i]?)/\SoS κ p a0.size
def SG.done {st}(g:SG kd a0 st p)(h:SoS κ p a0.size):ug κ a0 (setPending st<|(pendingOf st).push (0,a0.size,0)) :=
 #v[g.base.failed,by rw[g.base.pend];rfl,g.base.size,p,g.at_,h]
def xh {st}(hL:fD prog w A s kd a0 κ)(hB:SG kd a0 st id)(h2:2<=a0.size)(h64:a0.size<64)
  (h:∀st',failedOf st'=none->(arrOf st').size=a0.size->(∃p,(∀i,i<a0.size->(arrOf st')[i]? = a0[p i]?)/\SoS κ p a0.size)->Q () st'):wpS (model prog w) A E s sortRuns' Q st:=by
 rw[sortRuns'_eq];refine CQ<|wpS_get ?_;have o:minRun' a0.size a0.size 0=a0.size:=by
  obtain⟨f,C⟩:∃f,a0.size=f+1:=#v[a0.size-1,by lia];have:minRun' (f+1) a0.size 0=a0.size:=by rw[minRun'_succ,nY h64];rfl
  rwa [<-C]at this
 simp only[hB.base.size,o];refine CQ (wpS_mono (OF
  (I:=λx c st'=>(x=0/\c=(none,0)/\SG kd a0 st' id)\/(1<=x/\c=(none,a0.size)/\ug κ a0 st'))
  (Q:=λc st'=>c=(none,a0.size)/\ug κ a0 st') ?step ?fin (.inl #v[rfl,rfl,hB])) ?post)
 case fin =>
  rintro c st' (⟨v,_,_⟩ | ⟨_,D,b⟩)
  .omega
  .exact#v[D,b]
 case step =>
  rintro x c st' _ v (⟨rfl,rfl,t⟩ | ⟨u,rfl,b⟩)
  .rw[oj<|by lia]
   simp only[PL,Nat.min_self,yo]
   refine CQ (AE hL (qD _) (by lia) t λm l G d y q e=>?_)
   dsimp only
   by_cases g:m<a0.size
   .rw[nY g]
    refine CQ<|wpS_lift<|JV #v[rfl,CQ (xv hL (qD _) q d e λk F j n=>?_) ]
    simp only[NP]
    refine CQ<|wpS_get ?_
    have r:(pendingOf k).back? = none:=by rw[j.base.pend];rfl
    rw[r]
    exact CQ (wpS_modify<|Gv<|.inr #v[by lia,rfl,j.done n])
   .rw[oj g]
    have z:m=a0.size:=by lia
    subst z
    refine CQ<|wpS_get ?_
    have r:(pendingOf l).back? = none:=by rw[d.base.pend];rfl
    rw[r]
    exact CQ (wpS_modify<|Gv<|.inr #v[by lia,rfl,d.done e])
  .rw[nY<|qD _]
   exact Gv #v[rfl,b]
 case post =>
  rintro c st' ⟨rfl,b⟩
  refine CQ (wpS_mono (OF (I:=λ_ c a=>a=st'/\c=(none,())) ?_ (λ_ _ B=>B) #v[rfl,rfl]) ?_)
  .rintro x c a _ _ ⟨rfl,rfl⟩
   refine CQ<|wpS_get ?_
   rw[nY (by rw[b.2.1];exact qD 1)]
   exact Gv #v[rfl,rfl]
  .rintro c a ⟨rfl,rfl⟩
   exact Gv<|h _ b.1 b.2.2.1 b.2.2.2
end
def bS (n:Nat):Prop:=∀b w A E s c κ kd st Q,c.size=n->fD b w A s kd c κ->SG kd c st id->2<=c.size ->
 (∀a,failedOf a=none->(arrOf a).size=c.size->(∃p,(∀i,i<c.size->(arrOf a)[i]? = c[p i]?)/\SoS κ p c.size)->Q () a)->wpS (model b w) A E s sortRuns' Q st
def tQ (h:n<64):bS n:=λ_ _ _ _ _ _ _ _ _ _ e a b c q=>xh a b c (e▸h) q
end L2
namespace L2
open PySem PySem.Spec PyProof.Rows PySem.W
variable {π:List (QN×QZ)}
section
def cdO (c:QN)(q:Str):HO:=.ext λh=>h.CodeRec (.ref c) q
def eQ (H:Hp)(P:QN)(q:Str):Prop:=∃a,H P=some (.tbl a)/\TriplesOk a.toList/\∀b d,codeAmong b a.toList=some d->∃c,d = .ref c/\H c=some (cdO c q)
def sg {p:Pos}:∀l,TriplesOk l->codeAmong q (l++[rawInt p.line,rawInt p.col,c])=some cv->codeAmong q l=some cv\/cv=c:=by
 intro l h e;fun_induction TriplesOk l with
 | case1 =>
  simp only[zY,codeAmong,rawInt]at e
  split at e
  .exact .inr (rn e).symm
  .cases e
 | case2 a b k d j g i =>
  simp only[yS,codeAmong]at e ⊢
  split
  .rename_i f
   rw[nY f]at e
   exact .inl e
  .rename_i f
   rw[oj f]at e
   exact i h e
 | case3=>exact h.elim
def BMd (base:QW)(mg:Str->Option My):Prop:=∃b a,mg "__builtins__" = some (.ref b)/\b≠builtinsNs/\base.get? b=some a/\a.cls = .type "module" /\ a.dict=some builtinsNs/\a.data = .plain
def CU (P:QN)(q:Str)(H H':Hp):Prop:=H'=H\/∃a more c,H P=some (.tbl a)/\H c=none/\c≠P/\H'=upd (upd H P<|.tbl<|a++more) c (cdO c q)
def yW :∀h1 h2:QW,h1.CodeRec (.ref c) q->(∀o,h1.get? c=some o->h2.get? c=some o)->h2.CodeRec (.ref c) q:=λh1 h2 #v[b,o,a,t,e,g,r] k=>by cases e;exact#v[c,o,a,t,rfl,k o g,r]
section
variable {σ:St}
def Inv.pin1 (I:Inv X π σ H s)(ho:s.heap.get? a=some o)(hH:H a=none)(hL:a≠X.env.locals)(hf:a ∉ X.fs)(hd:∀v,o.data ≠ .cell v):Inv X ((a,o)::π) σ H s :=
 I.pins_of λp b=>by
  rcases oZ.1 b with rfl | b
  .exact#v[ho,hH,hL,hf,hd]
  .exact I.pin p<|uO _ b
def Inv.pinFresh {σ0:St}(I:Inv X π σ H s)(I0:Inv X pins0 σ0 H0 s0)(ho:s.heap.get? a=some o)(h: ~~~s0<=a)(hH:H a=none)(hd:∀v,o.data ≠ .cell v):Inv X ((a,o)::π) σ H s :=
 I.pin1 ho hH (λe=>absurd (uz I0.lt h) (by rw[e];exact Bl _)) (I0.nofs h) hd
def qU (I:Inv X π σ H s)(hdef:defaultsOf params X.env=([],[]))(hcl:closureFor scope X.env=pure cl)
  (hcode:X.env.code = .ref c) (C:CodeHd X.base c P) (BM:BMd X.base X.mg) (T:eQ H P q) (hq:X.env.qual ++ "<lambda>" = q)
  (h:∀f c' ctv H' s',~~~s<=f->CU P q H H'->eQ H' P q->H' c'=some (cdO c' q)->Inv X ((f,kla_obj "<lambda>" q params body scope cl ((X.mg "__name__").getD .none) c' ctv)::π) σ H' s'->Q (.ref f) s') :
  Re (model X.prog X.w) X.A (eval (.Lambda params body scope lpos) X.env) Q X.xe s:=by
 subst hq;let(A,k,E,p):=T;have j:=I.hok P _ k;have W:=I.mod.glob.keeps I.bk;let(bm,ob,b1,b2,N,b4,b5,b6):=BM;have ac:bm≠P:=λq=>by have e:=I.bk _ _ N;rw[q,j]at e;cases e;cases b4
 have ad:bm≠Rf:=λq=>by let(o,es,ep,e,Z,_):=I.mod.glob;rw[q,e]at N;cases N;rw[Z]at b6;cases b6
 have hB:s.heap.BuiltinsAt X.mg P:=#v[bm,ob,b1,b2,ad,ac,I.bk _ _ N,b4,b5,b6];refine kla_eval hdef ?_;cases hf:codeAmong lpos A.toList with
 | some cv =>
  let(c',rfl,ab):=p _ _ hf;refine kla_makeFunctionHit hcl I.ok.glob W hcode (C.keeps I.bk) j E hf hB λctv B R y a=>?_
  have I1:Inv X π σ H { s with heap:=B.push<|kla_obj "<lambda>" (X.env.qual ++ "<lambda>") params body scope cl ((X.mg "__name__").getD .none) c' ctv,toks:=R }:=I.kept λb o e=>jM _<|y b o e
  exact h _ c' ctv H _ a (.inl rfl) #v[A,k,E,p] ab (I1.pinFresh I (ou _ rfl) a (I.hok.fresh a)<|λv e=>nomatch e)
 | none =>
  refine kla_makeFunction hcl I.ok.glob W hcode (C.keeps I.bk) j E hf (λq=>by let(o,es,ep,e,Z,_):=W;rw[q,j]at e;cases e;cases Z) hB λc' ctv B R hx w G F U=>?_
  have K:c'≠P:=λe=>absurd (uz (pz j) w) (by rw[e];exact Bl _)
  have J:=I.hok.fresh w;have y:∀b o,b≠P->s.heap.get? b=some o->(B.push<|kla_obj "<lambda>" (X.env.qual ++ "<lambda>") params body scope cl ((X.mg "__name__").getD .none) c' ctv).get? b=some o:=λb o i e=>jM _<|hx b o i e
  have d:=F.push<|kla_obj "<lambda>" (X.env.qual ++ "<lambda>") params body scope cl ((X.mg "__name__").getD .none) c' ctv;have l:=jM (kla_obj "<lambda>" (X.env.qual ++ "<lambda>") params body scope cl ((X.mg "__name__").getD .none) c' ctv) U;have a:=uj w<|Ir G;generalize hH':upd (upd H P<|.tbl<|A ++ #[rawInt lpos.line,rawInt lpos.col,.ref c']) c' (cdO c'<|X.env.qual ++ "<lambda>")=H';have O:H' c'=some (cdO c'<|X.env.qual ++ "<lambda>"):=by rw[<-hH'];exact i3
  have a2:H' P=some (.tbl<|A ++ #[rawInt lpos.line,rawInt lpos.col,.ref c']):=by rw[<-hH',h7 K.symm];exact i3
  have x:∀b,b≠c'->b≠P->H' b=H b:=λb h1 L=>by rw[<-hH',h7 h1,h7 L]
  have D:∀b o,H b=some o->b≠c':=λb o e z=>by rw[z,J]at e;cases e
  generalize hh2:B.push (kla_obj "<lambda>" (X.env.qual ++ "<lambda>") params body scope cl ((X.mg "__name__").getD .none) c' ctv)=L at y d l;have un:Un X.fs [] H H' s.heap L:=by
   refine#v[λb o e n _ _=>y b o (λz=>by rw[z,k]at n;cases n) e,λb o e n _ _=>#v[o.slots,y b o (λz=>by rw[z,k]at n;cases n) e],λb o e n _=>?_,λb o e _=>?_,λb xs e=>?_,λb o u e=>?_,λb qs e=>?_]
   . rwa[x b (λz=>absurd (uz (pz e) w) (by rw[z];exact Bl _)) λz=>by rw[z,k]at n;cases n]
   .by_cases i:b=P
    .exact#v[_,by rwa[i]]
    .exact#v[o,y b o i e]
   . rwa[x b (D b _ e) λz=>by rw[z,k]at e;cases e]
   . rwa[x b (D b _ e) λz=>by rw[z,k]at e;cases e]
   .by_cases i:b=P
    .subst i;rw[k]at e;cases e;exact#v[_,a2]
    .exact#v[#[],by rw[x b (D b _ e) i,e];simp]
  have ok:HOk X.prog X.w H' L:=by
   intro b u e;by_cases i:b=c'
   .subst i;rw[O]at e;cases e;let(M,o,vs,t,e2,g,r):=id d;cases e2;exact#v[d,#v[o,g],yW]
   .by_cases m:b=P
    .subst m;rw[a2]at e;cases e;exact l
    .rw[x b i m]at e;refine(I.hok b u e).stay (λb2 u2 hc q=>y b2 u2 ?_ q) (λb2 q=>?_) λb2 xs q=>?_
     .rcases hc with z | z
      . rwa[z]
      .intro z2;rw[z2,k]at z;cases z
     . rwa[x b2 (D b2 _ q) λz=>by rw[z,k]at q;cases q]
     . rwa[x b2 (D b2 _ q) λz=>by rw[z,k]at q;cases q]
  have I1:Inv X π σ H' { s with heap:=L,toks:=R }:=I.un un ok;refine h _ c' ctv H' _ a (.inr #v[A,_,c',k,J,K,hH'.symm]) #v[_,a2,?_,λal cv e=>?_] O (I1.pinFresh I (by rw[<-hh2];exact ou _ rfl) a (by rw[x _ (AS G) λz=>absurd (uz (pz j) a) (by rw[z];exact Bl _)];exact I.hok.fresh a)<|λv e=>nomatch e)
  .rw[Array.toList_append];exact TriplesOk_snoc _ _ _ _ E
  .rw[Array.toList_append]at e;rcases sg _ E e with e | e
   .let(M,r1,S):=p _ _ e;refine#v[M,r1,?_];by_cases i:M=c'
    .subst i;exact O
    . rwa[x M i λz=>by rw[z,k]at S;cases S]
   .exact#v[c',e,O]
end
end
section
def cxL (X:Cx)(N:List Str)(q:Str)(scope:QS)(cl:List (Str×QN))(f c:QN)(Y:QR)(s₀:QO)(H₀:Hp):Cx where
 prog:=X.prog
 w:=X.w
 K:=X.K
 mg:=X.mg
 base:=X.base
 A:=Y.deeper<|envX q scope (~~~s₀) f (.ref c) cl
 N:=N
 s₀:=s₀
 H₀:=H₀
 env:=envX q scope (~~~s₀) f (.ref c) cl
 outer:=X.stack
 stack:=envX q scope (~~~s₀) f (.ref c) cl::X.stack
 ex:=[]
 fn:=λ_=>false
 calm:=true
 pn:=[]
 xe:=λ_ _=>False
structure LamOk (ON:List Str) (osc:QS) x (N:List Str) (cap:List Nat) (scope:QS):Prop where
 kind:scope.kind = .function
 co:scope.isCoroutine=false
 gen:scope.isGenerator=false
 nocell:∀y∈scope.names,y.2 ≠ .cell
 par:scope.names.lookup x=some .local
 first:N.head? = some x
 free:∀y∈scope.names,y.2 = .free->osc.names.lookup y.1=some .cell\/osc.names.lookup y.1=some .free
 len:N.length=1+cap.length
 capx:(cap.map λj=>ON[j]?)=(N.drop 1).map some
 capf:∀y∈N.drop 1,scope.names.lookup y=some .free
def dM (v:V)(cap:List Nat)(σ:St):St:=some v::cap.map λj=>(σ[j]?).join
section
variable {σ:St}
def Ck 
  (I:Inv X π σ H s) (hY:Y.frames=some X.stack) (hd:Y.handled=none) (hdp:Y.depth<recursionLimit)
  (hf:(f,kla_obj "<lambda>" q params body scope cl pm c ctv)∈X.pn++π) (hc:H c=some (cdO c q)) (hosc:X.env.scope=osc) (L:LamOk X.N osc x N cap scope)
  (hcl:∀{x} {c},cl.lookup x=some c->X.env.cells.lookup x=some c) (hhas:∀x,(x,Ro.free)∈scope.names->∃c,cl.lookup x=some c)
  (hbind:bindArgs (kla_fn "<lambda>" q params body scope cl pm (.ref c) ctv) #v[[u],[]]=pure [(x,u)])
  (he:∀s H,PE (cxL X N q scope cl f c Y s H) body te) (ru:l4 v u) (h:te (dM v cap σ) H R) :
  Re (model X.prog X.w) Y (call (.ref f) [u]) (EP X π σ R) E s:=by
 let(p1,p2,p3,p4,p5):=I.pin _ hf;let(F,_,_):=I.hok c _ hc;refine wpAny_call<|kla_callFunE hdp p1 rfl L.co L.gen rfl F ?_;rw[hbind];refine iO (wpAny_newFunctionEnv L.nocell (λy g=>?_) (λt U D=>#v[I.nolimit.fresh _ D,?_]) L.kind)
 .have e:y=(x,u):=by simpa using g
  rw[e];exact L.par
 show codeAny _ _ (.expr body<|envX q scope (~~~s) f (.ref c) cl) _ _;have a:∀b o,s.heap.get? b=some o->t.get? b=some o:=λb o e=>D.extBut b o (uu<|pz e)<|jM _ e
 have A:∀b:QN,b ∉ (cxL X N q scope cl f c Y s H).ex:=λb z=>absurd (show b∈([]:List QN) from z) (by simp)
 have IY:Inv (cxL X N q scope cl f c Y s H) [] (dM v cap σ) H { s with heap:=t,toks:=s.toks+[(x,u)].length }:=by
  refine#v[#v[I.ok.mod,L.kind,rfl,rfl,qD _,λx y c h1 h2=>I.ok.inj x y c (hcl h1)<|hcl h2,λy g=>?_,λx c h=>absurd (h) tN,λ_=>hd,PD hY,.inr #v[rfl,rfl],
   λb z=>absurd z<|A b,I.bs,uj I.ok.bsz I.sz,λb _ _=>A b,λb z=>absurd z<|A b,I.stack,I.stkFree],
   rfl,I.bare,Un.kept a,#v[_,U,λi y w e1 e2 e3=>?_],λy C e=>?_,I.hok.fresh<|qD _,λy C e=>I.freeC y C<|hcl e,λp hp=>absurd (show p∈([]:List (QN×QZ)) from hp) (by simp),I.hok.kept a,?_]
  .have g:=g;rcases g with g | g
   .exact absurd rfl<|L.nocell _<|yI g
   .exact hhas y<|yI g
  .cases i with
   | zero =>
    cases e2
    have ex:y=x:=by have z:=L.first;have n:N[0]? = some y:=e1;rw[List.head?_eq_getElem?,n]at z;exact rn z
    subst ex
    exact#v[u,ru,.inl #v[L.par,by simp]]
   | succ d =>
    have k:(cap.map λj=>(σ[j]?).join)[d]? = some (some w):=e2
    rw[sq]at k
    let(j,hj,O):=sA.1 k
    have S:σ[j]? = some (some w):=by
     cases r:σ[j]? with
     | none=>rw[r]at O;cases O
     | some o=>rw[r]at O;exact AZ some O
    have n:(N.drop 1)[d]? = some y:=by rwa[List.getElem?_drop,Nat.add_comm]
    have G:=L.capf y<|uP n
    have K:=yI G
    have B:=L.free _ K rfl
    rw[<-hosc]at B
    let(m,hn,hl):=I.loc
    let(u',r,l):=hl j y w (by have z:=AZ (λl=>l[d]?) L.capx;simp only[sq,hj,n]at z;exact rn z) S<|.inr B
    refine#v[u',r,?_]
    rcases l with ⟨P,_⟩ | ⟨P,c1,Z,W⟩
    .have P:X.env.scope.names.lookup y=some .local:=P
     rcases B with z | z <;> (rw[P]at z;cases z)
    .let(C,M):=hhas y K
     have:=rn<|(hcl M).symm.trans Z
     subst this
     exact .inr #v[.inr G,C,M,W.keeps a]
  .let(w,z):=I.cell y C<|hcl e;exact#v[w,z.keeps a]
  .show(dM v cap σ).length=N.length;unfold dM;rw[qN,jI,L.len,Nat.add_comm]
 refine kla_codeExpr (Dp (he s H [] _ _ _ _ IY h) (λuv s' T=>?_) λe s' T=>T.elim);let(w,H',J,Q,qw):=T;exact#v[w,H',I.call' J.os J.base J.hok J.bare (λb hb=>nomatch hb),Q,qw]
end
end

section
def iH:V->Int
 | .int i=>i
 | .bl b=>if b then 1 else 0
 | _=>0
def iw (ks:List V):Prop:=(∀k∈ks,∃i,k=V.int i)\/∀k∈ks,∃b,k=V.bl b
def T2 (ks:List V)(i:Nat):Int:=iH<|ks.getD i .non
def cT (ks xs ys:List V):Prop:=ys.length=xs.length/\∃p,SoS (T2 ks) p xs.length/\∀i,i<xs.length->ys[i]? = xs[p i]?
theorem ar:∀{vs:List My},(∀v∈vs,∃b,v = .bool b)->vs.mapM firstOfTuple'=pure (vs.map λ_=>none)
 | [],_=>by simp
 | v::vs,h=>by let(b,rfl):=h v ll;rw[Ka,show firstOfTuple' (.bool b)=pure none from rfl,ar λw a=>h w<|kN _ a];simp
theorem X5:∀{vs:List My},(∀v∈vs,∃b,v = .bool b)->vs.mapM typeOf=pure (vs.map λ_=>My.type "bool")
 | [],_=>by simp
 | v::vs,h=>by let(b,rfl):=h v ll;rw[Ka,X5 λw a=>h w<|kN _ a];show(pure (My.type "bool") >>= λb=>pure _ >>= λbs=>pure (b::bs))=_;simp
def kR (hI:∀v∈(v₁::v₂::vs),∃b,v = .bool b):keyKind' (v₁::v₂::vs).toArray=pure oneType':=by
 rw[keyKind'_eq,Oa,ar hI];simp only[map_pure,pure_bind];rw[oj (by simp),oj<|by simp];rw[oneTypeOnly'_eq,Oa,X5 hI];simp only[map_pure,pure_bind];have a:((List.map (λ_=>My.type "bool") (v₁::v₂::vs)).toArray.all λx=>x == My.type "bool")=true:=by simp only[Qz,List.all_map,JG];intro _ _;rfl
 have c:(List.map (λ_=>My.type "bool") (v₁::v₂::vs)).toArray[0]? = some (My.type "bool"):=by simp
 rw[c];simp only[a,Bc,pure_bind,Nr]
theorem eU:∀{ks} {us},k8 ks us->(∀k∈ks,∃i,k=V.int i)->IntsAre us (ks.map iH)
 | _,_,.nil,_=>.nil
 | k::ks,u::us,.cons r t,h=>by let(i,rfl):=h k ll;let(a,rfl):=r;exact .cons i a (eU t λk b=>h k<|kN _ b)
theorem ku:∀{ks} {us},k8 ks us->(∀k∈ks,∃b,k=V.bl b)->∀u∈us,∃b,u = .bool b
 | _,_,.nil,_,u,hu=>by simp at hu
 | k::ks,u::us,.cons r t,h,w,a=>by
  rcases oZ.1 a with rfl | a
  .let(b,rfl):=h k ll;exact#v[b,r]
  .exact ku t (λk c=>h k<|kN _ c) w a
section
variable {X:Cx}{σ:St}{H:Hp}
def New (X:Cx)(π:List (QN×QZ))(b:QN):Prop:= ~~~X.s₀<=b/\b≠X.env.locals/\(∀x c,X.env.cells.lookup x=some c->c≠b)/\(∀p∈X.pn++π,p.1≠b)/\b ∉ X.fs
def Inv.new {b:QN}(I:Inv X π σ H s)(h: ~~~s<=b):New X π b:=by
 have a:∀{c} {o},s.heap.get? c=some o->c≠b:=λe z=>absurd (uz (pz e) h) (by rw[z];exact Bl _)
 refine#v[uj I.sz h,λz=>absurd (uz I.lt h) (by rw[z];exact Bl _),λx c e=>?_,λp d=>a (I.pin p d).1,I.nofs h];let(v,o,f,_):=I.cell x c e;exact a f
def Inv.turn1 (I:Inv X π σ H s)(hb:New X π b)(hn:H b=none)(k:∀c o,c≠b->s.heap.get? c=some o->h'.get? c=some o):Inv X π σ H { s with heap:=h',toks:=t' } :=
 I.turned k hn hb.2.1 (.inr hb.1) hb.2.2.1 hb.2.2.2.1
def Inv.relay (I:Inv X π σ H s)(ha:New X π a)(hk:New X π k)(Ha:H a=none)(Hk:H k=none)
  (hs:∀c o,c≠a->c≠k->s.heap.get? c=some o->h'.get? c=some o) (hth:∃o,h'.get? k=some o) (hz:ys.length<=QX) (r:k8 ys us) (ho:h'.get? a=some { cls:=.type "list",data:=.seq us.toArray n }) :
  Inv X π σ (upd H a<|.lst ys) { s with heap:=h',toks:=t' }:=by
 have nin:∀{b},b ∉ [a,k]->b≠a/\b≠k:=λg=>#v[λz=>g (by simp[z]),λz=>g<|by simp[z]]
 have f:∀{b} {u},H b=some u->b≠a/\b≠k:=λe=>#v[λz=>(by rw[z,Ha]at e;cases e),λz=>(by rw[z,Hk]at e;cases e)]
 refine I.step (λb g=>?_) (λb o _ _ d e _=>hs b o (nin d).1 (nin d).2 e) (λb o _ _ d e _=>#v[o.slots,hs b o (nin d).1 (nin d).2 e]) (λb o d _ n=>by rwa[h7 (nin d).1])
  (λb o d e=>#v[o,hs b o (nin d).1 (nin d).2 e]) (λb j e=>by rwa[h7 (f e).1]) (λb o u e=>by rwa[h7 (f e).1]) (λb x e=>#v[#[],by rw[h7 (f e).1,e];simp]) (λm p=>?_) (λb u e=>?_) I.bare
 .rcases (by simpa using g) with rfl | rfl
  .exact#v[.inr ha.1,ha.2.1,ha.2.2.1,ha.2.2.2.1]
  .exact#v[.inr hk.1,hk.2.1,hk.2.2.1,hk.2.2.2.1]
 .let(o,t,w,h,l):=p;exact#v[o,t,w,hs _ o ha.2.1.symm hk.2.1.symm h,l]
 .by_cases g:b=a
  .subst g;rw[i3]at e;cases e;exact#v[hz,us,n,r,ho]
  .rw[h7 g]at e;refine(I.hok b u e).stay (λc v d q=>?_) (λc q=>by rwa[h7 (f q).1]) λc j q=>by rwa[h7 (f q).1]
   rcases d with rfl | z
   .exact hs c v (f e).1 (f e).2 q
   .exact hs c v (f z).1 (f z).2 q
end
end
variable {J:Nat->Hp->Prop}
section
def atl {α:Type}(a:Array α):a.toList.length=a.size:=zq
section
variable {σ:St}
def vh {st}{p:Nat->Nat}(I:Inv X ((kS,seqObj "list" keys e)::(a,seqObj "list" #[] e1)::π) σ H s)(ha:New X π a)(hk:New X π kS)(hka:kS≠a)
  (rx:k8 xs its) (hkl:keys.size<=64) (h64:its.length<64) (hfl:failedOf st=none) (hsz:(arrOf st).size=its.length) (hp:∀i,i<its.length->(arrOf st)[i]? = (keys.zip its.toArray)[p i]?) (hS:SoS (T2 ks) p its.length) (hke:keys.size=its.length)
  (h:∀s' ys,cT ks xs ys->Inv X π σ (upd H a<|.lst ys) s'->P (.done<|.ret .none) s') :
  Re (model X.prog X.w) Y (ksk_tail a false e1 (.ref kS) st) P E s:=by
 let(B,J,_):=I.pin (kS,seqObj "list" keys e)<|uO _<|.head _;let(D,K,_):=I.pin (a,seqObj "list" #[] e1)<|uO _<|.tail _<|.head _;have G:Inv X π σ H s:=I.pins_of λp hp=>I.pin p<|uO _<|.tail _<|.tail _ hp
 have s1:=DG s.heap kS (QZ.mapSeq λ_=>(#[]:Array My));have j:(s.heap.update kS<|QZ.mapSeq λ_=>(#[]:Array My)).get? a=some (seqObj "list" #[] e1):=(s1.2 a hka.symm).trans D;have s2:=DG (s.heap.update kS<|QZ.mapSeq λ_=>(#[]:Array My)) a (QZ.mapSeq λ_=>(arrOf st).map (·.2));obtain⟨z,v⟩:∃z,((s.heap.update kS<|QZ.mapSeq λ_=>(#[]:Array My)).update a (QZ.mapSeq λ_=>(arrOf st).map (·.2))).get? a=some (seqObj "list" ((arrOf st).map (·.2)) z) :=
  #v[_,NS j λ_=>(arrOf st).map (·.2)]
 have g:((arrOf st).map (·.2)).size=its.length:=by rw[Qb];exact hsz
 unfold ksk_tail;try dsimp only
 refine iD (NB B rfl ?_ (by rw[xD];lia)<|CW _);refine iD<|Nj<|iD<|seqEpoch_at j rfl<|iD (NB j rfl ?_ (CW _) (by rw[oj tN,g,xD];lia));rw[hfl];simp only[Qt,xn,yz];have A:xs.length=its.length:=rx.length;have m:∀i,i<its.length->((arrOf st).map (·.2)).toList[i]? = its[p i]?:=λi f=>by rw[zS,Array.getElem?_map,hp i f,<-zS,ksk_zip];have d:=hS.2.2 i f;have e1:its[p i]? = some (its[p i]):=qK d;have F:keys.toList[p i]? = some (keys.toList[p i]'(by rw[atl keys,hke];exact d)):=qK _;rw[show(keys.toList.zip its)[p i]? = some (keys.toList[p i]'(by rw[atl keys,hke];exact d),its[p i]) from EO.2 #v[F,e1],e1];rfl
 have b:((List.range its.length).map λi=>xs.getD (p i) .non).length=its.length:=by rw[jI,xB]
 have l:∀i,i<its.length->((List.range its.length).map λi=>xs.getD (p i) .non)[i]? = xs[p i]?:=λi f=>by rw[sq,IE f];have d:=hS.2.2 i f;show some (xs.getD (p i) .non)=_;rw[uE,qK<|by lia];rfl
 refine iO (h _ ((List.range its.length).map λi=>xs.getD (p i) .non) #v[by rw[b,A],p,by rw[A];exact hS,λi f=>l i<|by lia] (G.relay (k:=kS) (n:=z) ha hk K J (λc o y w e=>(s2.2 c y).trans<|(s1.2 c w).trans e) ?_ (by rw[b,xD];lia)
  (us:=((arrOf st).map (·.2)).toList) ?_ (by rw[v])))
 .obtain⟨C,t⟩:∃C,(s.heap.update kS<|QZ.mapSeq λ_=>(#[]:Array My)).get? kS=some (seqObj "list" #[] C):=#v[_,NS B λ_=>(#[]:Array My)];exact#v[_,(s2.2 kS hka).trans t]
 .refine M9 (by rw[b,atl ((arrOf st).map (·.2)),g]) λi x u q r=>?_
  have f:i<its.length:=by have:=(pG.1 q).1;rwa [b]at this
  rw[l i f]at q;rw[m i f]at r;let(L,y,w):=rx.get q;rw[y]at r;rw[<-rn r];exact w
def Fd (I:Inv X ((kS,seqObj "list" #[] 0)::(a,seqObj "list" #[] e1)::π) σ H s)(ha:New X π a)(hk:New X π kS)(hka:kS≠a)
  (rx:k8 xs its) (hl:ks.length=xs.length) (hko:iw ks) (h64:its.length<64) (j0:J 0 H)
  (turn:∀i v u pn H' s',xs[i]? = some v->l4 v u->J i H'->Inv X (pn++π) σ H' s' ->
   Re (model X.prog X.w) Y (call (.ref f) [u]) (EP X (pn++π) σ λk H2=>ks[i]? = some k/\J (i+1) H2) (λ_ _=>False) s')
  (h:∀s' H' ys,J xs.length H'->H' a=none->cT ks xs ys->Inv X π σ (upd H' a<|.lst ys) s'->P (.done<|.ret .none) s') :
  Re (model X.prog X.w) Y (ksk_rest a (.ref f) false its.toArray e1<|.ref kS) P E s:=by
 have xl:xs.length=its.length:=rx.length;have ac:New X ((a,seqObj "list" #[] e1)::π) kS:=#v[hk.1,hk.2.1,hk.2.2.1,λp G=>by
  rcases zj.1 G with z | z
  .exact hk.2.2.2.1 p (Of _ z)
  .rcases oZ.1 z with rfl | z
   .exact hka.symm
   .exact hk.2.2.2.1 p<|uO _ z,hk.2.2.2.2]
 unfold ksk_rest;refine iD<|JV ?_;first
  | rw[List.forIn_toArray]
  | (rw[<-Nt];simp only[List.toList_toArray])
  | rw[<-Nt]
 refine iD (ksk_fold (λi s'=>∃H' b e,Inv X ((kS,seqObj "list" b e)::(a,seqObj "list" #[] e1)::π) σ H' s'/\J i H'/\k8 (ks.take i) b.toList) its 0 s #v[H,#[],0,I,j0,by simpa using Paired.nil] ?step ?done);case step =>
  rintro j x s' hx ⟨H',b,e,L,K,r⟩
  simp only[yo]at K r ⊢
  have hj:j<its.length:=(pG.1 hx).1
  obtain⟨v,M⟩:∃v,xs[j]? = some v:=#v[_,qK<|by lia]
  let(u,hu,ru):=rx.get M
  rw[hx]at hu
  cases hu
  have hz:b.size<=its.length:=by have U:=r.length;rw[atl b,Bp]at U;lia
  refine iD (Fq<|Dp (turn j v x [(kS,seqObj "list" b e),(a,seqObj "list" #[] e1)] H' s' M ru K L) (λC A he=>?_) λ_ _ hF=>hF.elim)
  let(kk,H2,I2,rk,ab,al):=he
  try dsimp only
  let(S,Hk,_):=I2.pin (kS,seqObj "list" b e)<|uO _<|.head _
  have I3:=I2.pins_of λp G=>I2.pin p<|uO _<|.tail _ G
  have s1:=DG A.heap kS (QZ.mapSeq (·.push C))
  obtain⟨c2,ad⟩:∃c2,(A.heap.update kS (QZ.mapSeq (·.push C))).get? kS=some (seqObj "list" (b.push C) c2):=#v[_,NS S (·.push C)]
  refine iD (NB S rfl ?_ (by rw[xD];lia)<|uj (Nat.le_of_eq<|Array.size_push ..) (by rw[xD];lia))
  have I4:=I3.turn1 (t':=A.toks) ac Hk λc o hc e=>(s1.2 c hc).trans e
  have ek:ks.take (j+1)=ks.take j++[kk]:=by rw[ED,ab];simp
  have ea:(b.push C).toList=b.toList++[C]:=by simp
  exact iO #v[rfl,H2,b.push C,c2,I4.pin1 ad Hk hk.2.1 hk.2.2.2.2 (λv e=>nomatch e),al,by rw[ea,ek];exact r.append<|.cons rk .nil]
 case done =>
  rintro s' ⟨H',b,e,L,K,r⟩
  rw[Ff (by lia) ]at r
  rw[yo,<-xl]at K
  let(S,Hk,_):=L.pin (kS,seqObj "list" b e)<|uO _<|.head _
  let(_,Ha,_):=L.pin (a,seqObj "list" #[] e1)<|uO _<|.tail _<|.head _
  try dsimp only
  refine iD<|OG S rfl ?_
  have xl:=rx.length
  have F:b.size=its.length:=by have:=r.length;rw[atl b]at this;lia
  have B:(b.zip its.toArray).size=its.length:=by rw[Array.size_zip,F,tG,Nat.min_self]
  unfold ksk_end
  simp only[yz]
  by_cases D:its.toArray.size<2
  .rw[nY D,nY D]
   refine iD<|iO ?_
   rw[StateT.run_pure]
   refine iD<|iO ?_
   try dsimp only
   rw[tG]at D
   refine vh L ha hk hka rx (by lia) h64 rfl B (λi _=>rfl) #v[λi j U h3=>by lia,λi _=>rfl,λi hi=>hi] F (λs2 ys o J2=>h s2 H' ys K Ha o J2)
  .rw[oj D,oj D]
   rw[tG]at D
   rw[(show keyKind' b=pure oneType' by
    obtain⟨g,d,l,e⟩:∃g d l,b.toList=g::d::l:=by
     have hl:2<=b.toList.length:=by rw[zq];exact (by lia)
     cases q:b.toList with
     | nil=>rw[q]at hl;simp at hl
     | cons g r =>
      cases r with
      | nil=>rw[q]at hl;simp at hl
      | cons d l=>exact#v[g,d,l,rfl]
    have ek:b=(g::d::l).toArray:=by rw[<-e,Array.toArray_toList]
    rw[e]at r;rw[ek];rcases hko with hko | hko
    .exact keyKind_ints (eU r hko)
    .exact kR<|ku r hko)]
   refine iD<|iO<|iD (Dp (xh (st:=SortSt.mk' oneType' (b.zip its.toArray) #[] 7 none)
    (Q:=λ_ w=>failedOf w=none/\(arrOf w).size=(b.zip its.toArray).size/\∃p,(∀i,i<(b.zip its.toArray).size->(arrOf w)[i]? = (b.zip its.toArray)[p i]?)/\SoS (T2 ks) p (b.zip its.toArray).size)
    ((by
     have one:∀(i:Nat) (x:Rn),(b.zip its.toArray)[i]? = some x->∃k,ks[i]? = some k/\l4 k x.1:=λi x e=>by
      rw[<-zS,ksk_zip,EO]at e;cases q:ks[i]? with
      | none =>rw[r.none_of q]at e;exact absurd e.1 (by simp)
      | some k =>let(u,U,D):=r.get q;rw[U]at e;exact#v[k,rfl,by rwa[<-rn e.1]]
     intro i j x y _ ex ey E Q hq;rw[keyLt'_oneType];let(k1,R,r1):=one i x ex;let(Z,O,r2):=one j y ey;have n1:T2 ks i=iH k1:=by unfold T2;rw[uE,R];rfl
     have n2:T2 ks j=iH Z:=by unfold T2;rw[uE,O];rfl
     rw[n1,n2]at hq;let(x1,x2):=x;let(y1,y2):=y;rcases hko with hko | hko
     .let(m,rfl):=hko k1<|uP R;let(n,rfl):=hko Z<|uP O;let(t,e):=r1;let(t',W):=r2;subst e;subst W;exact oneLt_int hq
     .let(m,rfl):=hko k1<|uP R;let(n,rfl):=hko Z<|uP O;subst r1;subst r2;rw[oneLt'_eq];simp only[Bc];refine iD<|wpAny_cRoomFor_byValue rfl<|iD<|wpAny_callSpecialIfBound?_slot rfl PySem.F.slot_bool_lt<|mW ?_;exact Kl hq)) #v[#v[rfl,rfl,rfl,rfl],λi j _ _ e=>e,λi _=>rfl,λi hi=>hi] (by rw[B];lia) (by rwa[B]) λw R O a3=>#v[R,O,a3]) ?_ λ_ _ e=>e)
   rintro ⟨⟨⟩,w⟩ s' ⟨rfl,hf,N,p,G,hS⟩
   try dsimp only
   rw[B]at N G hS
   exact vh L ha hk hka rx (by lia) h64 hf N G hS F (λs2 ys o J2=>h s2 H' ys K Ha o J2)
end
end
section
section
variable {σ:St}
def Ey (I:Inv X π σ H s)(ho:s.heap.get? a=some (seqObj "list" its.toArray n))(ha:New X π a)(Ha:H a=none)
  (rx:k8 xs its) (hl:ks.length=xs.length) (hko:iw ks) (h64:its.length<64) (j0:J 0 H)
  (turn:∀i v u pn H' s',xs[i]? = some v->l4 v u->J i H'->Inv X (pn++π) σ H' s' ->
   Re (model X.prog X.w) Y (call (.ref f) [u]) (EP X (pn++π) σ λk H2=>ks[i]? = some k/\J (i+1) H2) (λ_ _=>False) s')
  (h:∀s' H' ys,J xs.length H'->H' a=none->cT ks xs ys->Inv X π σ (upd H' a<|.lst ys) s'->P (.done<|.ret .none) s') :
  Re (model X.prog X.w) Y (ksk_tree a (.ref f) false) P E s:=by
 have s1:=DG s.heap a (QZ.mapSeq λ_=>(#[]) );obtain⟨m,b⟩:∃m,(s.heap.update a<|QZ.mapSeq λ_=>(#[]) ).get? a=some (seqObj "list" #[] m):=#v[_,NS ho λ_=>#[]];have d:((s.heap.update a<|QZ.mapSeq λ_=>(#[]) ).push<|seqObj "tuple" its.toArray 0).objs.size= ~~~s+1:=by rw[size_push',Oi]
 have p: ~~~s<=((s.heap.update a<|QZ.mapSeq λ_=>(#[]) ).push<|seqObj "tuple" its.toArray 0).objs.size:=by rw[d];exact KD _
 refine iD<|OG ho rfl<|iD (NB ho rfl ?_ (by rw[tG,xD];lia)<|CW _);refine iD<|seqEpoch_at b rfl<|iD (Ob (iD<|Oq ?_<|CW _) (by rw[xD];lia));refine Ak ?_;have w:Inv X π σ H { s with heap:=((s.heap.update a<|QZ.mapSeq λ_=>(#[]) ).push<|seqObj "tuple" its.toArray 0).push<|seqObj "list" #[] 0,toks:=s.toks } :=
  I.turn1 ha Ha λc o q e=>jM _<|jM _<|(s1.2 c q).trans e
 have l:=I.new p;have j:((s.heap.update a<|QZ.mapSeq λ_=>(#[]) ).push<|seqObj "tuple" its.toArray 0).objs.size≠a:=by rw[d];exact AS<|FJ (pz ho)
 have t:=w.pin1 (jM _<|jM _ b) Ha ha.2.1 ha.2.2.2.2 (λv e=>nomatch e);have r:=t.pin1 (ou _ rfl) (I.hok.fresh p) l.2.1 l.2.2.2.2 (λv e=>nomatch e);exact Fd r ha l j rx hl hko h64 j0 turn h
def Ab (hl:s.heap.IsList l vs.toArray\/IsTup s.heap l vs.toArray)
  (q:Q vs { s with heap:=(s.heap.push<|seqObj "list" #[] 0).update (~~~s) (QZ.mapSeq (· ++ vs.toArray)) }) (hz:vs.length<=QX):Re (model prog w) A (collect<|.ref l) Q E s:=hl.elim (λh=>collect_list h q hz) λh=>(by
   let(o,d,g,n,f):=h;have a:(s.heap.push<|seqObj "list" #[] 0).get? l=some o:=jM _ d;have b:(s.heap.push<|seqObj "list" #[] 0).get? (~~~s)=some (seqObj "list" #[] 0):=ou _ rfl;refine iD (wpAny_runValue<|IS entry_proto_collect'<|iD<|Oq<|iO #v[Code.quiet_builtin _ (by decide +kernel),IS entry_list_iadd' ?_]);show Re (model prog w) _ (Builtin.List.listExtendWith (.ref (~~~s)) (.ref l)<|.ref (~~~s)) _ _ { s with heap:=s.heap.push (seqObj "list" #[] 0) };refine iD<|Nq #v[o,a,g] ?_;have c:(My.type "tuple" == My.type "tuple")=true:=rfl;rw[nY (by rw[c];simp)];refine iD<|OG a f<|iD<|OG b rfl ?_;rw[oj<|by simp];refine iD (NB b rfl (iO (iD<|wpAny_load (NS b _) ?_) ) (CW _) (by rw[Array.size_append,tG];simp;lia));have e:((#[])++vs.toArray).toList=vs:=by simp
   show Re (model prog w) A (pure ((#[])++vs.toArray).toList) Q E _;rw[e];exact iO q)
def xF (I:Inv X π σ H s)(hl':s.heap.IsList l its.toArray\/IsTup s.heap l its.toArray)
  (rx:k8 xs its) (hl:ks.length=xs.length) (hko:iw ks) (h64:its.length<64) (j0:J 0 H)
  (turn:∀i v u pn H' s',xs[i]? = some v->l4 v u->J i H'->Inv X (pn++π) σ H' s' ->
   Re (model X.prog X.w) X.A.in1.in1 (call (.ref f) [u]) (EP X (pn++π) σ λk H2=>ks[i]? = some k/\J (i+1) H2) (λ_ _=>False) s')
  (h:∀a s' H' ys,J xs.length H'->H' a=none->cT ks xs ys->Inv X π σ (upd H' a<|.lst ys) s'->Q (.ref a) s') :
  Re (model X.prog X.w) X.A (call (.builtin "sorted") [.ref l] [(Str.ofString "key",.ref f)]) Q E s:=by
 refine call_function_entry_kw kind_sorted plain_sorted entry_sorted (ksk_s1 _ _)<|iD<|iO<|iD (Ab hl' (iD (Oq ?_ (by rw[xD];lia))) (by rw[xD];lia));have c:((s.heap.push<|seqObj "list" #[] 0).update (~~~s) (QZ.mapSeq (· ++ its.toArray))).objs.size= ~~~s+1:=by rw[Oi,size_push']
 have e:(((s.heap.push<|seqObj "list" #[] 0).update (~~~s) (QZ.mapSeq (· ++ its.toArray))).push<|seqObj "list" its.toArray 0).get? (~~~s+1)=some (seqObj "list" its.toArray 0):=by rw[<-c];exact ou _ rfl
 rw[c];refine iD<|Ak<|wpAny_call_entry_kw slot_list_sort #v[_,e,rfl] entry_list_sort ?body<|ksk_l1 _ _;case body =>
  rw[ksk_t1 f<|~~~s+1 ]
  have n:Inv X π σ H { s with heap:=((s.heap.push<|seqObj "list" #[] 0).update (~~~s) (QZ.mapSeq (· ++ its.toArray))).push<|seqObj "list" its.toArray 0,toks:=s.toks }:=I.kept (λb o q=>by have d:=pz q;rw[NG _ _ _ (by rw[c];exact uu<|FJ d),QW.get?_update_ne _ _ _ _<|uu d,NG _ _ _<|uu d];exact q)
  refine Ey n e (I.new<|KD _) (I.hok.fresh<|KD _) rx hl hko h64 j0 turn λs' H' ys j r o p=>#v[_,rfl,iO #v[_,rfl,h _ s' H' ys j r o p] ]
end
end
section
def SqE (K:Frag)(H:Hp)(l:QN)(xs:List V):Prop:=SqL K H l xs\/SqT K H l xs
def Inv.seqE {σ:St}(I:Inv X π σ H s)(h:SqE X.K H l xs):∃its,k8 xs its/\(s.heap.IsList l its.toArray\/IsTup s.heap l its.toArray)/\xs.length<=QX:=by
 rcases h with h | h
 .let(its,r,p,z):=I.list h;exact#v[its,r,.inl p.isList,z]
 .let(its,r,p,z):=I.tuple h;exact#v[its,r,.inr p,z]
def tSK (K:Frag)(P:QN)(q:Str)(cap:List Nat)(ta:TA)(te:TE):TE:=λh H Q=>ta h H λvs g=>∃l d,vs=[.ref l]/\SqE K g l d/\d.length<64/\eQ g P q /\
 ∀e,CU P q g e->eQ e P q->∀c,e c=some (cdO c q)->∃(J:Nat->Hp->Prop) (f:List V),f.length=d.length/\iw f/\SqE K e l d/\J 0 e/\(∀i b,J i b->b c=some (cdO c q)) /\
  (∀i v b,d[i]? = some v->J i b->te (dM v cap h) b λk m=>f[i]? = some k/\J (i+1) m) /\
  ∀a b j,J d.length b->b a=none->cT f d j->Q (.ref a) (upd b a<|.lst j)
end

section
section

def fR (ho:s.heap.get? a=some (seqObj "list" vs.toArray n))(h64:vs.length<=5000)(hR:bS vs.length)
  (hkind:2<=vs.length->∀h' Q,(∀b o,b≠a->s.heap.get? b=some o->h'.get? b=some o)->Q kd { s with heap:=h' }->Re (model prog w) A (keyKind' vs.toArray) Q E { s with heap:=h' })
  (hlt:∀h',(∀b o,b≠a->s.heap.get? b=some o->h'.get? b=some o)->fD prog w A { s with heap:=h' } kd (pairsOf vs) κ)
  (h:∀out p,out.size=vs.length->(∀i,i<vs.length->out.toList[i]? = vs[p i]?)->SoS κ p vs.length->P (.done<|.ret .none) { s with heap:=sortedHeap s.heap a vs out }) :
  Re (model prog w) A (Builtin.«list.sort» #v[[.ref a],[]]) P E s:=by
 rw[list_sort_plain];have v:a<( ~~~s):=pz ho;refine iD<|OG ho rfl<|iD (NB ho rfl ?_ (by rw[tG,xD];lia)<|CW _);obtain⟨f,q⟩:∃f,(s.heap.update a<|QZ.mapSeq λ_=>#[]).get? a=some (seqObj "list" #[] f):=#v[_,NS ho<|λ_=>#[]];refine iD<|seqEpoch_at q rfl<|iD (Ob (iD<|Oq ?_<|CW _) (by show vs.length<=_;rw[xD];lia));refine Ak ?_;have d:(((s.heap.update a<|QZ.mapSeq λ_=>#[]).push<|seqObj "tuple" vs.toArray 0).push<|seqObj "list" #[] 0).get? a=some (seqObj "list" #[] f):=by rwa[NG _ _ _ (by rw[size_push',Oi];exact uu<|FJ v),NG _ _ _ (by rw[Oi];exact uu v)]
 have s1:=DG s.heap a (QZ.mapSeq λ_=>(#[]:Array My));have kept:∀b o,b≠a->s.heap.get? b=some o->(((s.heap.update a<|QZ.mapSeq λ_=>#[]).push<|seqObj "tuple" vs.toArray 0).push<|seqObj "list" #[] 0).get? b=some o:=λb o y e=>jM _<|jM _<|(s1.2 b y).trans e
 show Re (model prog w) A _ P E { s with heap:=((s.heap.update a<|QZ.mapSeq λ_=>#[]).push<|seqObj "tuple" vs.toArray 0).push (seqObj "list" #[] 0) };dsimp only;have m:vs.toArray.size=vs.length:=by simp
 have fin:∀(c:SortSt) (p:Nat->Nat),(arrOf c).size=vs.length->(∀i,i<vs.length->(arrOf c)[i]? = (pairsOf vs)[p i]?)->SoS κ p vs.length->P (.done<|.ret .none) { s with heap:=sortedHeap s.heap a vs ((arrOf c).map (·.2)) }:=by intro c p l t r;refine h _ p (by rwa[Qb]) (λi g=>?_) r;rw[zS,Array.getElem?_map,t i g,<-zS,pairsOf_toList];have u:=r.2.2 i g;have f:vs[p i]? = some vs[p i]:=qK u;rw[show(vs.zip vs)[p i]? = some (vs[p i],vs[p i]) from EO.2 #v[f,f],f];rfl
 by_cases k:vs.toArray.size<2
 .rw[nY k,nY k];refine iD<|iO ?_;rw[StateT.run_pure];refine iD<|iO<|iD<|seqEpoch_at d rfl<|iD (NB d rfl ?_ (hsz2:=by rw[Qb];show(pairsOf vs).size<=_;rw[PN,xD];lia));simp only[Qt,xn];rw[m]at k;exact iO (fin (SortSt.mk' general' (vs.toArray.zip vs.toArray) #[] 7 none) id (PN vs) (λi _=>rfl) #v[λi j G F=>by lia,λi _=>rfl,λi g=>g])
 .rw[oj k,oj k];rw[m]at k;refine iD (hkind (by lia) _ _ kept ?_);refine iD (Dp (hR prog w A E _ (pairsOf vs) κ kd (SortSt.mk' kd (vs.toArray.zip vs.toArray) #[] 7 none)
   ( λ_ c=>failedOf c=none/\(arrOf c).size=(pairsOf vs).size/\∃p,(∀i,i<(pairsOf vs).size->(arrOf c)[i]? = (pairsOf vs)[p i]?)/\SoS κ p (pairsOf vs).size)
   (PN vs) (hlt _ kept) #v[#v[rfl,rfl,rfl,rfl],λi j _ _ e=>e,λi _=>rfl,λi g=>g] (by rw[PN];lia) λc C B z=>#v[C,B,z]) ?_ λ_ _ e=>e)
  rintro ⟨⟨⟩,c⟩ D ⟨rfl,x,l,p,t,r⟩;rw[PN]at l t r;refine iD<|seqEpoch_at d rfl<|iD (NB d rfl ?_ (hsz2:=by rw[Qb,l,xD];lia));rw[x];simp only[Qt,xn];exact iO<|fin c p l t r
def lL (hl:s.heap.IsList l vs.toArray)(h64:vs.length<=5000)(hR:bS vs.length)
  (hkind:2<=vs.length->∀h' Q,(∀b o,s.heap.get? b=some o->h'.get? b=some o)->Q kd { s with heap:=h' }->Re (model prog w) A.in1.in1 (keyKind' vs.toArray) Q E { s with heap:=h' })
  (hlt:∀h',(∀b o,s.heap.get? b=some o->h'.get? b=some o)->fD prog w A.in1.in1 { s with heap:=h' } kd (pairsOf vs) κ)
  (h:∀out p,out.size=vs.length->(∀i,i<vs.length->out.toList[i]? = vs[p i]?)->SoS κ p vs.length->Q (.ref<|~~~s+1) { s with heap:=sortedAll s.heap vs out }) :
  Re (model prog w) A (call (.builtin "sorted") [.ref l]) Q E s:=by
 refine Oy kind_sorted plain_sorted entry_sorted (args_sorted1 _)<|iD<|iO<|iD (collect_list hl (iD (Oq ?_ (by rw[xD];lia))) (by rw[xD];lia));have a:((s.heap.push<|seqObj "list" #[] 0).update (~~~s) (QZ.mapSeq (· ++ vs.toArray))).objs.size= ~~~s+1:=by rw[Oi,size_push']
 have c:(((s.heap.push<|seqObj "list" #[] 0).update (~~~s) (QZ.mapSeq (· ++ vs.toArray))).push<|seqObj "list" vs.toArray 0).get? (~~~s+1)=some (seqObj "list" vs.toArray 0):=by rw[<-a];exact ou _ rfl
 have keep:∀b o,s.heap.get? b=some o->(((s.heap.push<|seqObj "list" #[] 0).update (~~~s) (QZ.mapSeq (· ++ vs.toArray))).push<|seqObj "list" vs.toArray 0).get? b=some o/\b≠(~~~s)+1:=λb o q=>by have hlt:=pz q;refine#v[?_,uu<|FJ hlt];rwa[NG _ _ _ (by rw[a];exact uu<|FJ hlt),QW.get?_update_ne _ _ _ _<|uu hlt,NG _ _ _<|uu hlt]
 rw[a];refine iD (Ak (xw slot_list_sort #v[_,c,rfl] entry_list_sort (fR c h64 hR
  (λg h' Q d f=>hkind g h' Q (λb o e=>d b o (keep b o e).2 (keep b o e).1) f) (λh' d=>hlt h' λb o e=>d b o (keep b o e).2 (keep b o e).1) λout p n k j=>#v[_,rfl,iO #v[_,rfl,h out p n k j] ])<|args_list_sort _))
end
def rj (K:Frag)(H:Hp):List Int->List V->Prop
 | [],xs=>xs=[]
 | n::ns,xs=>∃t r a,xs = .ref t::a/\SqT K H t (.int n::r)/\rj K H ns a
theorem rj.len {K}:∀{ns} {xs},rj K H ns xs->xs.length=ns.length
 | [],_,h=>by cases h;rfl
 | n::ns,_,#v[t,r,ys,rfl,_,h]=>by simp[rj.len h]
theorem rj.get {K}{H}:∀{ns} {xs} {i:Nat} {n},rj K H ns xs->ns[i]? = some n->∃t r,xs[i]? = some (.ref t)/\SqT K H t (.int n::r)
 | [],_,_,_,_,e=>by simp at e
 | m::ns,_,0,n,#v[t,r,ys,rfl,h1,h],e=>by
  simp at e;subst e;exact#v[t,r,rfl,h1]
 | m::ns,_,i+1,n,#v[t,r,ys,rfl,h1,h],e=>by let(c,d,a,b):=h.get (by simpa using e);exact#v[c,d,by simpa using a,b]
section
variable {K:Qf}
def Io (K:Frag):List V->Hp->VK->Prop:=λe H Q=>∃(a:QN) (c:List V) (b:List Int),e=[.ref a]/\SqL K H a c/\rj K H b c/\b.Nodup/\b.length<64 /\
 ∀p d,H p=none->cT (b.map V.int) c d->Q (.ref p) (upd H p<|.lst d)
def sE (hK:X.K=K):w8 X (.builtin "sorted") (Io K):=by
 subst hK;rintro π s σ H xs us Q I r ⟨a,F,d,rfl,hq,hT,al,a6,q⟩;let(u,rfl,ru):=C5 r;cases ru;let(c,rv,p,hz):=I.list hq;have a5:=hT.len;have am:c.length=F.length:=rv.length.symm;have item:∀(i:Nat) (n:Int),d[i]? = some n->∃(t:QN) (o:QZ) (A:Array My) (k:Nat) (l:Tok),c[i]? = some (.ref t)/\s.heap.get? t=some o/\o.cls = .type "tuple" /\ o.data = .seq A k/\A[0]? = some (.int n l):=λi n e=>by
  let(t,r,S,e2):=hT.get e;let(u,e3,e4):=rv.get S;cases e4;obtain⟨A,ry,⟨o,ho,hc,k,hd⟩,_⟩:=I.tuple e2;cases ry with
  | cons Y r2 =>let(l,rfl):=Y;exact#v[t,o,_,k,l,e3,ho,hc,hd,by simp]
 have P:∀(D:QW),(∀b o,s.heap.get? b=some o->D.get? b=some o)->∀(R:List Int) (vs:List My),R.length=vs.length->(∀(i:Nat) (n:Int),R[i]? = some n->∃(t:QN) (o:QZ) (A:Array My) (k:Nat) (l:Tok),vs[i]? = some (.ref t)/\s.heap.get? t=some o/\o.cls = .type "tuple" /\ o.data = .seq A k/\A[0]? = some (.int n l)) ->
   ∃fs:List My,KatTups D vs fs/\fs.length=vs.length/\∀v∈fs,∃n t,v=My.int n t:=by
  intro D L R;induction R with
  | nil =>intro vs hl _;rw[Kf.1 hl.symm];exact#v[[],KatTups.nil,rfl,λv G=>by simp at G]
  | cons m R ih =>
   intro vs hl f;cases vs with
   | nil=>simp at hl
   | cons v vs =>
    let(t,o,A,k,l,S,e2,e3,e4,e5):=f 0 m rfl;cases S;let(fs,f1,f2,f3):=ih vs (by simpa using hl) λi n e=>by let(t,o,A,k,l,g1,g):=f (i+1) n (by simpa using e);exact#v[t,o,A,k,l,by simpa using g1,g]
    refine#v[.int m l::fs,KatTups.cons (L _ _ e2) e3 e4 e5 f1,by simp[f2],λv G=>?_];rcases oZ.1 G with rfl | G
    .exact#v[m,l,rfl]
    .exact f3 v G
 refine lL (kd:=tuples' true) (κ:=T2<|d.map V.int) p.isList (by lia) (tQ<|by lia) (λh2 D Q' L Z=>?_) (λD L=>?_) λB J a1 a2 a3=>?_
 .let(fs,f1,f2,f3):=P D L d c (by lia) item;refine kat_kind (T:=.type "int") f1 (by lia) (λv G=>?_) rfl Z;let(n,t,rfl):=f3 v G;exact .now
 .intro i j x y an ex ey E Q' Z;rw[<-zS,pairsOf_toList,EO]at ex ey;have f:i<d.length:=by have:=(pG.1 ex.1).1;lia
  have hj:j<d.length:=by have:=(pG.1 ey.1).1;lia
  let(t1,o1,O,k1,ac,b1,b2,b3,b4,W):=item i d[i]<|qK f;let(t2,o2,N,k2,ab,c1,c2,c3,c4,U):=item j d[j]<|qK hj;rw[b1]at ex;rw[c1]at ey;rw[<-rn ex.1,<-rn ey.1];have n1:T2 (d.map V.int) i=d[i]:=by unfold T2;rw[uE,sq,qK f];rfl
  have n2:T2 (d.map V.int) j=d[j]:=by unfold T2;rw[uE,sq,qK hj];rfl
  rw[n1,n2]at Z;refine kat_lt (L _ _ b2) b4 (L _ _ c2) c4 ?_;obtain⟨Y,a0⟩:∃Y,O.toList = .int d[i] ac::Y:=by
   cases e:O.toList with
   | nil=>rw[<-zS,e]at W;simp at W
   | cons z r=>rw[<-zS,e]at W;simp at W;exact#v[r,by rw[W]]
  obtain⟨r2,ap⟩:∃r2,N.toList = .int d[j] ab::r2:=by
   cases e:N.toList with
   | nil=>rw[<-zS,e]at U;simp at U
   | cons z r=>rw[<-zS,e]at U;simp at U;exact#v[r,by rw[U]]
  rw[a0,ap,Fo];refine kat_cons<|wpAny_eqBool_int ?_;have hb:(d[i] == d[j])=false:=by simpa using (λe=>an<|(Og al).1 e)
  rw[hb];refine kat_no<|oneLt_int Z
 .have C:=am.symm;let(e,he):=sortedAll_at s.heap c B;have w:((List.range c.length).map λi=>F.getD (J i) .non).length=c.length:=by rw[jI,xB]
  have M:∀i,i<c.length->((List.range c.length).map λi=>F.getD (J i) .non)[i]? = F[J i]?:=λi f=>by rw[sq,IE f];have a4:=a3.2.2 i f;show some (F.getD (J i) .non)=_;rw[uE,qK<|by lia];rfl
  have I1:Inv X π σ (upd H (~~~s+1)<|.lst<|(List.range c.length).map λi=>F.getD (J i) .non) { s with heap:=sortedAll s.heap c B,toks:=s.toks } :=
   I.laid (λb o ho=>sortedAll_old ho) (KD _) #v[by rw[w,xD];lia,B.toList,e,M9 (by rw[w,atl B,a1]) (λi x u hx hu=>by
    have f:i<c.length:=by have:=(pG.1 hx).1;rwa [w]at this
    rw[M i f]at hx;rw[a2 i f]at hu;let(u',g1,g2):=rv.get hx;rw[g1]at hu;rwa[<-rn hu]),by rw[he]]
  exact#v[.ref<|~~~s+1,_,I1,rfl,q _ _ (I.hok.fresh<|KD _) #v[by rw[w,C],J,by rwa[C],λi f=>M i<|by lia]]
end
end
end L2
namespace L2
def Q7 {α:Type}(p:Int × α):List (Int × α)->List (Int × α)
 | []=>[p]
 | q::r=>if p.1<=q.1 then p::q::r else q::Q7 p r
def v6 :List (Int × α)->List (Int × α)
 | []=>[]
 | p::r=>Q7 p<|v6 r
theorem pQ (f:α->β)(p):∀l,Q7 (p.1,f p.2) (l.map λq=>(q.1,f q.2))=(Q7 p l).map λq=>(q.1,f q.2)
 | []=>rfl
 | q::r=>by
  simp only[kX,Q7];split
  .rfl
  .rw[kX,pQ f p r]
theorem aC (f:α->β):∀l,v6 (l.map λq=>(q.1,f q.2))=(v6 l).map λq=>(q.1,f q.2)
 | []=>rfl
 | p::r=>by rw[kX,v6,v6,aC f r];exact pQ f p _
theorem Z7 (p):∀l:List (Int × α),(Q7 p l).Perm (p::l)
 | []=>.refl _
 | q::r=>by
  rw[Q7];split
  .exact .refl _
  .exact((Z7 p r).cons q).trans<|.swap p q r
theorem A0 :∀l:List (Int × α),(v6 l).Perm l
 | []=>.refl _
 | p::r=>(Z7 p _).trans<|(A0 r).cons p
def LxP (a b:Int×Nat):Prop:=a.1<b.1\/(a.1=b.1/\a.2<b.2)
theorem wL :∀{l},l.Pairwise LxP->(∀q∈l,p.2<q.2)->(Q7 p l).Pairwise LxP
 | [],_,_=>by simp[Q7]
 | q::r,h,hl=>by
  rw[xN]at h;rw[Q7];split
  .rename_i b;refine xN.2 #v[λz a=>?_,xN.2 h];have c:LxP p q:=by
    rcases OE b with e | e
    .exact .inl e
    .exact .inr #v[e,hl q ll]
   rcases oZ.1 a with rfl | a
   .exact c
   .have f:=h.1 z a;unfold LxP at c f ⊢;lia
  .rename_i d;refine xN.2 #v[λz a=>?_,wL h.2 λz a=>hl z<|kN _ a];rcases oZ.1 ((Z7 p r).mem_iff.mp a) with rfl | a
   .exact .inl (by lia)
   .exact h.1 z a
theorem lN:∀{l},l.Pairwise (λa b=>a.2<b.2)->(v6 l).Pairwise LxP
 | [],_=>.nil
 | p::r,h=>by rw[xN]at h;exact wL (lN h.2) λq c=>h.1 q<|(A0 r).mem_iff.mp c
theorem mj:∀{l₁ l₂:List (Int×Nat)},l₁.Perm l₂->l₁.Pairwise LxP->l₂.Pairwise LxP->l₁=l₂
 | [],l₂,p,_,_=>p.nil_eq
 | a::r,[],p,_,_=>by have:=p.length_eq;simp at this
 | a::r,b::t,p,h1,h2=>by
  rw[xN]at h1 h2;have g:a=b:=by
   rcases oZ.1 (p.mem_iff.1<|ll (l:=r)) with e | e
   .exact e
   .rcases oZ.1 (p.mem_iff.2<|ll (l:=t)) with c | c
    .exact c.symm
    .have f:=h2.1 a e;have d:=h1.1 b c;unfold LxP at f d;lia
  subst g;rw[mj (p.cons_inv) h1.2 h2.2]
theorem kq:∀n (l:List Nat),l.Nodup->(∀x∈l,x<n)->l.length=n->l.Perm (List.range n)
 | 0,l,_,_,hl=>by rw[Kf.1 hl];exact .refl _
 | n+1,l,d,f,hl=>by
  have c:∀m (l:List Nat),l.Nodup->(∀x∈l,x<m)->l.length<=m:=by
   intro m;induction m with
   | zero =>
    intro l _ f;cases l with
    | nil=>simp
    | cons a r=>exact absurd (f a ll) (by lia)
   | succ m h =>
    intro l d f;by_cases g:m∈l
    .have e:=h (l.erase m) (d.erase m) λx b=>by
      have j:=f x<|List.mem_of_mem_erase b;have i:x≠m:=λz=>by subst z;exact(List.Nodup.not_mem_erase d) b
      lia
     rw[List.length_erase_of_mem g]at e;lia
    .have e:=h l d λx b=>by
      have j:=f x b;have i:x≠m:=λz=>g<|z▸b
      lia
     lia
  have k:n∈l:=by
   by_cases g:n∈l
   .exact g
   .have e:=c n l d λx b=>by
     have j:=f x b;have i:x≠n:=λz=>g<|z▸b
     lia
    lia
  have h:=kq n (l.erase n) (d.erase n) (λx b=>by
   have j:=f x<|List.mem_of_mem_erase b;have i:x≠n:=λz=>by subst z;exact(List.Nodup.not_mem_erase d) b
   lia) (by rw[List.length_erase_of_mem k];lia)
  refine(List.perm_cons_erase k).trans<|(h.cons n).trans ?_;rw[List.range_succ];exact(List.perm_append_singleton n<|List.range n).symm
def ff (h:cT ks xs ys)(hl:ks.length=xs.length):ys=(v6<|(ks.map iH).zip xs).map Prod.snd:=by
 let(o,p,d,g):=h;generalize hn:xs.length=n at o d g hl;have m:((List.range n).map p).Nodup:=by
  rw[NC,Le];intro i j b f a;simp only[Mx,OH];intro e;have q:=d.1 i j a (by simpa using f);rw[e]at q;unfold Lx at q;lia
 have pr:=kq n ((List.range n).map p) m (λx r=>by let(i,b,rfl):=ue.1 r;exact d.2.2 i<|Iw.1 b) (by simp)
 have l:(((List.range n).map p).map λi=>(T2 ks i,i)).Pairwise LxP:=by
  rw[Le];intro i j b f a;simp only[Mx,OH];exact d.1 i j a (by simpa using f)
 have e:=mj ((pr.map λi=>(T2 ks i,i)).trans (A0 _).symm) l (lN (by rw[Le];intro i j b f a;simpa using a));have v:(ks.map iH).zip xs=((List.range n).map λi=>(T2 ks i,i)).map λq=>(q.1,xs.getD q.2 .non):=by
  refine List.ext_getElem? λi=>?_
  rw[sJ];by_cases b:i<n
  .rw[show((ks.map iH).zip xs)[i]? = some (T2 ks i,xs.getD i .non) from EO.2 #v[(by rw[sq];unfold T2;rw[uE,qK<|by lia];rfl),(by rw[uE,qK<|by lia];rfl) ],sq,IE b];rfl
  .rw[Ep (by rw[QJ,jI];lia),Ep (by simp;lia)]
 rw[v,aC<|λi=>xs.getD i .non,<-e,sJ,sJ,sJ];refine List.ext_getElem? λi=>?_
 by_cases b:i<n
 .rw[g i b,sq,IE b];have s:=d.2.2 i b;show xs[p i]? = some (xs.getD (p i) .non);rw[uE,qK<|by lia];rfl
 .rw[Ep (by lia),Ep (by simp;lia)]
end L2
namespace L3
open PySem
section
open Sem (wp)
structure SubKind prog w K [DecidableEq K] extends HeapKind prog w K where
 deep:Nat
 quietN:∀{A} {E} {s} {k} {a} {n} {Q},deep<=n->is s.heap k a->Q true s->Re (model prog w) A (eqIsQuiet n<|.ref a) Q E s
section
variable {prog:QP}{w:QQ}{K K2:Type}[DecidableEq K][DecidableEq K2](knd:KeyKind prog w K)(sub:SubKind prog w K2)(p:Nat->Bool)
inductive ItemsN (h:QW):Nat->List (K ⊕ K2)->List My->Prop
 | nil {j:Nat}:ItemsN h j [] []
 | val {j:Nat} {k:K} {v:My} {ks:List (K ⊕ K2)} {vs:List My}:p j=false->knd.is k v=true->ItemsN h (j+1) ks vs->ItemsN h j (.inl k::ks) (v::vs)
 | ref {j:Nat} {k:K2} {a:QN} {ks:List (K ⊕ K2)} {vs:List My}:p j=true->sub.is h k a->ItemsN h (j+1) ks vs->ItemsN h j (.inr k::ks) (.ref a::vs)
def L8 (h:QW)(ks:List (K ⊕ K2))(a:QN):Prop:=∃o items n,h.get? a=some o/\o.cls = .type "tuple" /\ o.data = .seq items n/\ItemsN knd sub p h 0 ks items.toList
variable {knd sub p}
def ItemsN.inj {vs} (hx:ItemsN knd sub p h j x vs)(hy:ItemsN knd sub p h j y vs):x=y:=by
 induction hx generalizing y with
 | nil=>cases hy;rfl
 | val e f _ d =>
  cases hy with
  | val a c b=>rw[knd.inj _ _ _ f c,d b]
  | ref a c b=>rw[e]at a;cases a
 | ref e f _ d =>
  cases hy with
  | val a c b=>rw[e]at a;cases a
  | ref a c b=>rw[sub.inj f c,d b]
def L8.typeIs {s:QO}(x:L8 knd sub p s.heap ks a):s.TypeIs (.ref a) "tuple":=let #v[o,_,_,b,c,_]:=x;#v[o,b,c]
def L8.inj {x y} (hx:L8 knd sub p h x a)(hy:L8 knd sub p h y a):x=y:=by
 let(o,items,n,g,_,j,i):=hx;let(f,c,l,d,_,b,e):=hy;obtain rfl:=rn<|g.symm.trans d;rw[j]at b;injection b with k _
 subst k;exact i.inj e
def ItemsN.keeps {d}{o}{es ep}{j}{ks}{vs} (x:ItemsN knd sub p h j ks vs)(ho:h.get? d=some o)(hd:o.data = .dict es ep)(hs:QW.SameBut d h h'):ItemsN knd sub p h' j ks vs:=by
 induction x with
 | nil=>exact .nil
 | val b c _ a=>exact .val b c a
 | ref b c _ a=>exact .ref b (sub.keeps c ho hd hs) a
def L8.keeps {ks}{a d}{o}{es ep}(x:L8 knd sub p h ks a)(ho:h.get? d=some o)(hd:o.data = .dict es ep)(hs:QW.SameBut d h h'):L8 knd sub p h' ks a:=by
 let(f,items,n,c,i,b,g):=x;exact#v[f,items,n,(hs.2 a (by rintro rfl;obtain rfl:=rn<|c.symm.trans ho;rw[hd]at b;exact nomatch b) ).trans c,i,b,g.keeps ho hd hs]
def ip (knd:KeyKind prog w K)(sub:SubKind prog w K2):K ⊕ K2->Int
 | .inl k=>knd.hash k
 | .inr k=>sub.hash k
def kz (sub:SubKind prog w K2):K ⊕ K2->Nat
 | .inl _=>1
 | .inr k=>sub.draws k
def bx (knd:KeyKind prog w K)(sub:SubKind prog w K2)(ks:List (K ⊕ K2)):Int:=reduceHash<|Builtin.Tuple.tupleHashOf<|ks.map<|ip knd sub

def pU (hu:A.units<Rl)(hr:sub.room A.in1)(hk:L8 knd sub p s.heap ks a)(h:Q (bx knd sub ks) { s with toks:=s.toks+((ks.map<|kz sub).sum+1) }) :
  Re (model prog w) A (PySem.pyHash<|.ref a) Q E s:=by
 have g:=hk.typeIs;let(o,items,n,m,_,r,q):=hk;first | unfold pyHashByItsType | skip
 first | refine iD (wpAny_cRoomFor_or (.inr hu) ?_) | skip
 refine iD<|NR g Pa.lookup ?_;rw[oj (by rw[beq_builtin_none];exact tN)];refine iD<|NR g Pa.lookup<|iD<|Oj g Pa<|xw Pa g F.entry_tuple_hash ?_<|F.args_tuple_hash_1 _;show Re _ _ (Builtin.Tuple.tupleItemsOf (.ref a) >>= _) _ _ s;refine iD<|Qk m r<|iD ?_;rw[<-Nt];refine Pt _
  (λc b i=>∃done left,ks=done++left/\ItemsN knd sub p s.heap done.length left c/\b.toList=done.map (ip knd sub)/\i={ s with toks:=s.toks+(done.map<|kz sub).sum })
  _ ?_ ?_ _ _ #v[[],ks,rfl,q,rfl,rfl]
 .rintro x c b i ⟨done,left,rfl,hl,f,rfl⟩;cases hl with
  | @val _ k _ d _ l j e =>refine iD<|knd.pyHash j<|iO #v[done++[.inl k],d,by simp,by simpa using e,by simp[f,ip],by simp[Pp,kz]]
  | @ref _ k a d _ l j e =>refine iD<|sub.pyHash hr j<|iO #v[done++[.inr k],d,by simp,by simpa using e,by simp[f,ip],by simp[Pp,kz]]
 .rintro b i ⟨done,left,rfl,hl,f,rfl⟩;cases hl;rw[Am]at h;show Re _ _ (retInt<|Builtin.Tuple.tupleHashOf b.toList) _ _ _;rw[f];refine wpAny_ret_mkInt ?_;show Re _ _ (if (decide (-(2) ^ 63<=Builtin.Tuple.tupleHashOf (done.map<|ip knd sub))&&decide (Builtin.Tuple.tupleHashOf (done.map<|ip knd sub)<2 ^ 63))=true then _ else _) Q E _;unfold bx reduceHash at h;by_cases hr:(decide (-(2) ^ 63<=Builtin.Tuple.tupleHashOf (done.map<|ip knd sub))&&decide (Builtin.Tuple.tupleHashOf (done.map<|ip knd sub)<2 ^ 63))=true
  .rw[nY hr];rw[nY hr]at h;exact iO (by simpa [Pp] using h)
  .rw[oj hr];rw[oj hr]at h;exact iD (JV<|iO<|by simpa [Pp] using h)
def nh (hr:sub.room A)(hx:L8 knd sub p s.heap x a)(hy:L8 knd sub p s.heap y b)(h:P (.done<|.ret<|.bool<|decide (x=y)) s) :
  Re (model prog w) A (Builtin.«tuple.__eq__» #v[[.ref a,.ref b],[]]) P E s:=by
 have Z:=hy.typeIs;let(oa,N,na,T,_,Y,V):=hx;let(ob,L,nb,S,_,X,U):=hy;show Re _ _ (isInstance (.ref b) (.type "tuple") >>= _) _ _ s;refine iD<|KY Z isSubtype_tuple_tuple ?_;simp only[NP,xn];refine iD<|Qk T Y<|iD<|Qk S X<|iD<|Pt _
  (λB r Q=>r.1=none/\Q=s/\∃j O M o m,B=List.zip o m/\ItemsN knd sub p s.heap j O o/\ItemsN knd sub p s.heap j M m/\decide (O=M)=decide (x=y)/\(o.length == m.length)=(N.size == L.size))
  _ ?_ ?_ _ _ #v[rfl,rfl,0,x,y,N.toList,L.toList,rfl,V,U,rfl,by simp]
 .rintro ⟨u,v⟩ B r Q ⟨F,rfl,j,O,M,o,m,l,D,k,c,i⟩;cases D with
  | nil=>simp at l
  | @val _ H u' q n R h1 z =>
   cases k with
   | nil=>simp at l
   | @ref _ C b' f d g J e=>rw[R]at g;cases g
   | @val _ C v' f d g J e =>
    simp only[Fo,List.cons.injEq]at l;obtain⟨⟨rfl,rfl⟩,rfl⟩:=l;refine iD<|knd.eqBool h1 J ?_;by_cases G:H=C
    .subst G;rw[xq rfl];simp only[NP,xn];refine iO #v[rfl,rfl,j+1,q,f,n,d,rfl,z,e,?_,by simpa using i];rw[<-c];by_cases t:q=f
     .simp[t]
     .simp[t]
    .rw[yb G];simp only[Bool.not_false,Bc];have W:decide (x=y)=false:=by rw[<-c];simp[G]
     rw[W]at h;exact iD<|iO<|iO<|iO h
  | @ref _ H a' q n R h1 z =>
   cases k with
   | nil=>simp at l
   | @val _ C v' f d g J e=>rw[R]at g;cases g
   | @ref _ C b' f d g J e =>
    simp only[Fo,List.cons.injEq]at l;obtain⟨⟨rfl,rfl⟩,rfl⟩:=l;refine iD<|sub.eqBool hr h1 J ?_;by_cases G:H=C
    .subst G;rw[xq rfl];simp only[NP,xn];refine iO #v[rfl,rfl,j+1,q,f,n,d,rfl,z,e,?_,by simpa using i];rw[<-c];by_cases t:q=f
     .simp[t]
     .simp[t]
    .rw[yb G];simp only[Bool.not_false,Bc];have W:decide (x=y)=false:=by rw[<-c];simp[G]
     rw[W]at h;exact iD<|iO<|iO<|iO h
 .rintro ⟨r1,r2⟩ Q ⟨F,rfl,j,O,M,o,m,l,D,k,c,i⟩;simp only at F;subst F;refine iO ?_;have I:(N.size == L.size)=decide (x=y):=by
   rw[<-c,<-i];cases D with
   | nil =>
    cases k with
    | nil=>simp
    | val _ _ _=>simp
    | ref _ _ _=>simp
   | val _ _ _ =>
    cases k with
    | nil=>simp
    | val _ _ _=>simp at l
    | ref _ _ _=>simp at l
   | ref _ _ _ =>
    cases k with
    | nil=>simp
    | val _ _ _=>simp at l
    | ref _ _ _=>simp at l
  show P (.done<|.ret<|.bool<|N.size == L.size) Q;rwa[I]
def qW (hu:A.units<Rl)(hr:sub.room A.in1)(hx:L8 knd sub p s.heap x a)(hy:L8 knd sub p s.heap y b)(h:Q (decide (x=y)) s) :
  Re (model prog w) A (PySem.eqBool (.ref a)<|.ref b) Q E s:=by
 unfold PySem.eqBool;try with_reducible refine Ak ?_
 by_cases c:(My.ref a == My.ref b)=true
 .rw[nY c];have e:a=b:=by have:=eq_of_beq c;injection this
  subst e;obtain rfl:=hx.inj hy;exact iD (JV<|iO<|by simpa using h)
 .rw[oj c];refine iD (wpAny_richCompare_same_room hx.typeIs hy.typeIs F.slot_tuple_eq
   (xw F.slot_tuple_eq hx.typeIs F.entry_tuple_eq (nh ?rm hx hy #v[_,rfl,(λe=>nomatch e),Kl h])<|F.args_tuple_eq_2 _ _) hu)
  case rm=>exact hr
def kH (hn:sub.deep+1<=n)(hk:L8 knd sub p s.heap ks a)(h:Q true s):Re (model prog w) A (eqIsQuiet n<|.ref a) Q E s:=by
 have i:=hk.typeIs;let(o,items,m,q,_,u,t):=hk;obtain⟨n,rfl⟩:∃k,n=k+1:=#v[n-1,by lia];unfold eqIsQuiet;refine iD<|NR i F.slot_tuple_eq.lookup<|iD<|KY i isSubtype_tuple_tuple ?_;simp only[xn];refine iD<|Ej q u<|iD ?_;rw[<-Nt];refine Pt _ (λb r d=>r.1=none/\d=s/\∃j ks,ItemsN knd sub p s.heap j ks b) _ ?_ ?_ _ _ #v[rfl,rfl,0,ks,t]
 .rintro v b r d ⟨f,rfl,j,ks,c⟩;cases c with
  | val l g e =>rw[eqIsQuiet_byValue _<|knd.byValue _ _ g];refine iD<|iO ?_;simp only[NP];exact iO #v[rfl,rfl,_,_,e]
  | ref l g e =>refine iD (sub.quietN (by lia) g ?_);simp only[NP];exact iO #v[rfl,rfl,_,_,e]
 .rintro ⟨y,x⟩ d ⟨f,rfl,_⟩;simp only at f;subst f;exact iO h
end
def AY {K K2}[DecidableEq K][DecidableEq K2](knd:KeyKind prog w K)(sub:SubKind prog w K2)(p:Nat->Bool)(hd:sub.deep<8):SubKind prog w (List<|K ⊕ K2) where
 is:=L8 knd sub p
 hash:=bx knd sub
 draws:=λe=>(e.map<|kz sub).sum+1
 room:=λA=>A.units<Rl/\sub.room A.in1
 inj:=λd c=>d.inj c
 keeps:=λx g hd f=>x.keeps g hd f
 pyHash:=λa b h=>pU a.1 a.2 b h
 eqBool:=λa d c h=>qW a.1 a.2 d c h
 quiet:=λb h=>kH (by lia) b h
 deep:=sub.deep+1
 quietN:=λi b h=>kH i b h
end
section
open Sem (wp)
def bIn (b:Bool):Int:=if b then 1 else 0
def bf (i:Int):My->Bool
 | .int j _=>j == i
 | .bool b=>bIn b == i
 | _=>false
def N2 (h:bf i v=true):(∃t,v = .int i t)\/∃b,v = .bool b/\bIn b=i:=by
 cases v with
 | int j t=>exact .inl #v[t,by simp[bf]at h;rw[h]]
 | bool b=>exact .inr #v[b,rfl,by simpa [bf] using h]
 | _=>simp[bf]at h
section

def pM (h:Q (hashInt<|bIn b) { s with toks:=s.toks+1 }):Re (model prog w) A (PySem.pyHash<|.bool b) Q E s:=by
 have a:=rawHash_range<|bIn b;have c:[My.bool b].any My.onHeap=false:=rfl;refine iD ?_;rw[cRoomFor,oj (by rw[c];exact tN)];refine iO<|iD<|NR (typeIs_bool s b) Pu.lookup ?_;rw[oj (by rw[beq_builtin_none];exact tN)];refine iD<|NR (typeIs_bool s b) Pu.lookup<|iD (Oj (typeIs_bool s b) Pu
  (xw Pu (typeIs_bool s b) entry_int_hash
   (wpAny_ret_mkInt ?_) (args_int_hash _)))
 show Re _ _ (if (decide (-(2) ^ 63<=rawHash (bIn b))&&decide (rawHash (bIn b)<2 ^ 63))=true then _ else _) Q E _;rw[nY (by rw[xq a.1,xq a.2];rfl)];exact iO h
end
def vo (prog) (w):PySem.KeyKind prog w Int where
 is:=bf
 hash:=hashInt
 inj:=λv a b i f=>by
  rcases N2 i with ⟨t,rfl⟩ | ⟨x,rfl,rfl⟩
  .simpa [bf] using f
  .simpa [bf] using f
 byValue:=λk v h=>by rcases N2 h with ⟨t,rfl⟩ | ⟨x,rfl,rfl⟩ <;> rfl
 pyHash:=λc h=>by
  rcases N2 c with ⟨t,rfl⟩ | ⟨x,rfl,rfl⟩
  .exact wpAny_pyHash_int h
  .exact pM h
 eqBool:=λ{A E s a b u v Q} g c h=>by
  have j:∀x y:Int,(x == y)=decide (x=y):=λx y=>by by_cases e:x=y <;> simp[e]
  rw[<-j]at h;rcases N2 g with ⟨t,rfl⟩ | ⟨x,rfl,rfl⟩
  .rcases N2 c with ⟨d,rfl⟩ | ⟨y,rfl,rfl⟩
   .exact wpAny_eqBool_int h
   .exact SeqAt.EqAt.int_bool a t y _ _ _ _ h
  .rcases N2 c with ⟨d,rfl⟩ | ⟨y,rfl,rfl⟩
   .exact SeqAt.EqAt.bool_int x b d _ _ _ _ h
   .refine SeqAt.EqAt.bool_bool x y _ _ _ _ ?_;have:(bIn x == bIn y)=(x == y):=by cases x <;> cases y <;> rfl
    rw[<-this];exact h
 «strs»:=λk x t v h=>by simp[bf]at h
end
end L3
namespace L3
open PySem PySem.Spec PyProof.Rows L2

section
section
variable {K:Type}[DecidableEq K]
def dA (kind:SubKind P w K)(a:QN)(xs:List (K×QN×V)):QW->Prop:=λh=>xs.length<=QX/\(a == sysModules)=false/\∃b,
 Paired (λp q=>p.1=q.1/\p.2.1=q.2.1/\l4 p.2.2 q.2.2) xs b /\
 ∃o c d,h.get? a=some o/\o.ExactDict/\o.data = .dict c d/\c.toList=b.map (entryOfKey kind.toHeapKind)/\(b.map (·.1)).Nodup
variable {P:QP}{w:QQ}{kind:SubKind P w K}{xs:List (K×QN×V)}
def dA.dict (d:dA kind a xs h)(hk:∀x∈xs,kind.is h x.1 x.2.1):xs.length<=QX/\(a == sysModules)=false/\∃vs,
  Paired (λp q=>p.1=q.1/\p.2.1=q.2.1/\l4 p.2.2 q.2.2) xs vs/\h.DictOfH kind.toHeapKind a vs:=by
 let(z,y,vs,r,o,m,n,l,k,j,g,f):=d;refine#v[z,y,vs,r,o,m,n,l,k,j,g,?_,f];clear g f z;induction r with
 | nil=>intro x b;cases b
 | @cons p q u s c t i =>
  intro x b;rcases oZ.1 b with e | b
  .subst e;rw[<-c.1,<-c.2.1];exact hk p ll
  .exact i (λx b=>hk x<|kN _ b) x b
def oW (xs:List (K×QN×V))(k:K):Option V:=(xs.find? λx=>decide (x.1=k)).map (·.2.2)
def jH (xs:List (K×QN×V))(k:K)(b:QN)(v:V):List (K×QN×V):=if (oW xs k).isSome then xs.map (λx=>if x.1=k then(x.1,x.2.1,v) else x) else xs++[(k,b,v)]
abbrev PV (xs:List (K×QN×V))(vs:List (K×QN×My)):Prop:=Paired (λp q=>p.1=q.1/\p.2.1=q.2.1/\l4 p.2.2 q.2.2) xs vs
def PV.val (r:PV xs vs)(k):fU (oW xs k) ((atKey vs k).map (·.2)):=by
 unfold oW atKey;induction r with
 | nil=>exact True.intro
 | @cons p q d c a t b =>
  rw[Lo,Lo,a.1];by_cases e:q.1=k
  .rw[xq e];exact a.2.2
  . rwa[yb e]
def PV.repl (r:PV xs vs)(k)(ry:l4 y u):PV (xs.map λx=>if x.1=k then(x.1,x.2.1,y) else x) (vs.map<|putAt k u):=by
 induction r with
 | nil=>exact .nil
 | @cons p q g f h t c =>
  rw[kX,kX];refine .cons ?_ c;let(a,b,d):=h;unfold putAt;by_cases e:p.1=k
  .rw[nY e,nY<|a.symm.trans e];exact#v[a,b,ry]
  .rw[oj e,oj<|λz=>e<|a.trans z];exact#v[a,b,d]
def PV.put (r:PV xs vs)(k)(ry:l4 y u):PV (jH xs k b y) (storedH vs k b u):=by
 have e:(oW xs k).isSome=(atKey vs k).isSome:=by rw[(PV.val r k).isSome_eq,NF]
 unfold jH storedH;rw[e];by_cases q:(atKey vs k).isSome=true
 .rw[nY q,nY q];exact PV.repl r k ry
 .rw[oj q,oj q];exact Paired.snoc r #v[rfl,rfl,ry]
def ky (xs) (k:K)(b) (v):(jH xs k b v).length<=xs.length+1:=by
 unfold jH;split
 .rw[jI];lia
 .simp
def dA.obj (d:dA kind a xs h):x5 P w H h a (.ext<|dA kind a xs):=by refine#v[d,let #v[_,_,_,_,o,_,_,e,_]:=d;#v[o,e],λj i d k=>?_];let(z,y,b,r,o,f,g,e,c):=d;exact#v[z,y,b,r,o,f,g,k o e,c]
end
section
variable {K:Type}[DecidableEq K]{X:Cx}{kind:SubKind X.prog X.w K}{σ:L2.St}
def EM (I:Inv X π σ H s)(e:H a=some (.ext<|dA kind a xs)):dA kind a xs s.heap:=(I.hok a _ e).1
def xo (hu:kind.room A.in1)(I:Inv X π σ H s)(e:H a=some (.ext<|dA kind a xs))(hk:∀x∈xs,kind.is s.heap x.1 x.2.1)(kb:kind.is s.heap k b)(g:oW xs k=some v)(h:∀w' s',Inv X π σ H s'->l4 v w'->Q w' s') :
  Re (model X.prog X.w) A (getItem (.ref a)<|.ref b) Q E s:=by let(z,n,i,d,m):=(EM I e).dict hk;let(w',j,c):=fU.some_of (by rw[<-g];exact PV.val d k);let(p,l,f):=sA.1 j;refine wpAny_getItem_heap hu kb m l ?_;rw[f];exact h w' _ (I.tok _) c
def xV (hu:kind.room A.in1)(I:Inv X π σ H s)(e:H a=some (.ext<|dA kind a xs))(hk:∀x∈xs,kind.is s.heap x.1 x.2.1)(kb:kind.is s.heap k b)(hl:xs.length<QX)(rv:l4 v r)(h:∀s',Inv X π σ (upd H a<|.ext<|dA kind a<|jH xs k b v) s'->Q () s') :
  Re (model X.prog X.w) A (setItem (.ref a) (.ref b) r) Q E s:=by
 let(z,m,g,c,B):=(EM I e).dict hk;have j:g.length<=QX:=by rwa[<-Lq c]
 refine wpAny_setItem_heap hu kb B λu d l=>h _ ?_
 let(q,w,y,f,t,p,o,_,n):=d;have i:dA kind a (jH xs k b v) u:=#v[by have:=ky xs k b v;lia,m,_,PV.put c k rv,q,w,y,f,t,p,o,n];exact U0 I (by rw[e];exact True.intro) l #v[q,f] i.obj
end
end
section
structure NKey where
 K:Type
 dec:DecidableEq K
 kind:∀P w,SubKind P w K
 hsh:K->Int
 hs:∀P w k,(kind P w).hash k=hsh k
 dp:Nat
 hdp:∀P w,(kind P w).deep=dp
 At:Qf->Hp->K->QN->Prop
 ok:∀{X} {π} {σ:L2.St} {H} {s} {k} {b},Inv X π σ H s->At X.K H k b->(kind X.prog X.w).is s.heap k b
 keeps:∀{L} {H H'} {k} {b},At L H k b->(∀c xs,SqT L H c xs->SqT L H' c xs)->At L H' k b
 room:∀P w A,A.units+dp<Rl->(kind P w).room A
instance (κ:NKey):DecidableEq κ.K:=κ.dec
def LJ (P) (w):SubKind P w Empty where
 is:=λ_ _ _=>False
 hash:=λk=>k.elim
 draws:=λk=>k.elim
 room:=λ_=>True
 inj:=λh=>h.elim
 keeps:=λh=>h.elim
 pyHash:=λ_ h=>h.elim
 eqBool:=λ_ h=>h.elim
 quiet:=λh=>h.elim
 deep:=0
 quietN:=λ_ h=>h.elim
def GL :NKey where
 K:=Empty
 dec:=inferInstance
 kind:=LJ
 hsh:=λk=>k.elim
 hs:=λ_ _ k=>k.elim
 dp:=0
 hdp:=λ_ _=>rfl
 At:=λ_ _ _ _=>False
 ok:=λ_ h=>h.elim
 keeps:=λh=>h.elim
 room:=λ_ _ _ _=>True.intro
section
variable (κ:NKey)(p:Nat->Bool)
inductive VKeys (L:Qf) (H:Hp):Nat->List (Int ⊕ κ.K)->List V->Prop
 | nil {j:Nat}:VKeys L H j [] []
 | int {j:Nat} {i:Int} {ks:List (Int ⊕ κ.K)} {vs:List V}:p j=false->VKeys L H (j+1) ks vs->VKeys L H j (.inl i::ks) (.int i::vs)
 | bl {j:Nat} {b:Bool} {ks:List (Int ⊕ κ.K)} {vs:List V}:p j=false->VKeys L H (j+1) ks vs->VKeys L H j (.inl (bIn b)::ks) (.bl b::vs)
 | ref {j:Nat} {k:κ.K} {a:QN} {ks:List (Int ⊕ κ.K)} {vs:List V}:p j=true->κ.At L H k a->VKeys L H (j+1) ks vs->VKeys L H j (.inr k::ks) (.ref a::vs)
variable {κ p}
def VKeys.keeps {j}{ks}{vs} (x:VKeys κ p L H j ks vs)(hk:∀c xs,SqT L H c xs->SqT L H' c xs):VKeys κ p L H' j ks vs:=by
 induction x with
 | nil=>exact .nil
 | int b _ a=>exact .int b a
 | bl b _ a=>exact .bl b a
 | ref b d _ a=>exact .ref b (κ.keeps d hk) a
def VKeys.items {σ:L2.St}(ok:Inv X π σ H s)(x:VKeys κ p X.K H j ks vs):∀{us},k8 vs us->ItemsN (vo X.prog X.w) (κ.kind X.prog X.w) p s.heap j ks us:=by
 induction x with
 | nil=>intro us r;cases r;exact .nil
 | @int j i ks vs g _ f =>
  intro us r;cases r with
  | cons d c =>let(t,e):=(d);subst e;exact .val g (show bf i (.int i t)=true by simp[bf])<|f c
 | @bl j b ks vs g _ f =>
  intro us r;cases r with
  | cons d c =>cases(d);exact .val g (show bf (bIn b) (.bool b)=true by simp[bf])<|f c
 | @ref j k a ks vs g h _ f =>
  intro us r;cases r with
  | cons d c =>cases(d);exact .ref g (κ.ok ok h)<|f c
end
def Dn (κ:NKey)(p:Nat->Bool)(hd:κ.dp<8):NKey where
 K:=List<|Int ⊕ κ.K
 dec:=inferInstance
 kind:=λP w=>AY (vo P w) (κ.kind P w) p (by rw[κ.hdp];exact hd)
 hsh:=λc=>reduceHash (Builtin.Tuple.tupleHashOf (c.map λk=>match k with | .inl i=>hashInt i | .inr k=>κ.hsh k))
 hs:=λP w c=>by
  show bx _ _ c=_;unfold bx;congr 2;refine Br λk _=>?_
  cases k with
  | inl i=>rfl
  | inr k=>exact κ.hs P w k
 dp:=κ.dp+1
 hdp:=λP w=>by show(κ.kind P w).deep+1=_;rw[κ.hdp]
 At:=λL H c b=>∃a,SqT L H b a/\VKeys κ p L H 0 c a
 ok:=λ{X π l H s k b} I #v[a,e,x]=>by obtain⟨d,r,⟨o,j,h,n,g⟩,_⟩:=I.tuple e;exact#v[o,d.toArray,n,j,h,g,by simpa using x.items I r]
 keeps:=λ#v[a,e,x] f=>#v[a,f _ _ e,x.keeps f]
 room:=λP w A m=>#v[by lia,κ.room P w A.in1 (by show A.units+1 + κ.dp<Rl;lia)]
def ai :NKey:=Dn GL (λ_=>false) (by decide)
def bQ :NKey:=Dn ai (λ_=>true) (by decide)
def nX :NKey:=Dn bQ (λj=>j == 0) (by decide)
end
section
def NDi (κ:NKey)(a:QN)(xs:List (κ.K×QN×V)):QW->Prop:=λh=>xs.length<=QX/\(a == sysModules)=false/\∃b,
 Paired (λp (q:κ.K×QN×My)=>p.1=q.1/\p.2.1=q.2.1/\l4 p.2.2 q.2.2) xs b /\
 ∃o c d,h.get? a=some o/\o.ExactDict/\o.data = .dict c d/\c.toList=b.map (λq=>(#v[κ.hsh q.1,.ref q.2.1,q.2.2]:DictEntry))/\(b.map (·.1)).Nodup
def dH (κ) (P) (w) (a) (xs):NDi κ a xs=dA (κ.kind P w) a xs:=by
 funext h;unfold NDi dA;have e:(λq=>(#v[κ.hsh q.1,.ref q.2.1,q.2.2]) )=entryOfKey (κ.kind P w).toHeapKind:=by funext q;unfold entryOfKey;rw[κ.hs P w]
 rw[e]
def Fp (κ:NKey)(L:Qf)(H:Hp)(a:QN)(y:V)(o:Option V):Prop:=∃(c:List (κ.K×QN×V)) (k:κ.K) (b:QN),H a=some (.ext<|NDi κ a c)/\(∀x∈c,κ.At L H x.1 x.2.1)/\y = .ref b /\ κ.At L H k b/\o=oW c k
def EC (κ:NKey)(L:Qf)(H:Hp)(a:QN)(y v:V)(H':Hp):Prop:=∃(c:List (κ.K×QN×V)) (k:κ.K) (b:QN),H a=some (.ext<|NDi κ a c)/\(∀x∈c,κ.At L H x.1 x.2.1)/\y = .ref b /\ κ.At L H k b/\c.length<QX/\H'=upd H a (.ext<|NDi κ a<|jH c k b v)
def HH (κ:NKey):TE:=λ_ H Q=>∀p,H p=none->(∃h,NDi κ p [] h)->Q (.ref p) (upd H p<|.ext<|NDi κ p [])
def Ho (κ:NKey)(L:Qf)(td ty:TE):TE:=λb H Q=>td b H λx d=>ty b d λy c=>∃a v,x = .ref a/\Fp κ L c a y (some v)/\Q v c
def Hh (κ:NKey)(L:Qf)(td ty tv:TE):TS:=λD b H=>tv b H λv g=>td b g λx f=>ty b f λy e=>∃a c,x = .ref a/\EC κ L e a y v c/\((∀d,c a=some (.ext d)->∃h,d h)->D.nx b c)
def Aa (κ:NKey)(L:Qf)(td ty tx:TE):TE:=λb H Q=>td b H λx d=>∃a e,x = .ref a/\d a=some (.ext<|NDi κ a e)/\ty b d λy f=>tx b f λz c=>∃o,Fp κ L c a y o/\Q (o.getD z) c
section
variable {κ:NKey}{X:Cx}{σ:L2.St}{A:QR}
def fc (I:Inv X π σ H s)(e:H a=some (.ext<|NDi κ a xs)):NDi κ a xs s.heap:=(I.hok a _ e).1
def AO (I:Inv X π σ H s)(e:H a=some (.ext<|NDi κ a xs)):s.TypeIs (.ref a) "dict" /\ (∀b,My.ref a = .ref b->∃ob,s.heap.get? b=some ob/\ob.dict=none)/\(a == sysModules)=false:=by let(z,f,g,r,o,h,i,d,c,_):=fc I e;refine#v[#v[o,d,c.1],λb q=>?_,f];cases q;exact#v[o,d,c.2.1]
def CK (hu:A.units+9<Rl)(hd:κ.dp<=8):(κ.kind X.prog X.w).room A.in1:=κ.room _ _ _ (by lia)
def sR (hu:A.units+9<Rl)(hd:κ.dp<=8)(I:Inv X π σ H s)(g:EC κ X.K H a y v H')(ry:l4 y u)(rv:l4 v r)(h:∀s',Inv X π σ H' s'->Q () s') :
  Re (model X.prog X.w) A (setItem (.ref a) u r) Q E s:=by let(xs,k,b,e,d,rfl,kb,hl,rfl):=g;cases(ry);rw[dH κ X.prog X.w]at e h;exact xV (CK hu hd) I e (λx c=>κ.ok I<|d x c) (κ.ok I kb) hl rv h
def DQ (hu:A.units+9<Rl)(hdp:κ.dp<=8)(I:Inv X π σ H s)(g:Fp κ X.K H a y o)(ry:l4 y u)(rd:l4 d r)(h:∀w' s',Inv X π σ H s'->l4 (o.getD d) w'->Q w' s') :
  Re (model X.prog X.w) A (call (.builtin "dict.get") [.ref a,u,r]) Q E s:=by
 let(xs,k,b,e,m,rfl,kb,l):=g;cases(ry);rw[dH κ X.prog X.w]at e;let(z,n,i,c,f):=(EM I e).dict λx j=>κ.ok I<|m x j
 refine call_meetsIn Oc f.typeIs PySem.F.entry_dict_get (PySem.F.args_dict_get_3 _ _ _) (meetsH_dict_get_default (κ.kind X.prog X.w).toHeapKind a b n r) #v[CK hu hdp,k,i,κ.ok I kb,f,h _ _ (I.tok _) ?_];rw[l];exact(PV.val c k).getD rd
end
section

def oh {σ:L2.St}(I:Inv X π σ H s):NDi κ (~~~s) [] (s.heap.push { cls:=.type "dict",data:=.dict #[] }) :=
 #v[CW _,Me.2<|DO<|uu I.big,[],.nil,_,#[],0,ou _ rfl,#v[rfl,rfl,rfl],rfl,rfl,OP]
end
end
end L3
namespace L3
open PySem PySem.Spec PyProof.Rows L2 PySem.W
def K9 (h:QW)(d:QN)(es:Array DictEntry)(ep:Nat):Prop:=∃o,h.get? d=some o/\o.ExactDict/\o.data = .dict es ep

def K9.at' (x:K9 h d es ep)(e:∀o,h.get? d=some o->h'.get? d=some o):K9 h' d es ep:=let #v[o,a,r]:=x;#v[o,e _ a,r]
def K9.typeIs {s:QO}(x:K9 s.heap d es ep):s.TypeIs (.ref d) "dict":=let #v[o,a,b,_]:=x;#v[o,a,b.1]
section

def Dw (hd:(d == sysModules)=false)(hm:K9 s.heap d es ep)
  (hQ:Q (.ref (~~~s)) { s with heap:=s.heap.push { cls:=.type "dict_keyiterator",data:=.fields #[.ref d,.int 0 0,.int es.size 0,.int ep 0] } }) :
  Re (model prog w) A (pyIter<|.ref d) Q E s:=by have b:=hm.typeIs;let(o,c,e,a):=hm;refine Pb b PySem.F.slot_dict_iter<|xw PySem.F.slot_dict_iter b PySem.F.entry_dict_iter ?_<|PySem.F.args_dict_iter_1 _;refine iD<|iD<|Px b<|iO ?_;show Re _ _ (Builtin.Dict.showsAll d >>= _) _ _ s;unfold Builtin.Dict.showsAll;rw[oj (by rw[hd];exact tN)];refine iD<|iO<|iD<|EE c a<|iD<|HR c a<|iD<|xI<|iO #v[_,rfl,"dict_keyiterator",_,#v[_,ou _ rfl,rfl],HP.lookup,?_];simpa [rawInt] using hQ
def Ca (hit:s.heap.IsKeyIter it d i es.size ep)(hm:K9 s.heap d es ep)(hlt)
  (hQ:∀h',h'.IsKeyIter it d (i+1) es.size ep->QW.SameBut it s.heap h'->Q (some es[i].key) { s with heap:=h' }):Re (model prog w) A (pyNext<|.ref it) Q E s:=by
 let(o,f,h,e):=id hit;let(j,b,g,c):=hm;refine iD (Fq (xW hit.typeIs HP
  (xw HP hit.typeIs OQ (iD<|iO<|iD<|iD ?_)<|OI _)));first | refine iD (Lr hit.typeIs<|iO ?_) | refine iD<|NI hit.typeIs<|iO ?_
 refine iD<|MC f e ?_;simp only[xn];show Re _ _ (if (My.ref d == My.none)=true then _ else _) _ _ s;rw[oj<|show ¬((My.ref d == My.none)=true) from tN];refine iD<|iO<|iD<|EE b c ?_;rw[oj<|by simp];refine iD<|iO<|iD<|HR b c ?_;rw[oj<|by simp];refine iO ?_;simp only[yz,yB,IU hlt];refine iD ?_;first | refine iD (Lr hit.typeIs<|iO ?_) | refine iD<|NI hit.typeIs<|iO ?_
 refine iD<|wpAny_isOneOf_keyiter hit.typeIs ?_;show Re _ _ (setField (.ref it) 1 (rawInt<|i+1) >>= _) _ _ s;refine iD (MH f e (by simp) ?_);have a:(s.heap.update it (QZ.mapFields (·.setIfInBounds 1 (rawInt<|i+1)))).IsKeyIter it d (i+1) es.size ep :=
  #v[_,FC _ f<|Py<|Nu e _,(QZ.cls_mapFields ..).trans h,by rw[Nu e];simp[rawInt]]
 refine iD<|Ak<|iD (wpAny_isOneOf_keyiter a.typeIs (iO<|iO #v[_,rfl,iO<|hQ _ a<|DG ..]) )
def xU (hh:A.handled=none)(I d) (hne:d≠I)(es) (ep) :
  Walks prog w A I [I,d] [I] es.size (λi v=>∃h,v=es[i].key) (λi h=>h.IsKeyIter I d i es.size ep/\K9 h d es ep) where
 sub:=λb c=>by simp at c;simp[c]
 frame:=λ_ _ _ st r=>#v[st.1.at λo e=>r I (by simp) o e,st.2.at' λo e=>r d (by simp) o e]
 item:=λi s Q E t st l=>Ca st.1 st.2 t λp j f=>l _ p s.toks #v[t,rfl] #v[j,st.2.at' λo e=>f.extBut d o hne e] λb o c e=>f.extBut b o (λh=>c<|by simp[h]) e
 done:=λs Q E st l=>(by
  let(o,q,z,u):=id st.1;let(y,g,x,k):=st.2;refine iD (Fq (xW st.1.typeIs HP
   (xw HP st.1.typeIs OQ (iD<|iO<|iD<|iD ?_)<|OI _)));first | refine iD (Lr st.1.typeIs<|iO ?_) | refine iD (NI st.1.typeIs<|iO ?_)
  refine iD<|MC q u ?_;simp only[xn];show Re _ _ (if (My.ref d == My.none)=true then _ else _) _ _ s;rw[oj<|show ¬((My.ref d == My.none)=true) from tN];refine iD<|iO<|iD<|EE g k ?_;rw[oj<|by simp];refine iD<|iO<|iD<|HR g k ?_;rw[oj<|by simp];refine iO ?_;simp only[yz,yB,NX<|qD _];refine iD ?_;first | refine iD (Lr st.1.typeIs<|iO ?_) | refine iD (NI st.1.typeIs<|iO ?_)
  show Re _ _ (setField (.ref I) 0 .none >>= _) _ _ s;refine iD (MH q u (by simp) (iD ?_) );simp only[newExc];refine iD (xI (iD (Pj (by first | rfl | (simp only[firstArgMember];rfl)) ?_))<|by size_fits);refine xI ?_ (by size_fits);simp only[raiseNew];refine iD<|Pq ?_;rw[hh];refine iD<|iO<|Qi ?_;refine iD<|KY #v[_,ou _ rfl,rfl] Od<|iO<|(λp n=>l p s.toks λb o c e=>n b o (λh=>c<|by simp[h]) e) _<|((DG ..).extBut.push _).push _)
 self:=λ_ _ _ _ st l=>wpAny_pyIter_keyiter st.1 l
def K9.lt (x:K9 h d es ep):d<h.objs.size:=let #v[_,a,_]:=x;pz a
def DH (lo:(d == sysModules)=false):KdlSrc prog w "dict" d d es.size (λi v=>∃h,v=es[i].key) (λh=>K9 h d es ep) where
 type:=λ_ a=>a.typeIs
 there:=λ_ a=>#v[a.lt,a.lt]
 keep:=λ_ _ a c=>a.at' λo e=>c d (.inl rfl) o e
 notList:=by decide
 notTuple:=by decide
 hint:=λ_ _ _ _ a b=>kdl_hint_dict a.typeIs b
 iter:=λ_ _ f a=>#v[_,_,(λ_ _ b=>Dw lo a b),xU f _ d (uu a.lt) es ep,#v[#v[_,ou _ rfl,rfl,rfl],a.at' λo e=>jM _ e]]
end
def sH {K}{xs}{vs} (rel:Paired (λ(p:K×QN×V) (q:K×QN×My)=>p.1=q.1/\p.2.1=q.2.1/\L2.l4 p.2.2 q.2.2) xs vs):k8 (xs.map λx=>V.ref x.2.1) (vs.map λq=>My.ref q.2.1):=by
 induction rel with
 | nil=>exact .nil
 | @cons a b f e c _ d =>rw[kX,kX];exact .cons (by rw[c.2.1];exact rfl) d
def qL (hh:X.A.handled=none):w8 X (.type "list") (λys H Q=>∃p xs,ys=[.ref p]/\H p=some (.ext<|NDi κ p xs)/\∀l,H l=none->Q (.ref l) (upd H l<|.lst<|xs.map λx=>.ref x.2.1)):=by
 rintro m s M H ys us Q I r ⟨p,xs,rfl,e,q⟩;let(u,rfl,v):=C5 r;cases v;let(z,A,k,d,o,es,ep,D,C,B,i,N):=fc I e;have hl:es.size=xs.length:=by have a:=AZ List.length i;rw[jI,zq]at a;rw[a,<-Lq d]
 refine kdl_call (DH A) hh #v[o,D,C,B] (by lia) λE t b L y g c=>?_
 have w:k8 (xs.map λx=>V.ref x.2.1) b.toList:=by
  have K:b.toList=k.map λq=>My.ref q.2.1:=by
   have f:es.size=k.length:=by have a:=AZ List.length i;rwa[jI,zq]at a
   refine List.ext_getElem (by rw[zq,jI,c.1,f]) λj n O=>?_
   rw[zq]at n;let(F,G):=c.2 j b[j]<|IU n;rw[Array.getElem_toList,G,Mx];rw[<-(Array.getElem_toList ..) ];simp only[i,Mx]
  rw[K];exact sH d
 exact#v[.ref (~~~s),_,I.laid y (qD _) (show x5 X.prog X.w _ E _ (.lst<|xs.map λx=>V.ref x.2.1) from#v[by rwa[jI],b.toList,L,w,by simpa using g]),rfl,q _<|I.hok.fresh<|qD _]
end L3
namespace L3
open PySem PySem.Spec PyProof.Rows L2
section
def El:CD->Option Int
 | .int i=>some i
 | .bool b=>some<|bIn b
 | _=>none
def lJ:List CD->Option (List<|Int ⊕ Empty)
 | []=>some []
 | d::ds=>(El d).bind λi=>(lJ ds).map (.inl i :: ·)
def cX:List CD->Option (List<|Int ⊕ List (Int ⊕ Empty))
 | []=>some []
 | .tuple es::ds=>(lJ es).bind λk=>(cX ds).map (.inr k :: ·)
 | _::_=>none
def GW:CD->Option ai.K
 | .tuple ds=>lJ ds
 | _=>none
def Hu:CD->Option bQ.K
 | .tuple ds=>cX ds
 | _=>none
def tq:CD->Option nX.K
 | .tuple [.tuple ds,.int i]=>(cX ds).map λk=>[.inr k,.inl i]
 | _=>none
section
variable {K:Qf}
theorem lG:∀{ds} {ks} {vs} {j},lJ ds=some ks->b9 K H ds vs->VKeys GL (λ_=>false) K H j ks vs
 | [],ks,vs,j,e,h=>by
  simp only[lJ,Pc]at e;simp only[b9]at h;subst e h;exact .nil
 | d::ds,ks,vs,j,e,h=>by
  simp only[b9]at h;let(x,r,rfl,f,k):=h;simp only[lJ]at e;let(i,a,m):=bS9 e;let(g,l,rfl):=sA.1 m;have c:=lG (j:=j+1) l k;cases d with
  | int n=>simp only[El,Pc]at a;subst a;cases(f);exact .int rfl c
  | bool b=>simp only[El,Pc]at a;subst a;cases(f);exact .bl rfl c
  | _=>simp[El]at a
def qe (e:GW d=some k)(h:c6 K H d v):∃b,v = .ref b/\ai.At K H k b:=by
 cases d with
 | tuple i =>simp only[c6]at h;let(a,c,rfl,g,f):=h;exact#v[a,rfl,c,g,lG e f]
 | none=>exact nomatch (e)
 | bool _=>exact nomatch (e)
 | int _=>exact nomatch (e)
 | str _=>exact nomatch (e)
 | list _=>exact nomatch (e)
 | dict _=>exact nomatch (e)
theorem lA:∀{ds} {ks} {vs} {j},cX ds=some ks->b9 K H ds vs->VKeys ai (λ_=>true) K H j ks vs
 | [],ks,vs,j,e,h=>by
  simp only[cX,Pc]at e;simp only[b9]at h;subst e h;exact .nil
 | d::ds,ks,vs,j,e,h=>by
  simp only[b9]at h;let(x,r,rfl,g,f):=h;cases d with
  | tuple i =>simp only[cX]at e;let(k,n,m):=bS9 e;let(a,l,rfl):=sA.1 m;let(b,rfl,c):=qe (d:=.tuple i) n g;exact .ref rfl c<|lA l f
  | _=>simp[cX]at e
def wD (e:Hu d=some k)(h:c6 K H d v):∃b,v = .ref b/\bQ.At K H k b:=by
 cases d with
 | tuple i =>simp only[c6]at h;let(a,c,rfl,g,f):=h;exact#v[a,rfl,c,g,lA e f]
 | none=>exact nomatch (e)
 | bool _=>exact nomatch (e)
 | int _=>exact nomatch (e)
 | str _=>exact nomatch (e)
 | list _=>exact nomatch (e)
 | dict _=>exact nomatch (e)
def za (e:tq d=some k)(h:c6 K H d v):∃b,v = .ref b/\nX.At K H k b:=by
 unfold tq at e;split at e
 .rename_i m i;let(p,l,rfl):=sA.1 e;simp only[c6]at h;let(a,n,rfl,j,x,r,rfl,g,y,o,rfl,f,rfl):=h;let(b,rfl,c):=wD (d:=.tuple m) l (by simp only[c6];exact g);subst f;exact#v[a,rfl,_,j,.ref rfl c<|.int rfl .nil]
 .cases e
end
end

section
def eF (p:Int×V):Key×V:=(.inl p.1,p.2)
def FrI (a:QN)(d3:List (Int×V))(vs:List (Key×My))(ep:Nat):QW->Prop:=λh=>d3.length<=QX/\(a == sysModules)=false/\KV (d3.map eF) vs/\∀P w,h.DictAt (t6 P w) a vs ep
def gj (a:QN)(φ:QW->Prop):Prop:=∃h,φ h/\∃o b ep,h.get? a=some o/\o.data = .dict b ep
def xE (h:Pairs (t6 P w) l m):Pairs (t6 P' w') l m:=by
 induction h with
 | nil=>exact .nil
 | cons c b _ a=>exact .cons c b a
def yi (h:Pairs (t6 P w) l m)(hx:x∈l):∃q∈m,jV q.1 x.key=true:=by
 induction h with
 | nil=>cases hx
 | cons c d _ a =>
  rcases oZ.1 hx with rfl | hx
  .exact#v[_,ll,c]
  .let(q,b,h):=a hx;exact#v[q,kN _ b,h]
def CI {h:QW}(hv:∀q∈vs,∃i,q.1 = .inl i)(d:h.DictAt (t6 P w) a vs ep)(P') (w'):h.DictAt (t6 P' w') a vs ep:=by let(o,r,e,p,t,n,f,j):=d;refine#v[o,r,e,p,t,λx c=>?_,xE f,j];let(k,b,l):=n x c;let(q,m,g):=yi f<|Array.mem_toList_iff.2 c;let(i,s):=hv q m;refine#v[k,b,?_];rw[l,(t6 P w).inj _ _ _ b g,s];rfl
def IA :∀{d3:List (Int×V)} {vs},KV (d3.map eF) vs->∀q∈vs,∃i,q.1 = .inl i:=λ{d3}=>by
 induction d3 with
 | nil=>intro vs h q a;cases h;cases a
 | cons p d3 b =>
  intro vs h q a;cases h with
  | cons d c =>
   rcases oZ.1 a with rfl | a
   .exact#v[p.1,d.1.symm]
   .exact b c q a
section
variable {σ:L2.St}
def FrI.obj (d:FrI a d3 vs ep h):x5 P w H h a (.ext<|FrI a d3 vs ep):=by
 refine#v[d,?_,λi g d k=>?_]
 .let(_,_,_,b):=d;let(o,f,e,_):=b P w;exact#v[o,e]
 .let(z,y,r,b):=d;refine#v[z,y,r,λP w=>?_];let(o,f,e,c):=b P w;exact#v[o,f,k o e,c]
def iS (a) (h):QW.SameBut a h h:=#v[rfl,λ_ _=>rfl]
def oM (I:Inv X π σ H s)(e:H a=some (.ext<|FrI a d3 vs ep)):FrI a d3 vs ep s.heap:=(I.hok a _ e).1
def FrI.n (d:FrI a d3 vs ep h)(P:QP)(w:QQ):gj a (FrI a d3 vs ep):=by let(_,_,_,b):=id d;let(o,c,e,_,f,_):=b P w;exact#v[h,d,o,c,ep,e,f]
def LH (I:Inv X π σ H s)(e:H a=some (.dK<|d3.map eF)):∃vs ep,Inv X π σ (upd H a<|.ext<|FrI a d3 vs ep) s/\gj a (FrI a d3 vs ep):=by let(z,y,vs,r,o,d,ep,b,c):=CM I.hok e;have f:FrI a d3 vs ep s.heap:=#v[by rwa[jI]at z,y,r,CI (IA r) #v[o,d,b,c]];exact#v[vs,ep,U0 I (by rw[e];exact True.intro) (iS _ _) #v[o,b] f.obj,f.n X.prog X.w]
end
def NDi.n (d:NDi κ a xs h):gj a (NDi κ a xs):=by let(_,_,vs,_,o,b,ep,e,_,c,_):=id d;exact#v[h,d,o,b,ep,e,c]
end
variable {fp:List QN}{φ:QW->Prop}
section
abbrev St :=L2.St
def hid (H:Hp)(B:List QN):Hp:=λb=>if b∈B then none else H b
def j5 (h:b ∉ B):hid H B b=H b:=by unfold hid;rw[oj h]
def A2 (h:b∈B):hid H B b=none:=by unfold hid;rw[nY h]
def d9 :i5 (hid H B) H:=λb o e=>by
 by_cases h:b∈B
 .rw[A2 h]at e;cases e
 .rwa [j5 h]at e
def C7 (s:∀b∈B',b∈B):i5 (hid H B) (hid H B'):=λb o e=>by
 by_cases h:b∈B
 .rw[A2 h]at e;cases e
 .rw[j5 h]at e;rwa[j5 λz=>h<|s b z]
def Kp (fp:List QN)(H H':Hp):Prop:=∀b o,H b=some o->b ∉ fp->H' b=some o
def Kp.refl :Kp fp H H:=λ_ _ e _=>e
def Kp.trans (a:Kp fp H H1)(b:Kp fp H1 H2):Kp fp H H2:=λc o e n=>b c o (a c o e n) n
def Kp.same (s:i5 H H'):Kp fp H H':=λb o e _=>s b o e
def Kp.upd (hp:H p=none):Kp fp H (upd H p o):=Kp.same<|i5.upd hp
def Kp.hid (k:Kp fp H H')(s:∀b∈fp,b∈B):i5 (hid H B) (hid H' B):=λb o e=>by
 by_cases h:b∈B
 .rw[A2 h]at e;cases e
 .rw[j5 h]at e ⊢;exact k b o e λz=>h<|s b z
def iZ (h:a∈B):hid (upd H a o) B=hid H B:=by
 funext b;by_cases c:b∈B
 .rw[A2 c,A2 c]
 .rw[j5 c,j5 c,h7];intro e;subst e;exact c h
def L4 (K:Qf)(fp B:List QN)(H:Hp):CD->V->Prop
 | .tuple ds,v=>∃a c,v = .ref a/\SqT K (hid H B) a c/\b9 K (hid H B) ds c
 | .list ds,v=>∃a c,v = .ref a/\hid H fp a=some (.lst c)/\b9 K (hid H B) ds c
 | .none,v=>v = .non
 | .bool b,v=>v = .bl b
 | .int i,v=>v = .int i
 | .str x,v=>v = .str x
 | .dict _,_=>False
section
variable {K:Qf}
def Hf (h:c6 K (hid H B) d v)(s:∀b∈fp,b∈B):L4 K fp B H d v:=by
 cases d with
 | tuple i =>simp only[c6]at h;let(a,c,e,f,g):=h;exact#v[a,c,e,f,g]
 | list i =>simp only[c6]at h;let(a,c,e,f,g):=h;exact#v[a,c,e,C7 s _ _ f,g]
 | _=>simpa only[c6,L4] using h
def L4.dat (h:L4 K fp B H d v):c6 K H d v:=by
 cases d with
 | tuple g =>let(a,b,e,c,f):=h;simp only[c6];exact#v[a,b,e,c.same d9,f.same d9]
 | list g =>let(a,b,e,c,f):=h;simp only[c6];exact#v[a,b,e,d9 _ _ c,f.same d9]
 | _=>simpa only[c6,L4] using h
def L4.step (h:L4 K fp B H d v)(k:Kp fp H H')(s:∀b∈fp,b∈B):L4 K fp B H' d v:=by
 have f:=k.hid s;cases d with
 | tuple l =>let(a,c,e,g,i):=h;exact#v[a,c,e,g.same f,i.same f]
 | list l =>let(a,c,e,g,i):=h;exact#v[a,c,e,(k.hid λ_ z=>z) _ _ g,i.same f]
 | _=>exact h
def L4.tup (h:L4 K fp B H (.tuple ds) v):c6 K (hid H B) (.tuple ds) v:=by let(a,b,e,c,d):=h;simp only[c6];exact#v[a,b,e,c,d]
def BOk (H:Hp)(B:List QN):Prop:=∀b∈B,∃o,H b=some o
def BOk.nin (h:BOk H B)(hp:H p=none):p ∉ B:=λz=>by let(o,e):=h p z;rw[hp]at e;cases e
def Q3 (bk:BOk H B)(hp:H p=none)(h:b9 K (hid H B) ds xs):c6 K (hid (upd H p<|.tup xs) B) (.tuple ds) (.ref p):=by refine c6.tup ?_<|h.same ((Kp.upd (fp:=[]) hp).hid (by simp));rw[j5<|bk.nin hp];exact i3
def G3 (bk:BOk H B)(hp:H p=none)(h:b9 K (hid H B) ds xs):c6 K (hid (upd H p<|.lst xs) B) (.list ds) (.ref p):=by refine c6.lst ?_<|h.same ((Kp.upd (fp:=[]) hp).hid (by simp));rw[j5<|bk.nin hp];exact i3
end
def NoT (o:HO):Prop:=(∀a,o ≠ .tbl a)/\∀φ,o ≠ .ext φ
class Feeds where
 S:Type
 At:QN->QN->Hp->S->Prop
 some1:∀{d c H F},At d c H F->∃o,H d=some o/\NoT o
 some2:∀{d c H F},At d c H F->∃o,H c=some o/\NoT o
 congr:∀{d c H H' F},At d c H F->H' d=H d->H' c=H c->At d c H' F
 lam:List Str
abbrev GF :=Option<|QN×QN
def tabsK (l:List Str)(K:Qf):List (Str×QN×QN):=l.filterMap λx=>(PySem.W.tabIn K x).map λp=>(x,p)
def J8 (x:Str):Str:=x ++ ".<locals>." ++ "<lambda>"
def V7 (ts:List (Str×QN×QN))(H:Hp):Prop:=∀t∈ts,eQ H t.2.2<|J8 t.1
def V7.congr (h:V7 ts H)(e:∀b,(b∈ts.map (·.2.2)\/∃φ,H b=some (.ext φ))->H' b=H b):V7 ts H':=λt f=>by let(i,l,k,j):=h t f;refine#v[i,(e _<|.inl<|HM f).trans l,k,λa m q=>?_];let(c,g,d):=j a m q;exact#v[c,g,(e c<|.inr #v[_,d]).trans d]
def V7.but (h:V7 ts H)(hd:H d=some o0)(hn:NoT o0)(kp:∀b o,H b=some o->b≠d->H' b=some o):V7 ts H':=h.congr λb c=>by
 obtain⟨o,e,a⟩:∃o,H b=some o/\b≠d:=by
  rcases c with c | ⟨φ,e⟩
  .let(t,g,rfl):=ue.1 c;let(f,e,_):=h t g;exact#v[_,e,λz=>by rw[z,hd]at e;exact hn.1 f<|rn e]
  .exact#v[_,e,λz=>by rw[z,hd]at e;exact hn.2 φ<|rn e]
 rw[e];exact kp b o e a
def u4 (c:QN)(a l t:Int):List (Key×V):=[(Sum.inr "cells",.ref c),(Sum.inr "at",.int a),(Sum.inr "left",.int l),(Sum.inr "turn",.int t)]
structure FdS where
 ns:List Int
 a:Int
 l:Int
 t:Int
class Fam where
 At:QN->QN->Hp->FdS->Prop
 some1:∀{d c H F},At d c H F->∃o,H d=some o/\NoT o
 some2:∀{d c H F},At d c H F->∃o,H c=some o/\NoT o
 congr:∀{d c H H' F},At d c H F->H' d=H d->H' c=H c->At d c H' F
 lam:List Str
 drawF:Int->FdS->Option (Int×FdS)
 draw_some:∀{m} {F},0<m->m<1073741824->F.t<199999->∃r F',drawF m F=some (r,F')/\0<=r/\r<m/\F'.t=F.t+1
instance fdI [Fam]:Feeds where
 S:=FdS
 At:=Fam.At
 some1:=Fam.some1
 some2:=Fam.some2
 congr:=Fam.congr
 lam:=Fam.lam
def FdS.cellL (F:FdS):Int:=if F.ns=[] then 0 else(F.ns[(F.a % (F.ns.length:Int)).toNat]?).getD 0
def FZ (z t:Int):Int:=((z % 1999999973+65537*t+11) ^ 3 % 2147483629+7919*t*t)*40692 % 2147483399 / 32
def ig (m:Int)(F:FdS):Option (Int×FdS):=if 0<m/\m<1073741824/\F.t<199999 then
  some (if 0<F.l then(F.l % m,#v[F.ns,F.a,F.l / m,F.t+1])
   else if 10 ^ 18<=F.cellL/\F.a<F.ns.length then(F.cellL % m,#v[F.ns,F.a+1,F.cellL / m,F.t+1])
   else(FZ F.cellL (F.t+1) % m,#v[F.ns,F.a+1,F.l,F.t+1]))
 else none
def uG (h0:0<m)(h1:m<1073741824)(h2:F.t<199999):∃r F',ig m F=some (r,F')/\0<=r/\r<m/\F'.t=F.t+1:=by
 have b:∀x,0<=x % m/\x % m<m:=λx=>#v[PQ _ (by lia),OL _ h0]
 unfold ig;rw[nY #v[h0,h1,h2]];by_cases hl:0<F.l
 .rw[nY hl];exact#v[_,_,rfl,(b _).1,(b _).2,rfl]
 .rw[oj hl];by_cases a:10 ^ 18<=F.cellL/\F.a<F.ns.length
  .rw[nY a];exact#v[_,_,rfl,(b _).1,(b _).2,rfl]
  .rw[oj a];exact#v[_,_,rfl,(b _).1,(b _).2,rfl]
@[reducible] def Nd (l:List Str):Fam where
 At:=λd c H F=>H d=some (.dK<|u4 c F.a F.l F.t)/\H c=some (.lst<|F.ns.map V.int)/\F.ns.length<=63/\0<=F.a/\0<=F.t
 some1:=λh=>#v[_,h.1,#v[λ_ z=>(by cases z),λ_ z=>(by cases z)]]
 some2:=λh=>#v[_,h.2.1,#v[λ_ z=>(by cases z),λ_ z=>(by cases z)]]
 lam:=l
 congr:=λh e1 e2=>#v[e1.trans h.1,e2.trans h.2.1,h.2.2]
 drawF:=ig
 draw_some:=uG
instance famI:Fam:=Nd ["lined_up","picked","beats_waited","row_at"]
section
def tabP (K:Qf):List QN:=(tabsK Feeds.lam K).map (·.2.2)
def j6 (K:Qf):GF->List QN
 | none=>tabP K
 | some (d,c)=>d::c::tabP K
def uX {K}(h:b∈tabP K):b∈j6 K G:=by
 cases G with
 | none=>exact h
 | some p=>exact kN _<|kN _ h
abbrev FS :=Feeds.S
abbrev M (α:Type):=FS->Option (α×FS)
def MZ (G:GF)(H:Hp)(F:FS):Prop:=match G with
 | none=>True
 | some (d,c)=>Feeds.At d c H F
def FAt (K:Qf)(G:GF)(H:Hp)(F:FS):Prop:=MZ G H F/\V7 (tabsK Feeds.lam K) H
def FAt.bok {K}(h:FAt K G H F):BOk H (j6 K G):=λb a=>by
 have f:b∈tabP K->∃o,H b=some o:=λz=>by let(t,g,rfl):=ue.1 z;let(j,i,_):=h.2 t g;exact#v[_,i]
 cases G with
 | none=>exact f a
 | some p =>
  let(d,c):=p;simp only[j6,oZ]at a;rcases a with rfl | rfl | a
  .let(o,e,_):=Feeds.some1 h.1;exact#v[o,e]
  .let(o,e,_):=Feeds.some2 h.1;exact#v[o,e]
  .exact f a
def FAt.congr {K}(h:FAt K G H F)(e:∀b,(b∈j6 K G\/∃φ,H b=some (.ext φ))->H' b=H b):FAt K G H' F:=by
 refine#v[?_,h.2.congr λb a=>e b<|a.imp uX id];cases G with
 | none=>trivial
 | some p =>let(d,c):=p;exact Feeds.congr h.1 (e d<|.inl<|by simp[j6]) (e c<|.inl<|by simp[j6])
def FAt.same {K}(h:FAt K G H F)(s:i5 H H'):FAt K G H' F:=h.congr λb a=>by
 rcases a with a | ⟨φ,e⟩
 .let(o,e):=h.bok b a;rw[e];exact s b o e
 .rw[e];exact s b _ e
inductive DV where
 | dat (d:CD) | feed | own (ds:List CD) | fn (x:Str) | adr (a:QN) | dic (w:Bool) (c:Nat) (ps:List (CD×CD))
  | fv (f:QN) (φ:Hp->Prop)
  | rdic (c:Nat) (ps:List (CD×CD))
def DV.ow:DV->Bool
 | .own _=>true
 | .dic _ _ _=>true
 | _=>false
def m8:Nat->NKey
 | 0=>bQ
 | 1=>nX
 | _+2=>ai
def N5:(c:Nat)->CD->Option (m8 c).K
 | 0=>Hu
 | 1=>tq
 | _+2=>GW
def KVs (K:Qf)(H:Hp)(c):List (CD×CD)->List ((m8 c).K×QN×V)->Prop
 | [],xs=>xs=[]
 | p::ps,xs=>∃k b v r,xs=(k,b,v)::r/\N5 c p.1=some k/\c6 K H p.1 (.ref b)/\c6 K H p.2 v/\KVs K H c ps r
theorem KVs.same {K}(s:i5 H H'):∀{ps} {xs},KVs K H c ps xs->KVs K H' c ps xs
 | [],_,h=>h
 | _::_,_,#v[k,b,v,r,e,h1,h2,h3,h4]=>#v[k,b,v,r,e,h1,h2.same s,h3.same s,h4.same s]
def IVs (K:Qf)(H:Hp):List (CD×CD)->List (Int×V)->Prop
 | [],xs=>xs=[]
 | p::ps,xs=>∃i v r,xs=(i,v)::r/\p.1 = .int i/\c6 K H p.2 v/\IVs K H ps r
theorem IVs.same {K}(s:i5 H H'):∀{ps} {xs},IVs K H ps xs->IVs K H' ps xs
 | [],_,h=>h
 | _::_,_,#v[i,v,r,e,h1,h3,h4]=>#v[i,v,r,e,h1,h3.same s,h4.same s]
def eP (K:Qf)(H:Hp)(c:Nat)(ps:List (CD×CD))(a:QN)(φ:QW->Prop):Prop :=
 (c≠9/\∃b,φ=NDi (m8 c) a b/\KVs K H c ps b)\/(c=9/\∃d3 vs ep,φ=FrI a d3 vs ep/\IVs K H ps d3)
def eP.same {K}(h:eP K H c ps a φ)(s:i5 H H'):eP K H' c ps a φ:=by
 rcases h with ⟨b,d,e,h⟩ | ⟨b,d3,vs,ep,e,h⟩
 .exact .inl #v[b,d,e,h.same s]
 .exact .inr #v[b,d3,vs,ep,e,h.same s]
def eP.not9 {K}(h:eP K H c ps a φ)(hc:c≠9):∃xs,φ=NDi (m8 c) a xs/\KVs K H c ps xs:=by
 rcases h with ⟨_,h⟩ | ⟨e,_⟩
 .exact h
 .exact absurd e hc
def eP.is9 {K}(h:eP K H 9 ps a φ):∃d3 vs ep,φ=FrI a d3 vs ep/\IVs K H ps d3:=by
 rcases h with ⟨e,_⟩ | ⟨_,h⟩
 .exact absurd rfl e
 .exact h
def NFr (κ:NKey)(a:QN)(xs:List (κ.K×QN×V))(es:Array DictEntry)(ep:Nat):QW->Prop:=λh=>NDi κ a xs h/\∃o,h.get? a=some o/\o.data = .dict es ep
def Gg (K:Qf)(H:Hp)(c:Nat)(ps:List (CD×CD))(a:QN)(φ:QW->Prop):Prop:=∃b d ep,φ=NFr (m8 c) a b d ep/\KVs K H c ps b
def Gg.same {K}(h:Gg K H c ps a φ)(s:i5 H H'):Gg K H' c ps a φ :=
 let #v[b,d,ep,e,k]:=h
 #v[b,d,ep,e,k.same s]
abbrev DE :=List<|Option DV
def DVr (K:Qf)(G:GF)(B:List QN)(H:Hp):DV->V->Prop
 | .dat d,v=>c6 K (hid H B) d v
 | .feed,v=>∃d c,G=some (d,c)/\v = .ref d
 | .fn x,v=>∃a,v = .ref a/\PySem.W.nsIn K Rf x=some (some<|.ref a)
 | .adr a,v=>v = .ref a
 | .fv f φ,v=>v = .ref f/\(∀g e,i5 g e->φ g->φ e) /\ φ (hid H B)
 | .rdic c ps,v=>∃a φ,v = .ref a/\hid H B a=some (.ext φ)/\Gg K (hid H B) c ps a φ
 | .dic _ c ps,v=>∃a φ,v = .ref a/\a∈B/\a ∉ j6 K G/\H a=some (.ext φ)/\gj a φ/\eP K (hid H B) c ps a φ
 | .own ds,v=>∃a b,v = .ref a/\a∈B/\a ∉ j6 K G/\H a=some (.lst b)/\b9 K (hid H B) ds b
structure SitE K G (B:List QN) (E:DE) F (σ:St) H:Prop where
 fd:FAt K G H F
 fB:∀b∈j6 K G,b∈B
 bk:BOk H B
 ln:E.length = σ.length
 loc:∀(i:Nat) x,E[i]? = some (some x)->∃v,σ[i]? = some (some v)/\DVr K G B H x v
section
variable {K:Qf}
def m9 (bk:BOk H B)(k:Kp (j6 K G) H H')(f:FAt K G H' F'):BOk H' B:=λb a=>by
 by_cases h:b∈j6 K G
 .exact f.bok b h
 .let(o,e):=bk b a;exact#v[o,k b o e h]
def DVr.step (h:DVr K G B H x v)(k:Kp (j6 K G) H H')(fB:∀b∈j6 K G,b∈B):DVr K G B H' x v:=by
 cases x with
 | dat d=>exact c6.same h<|k.hid fB
 | feed=>exact h
 | fn _=>exact h
 | adr _=>exact h
 | fv _ _=>exact#v[h.1,h.2.1,h.2.1 _ _ (k.hid fB) h.2.2]
 | rdic _ _ =>let(r,g,p,o,n):=h;exact#v[r,g,p,(k.hid fB) _ _ o,n.same<|k.hid fB]
 | own t =>let(a,i,e,m,f,l,j):=h;exact#v[a,i,e,m,f,k a _ l f,j.same<|k.hid fB]
 | dic w c s =>let(a,i,e,m,f,l,q,j):=h;exact#v[a,i,e,m,f,k a _ l f,q,j.same<|k.hid fB]
def SitE.step (I:SitE K G B E F σ H)(k:Kp (j6 K G) H H')(f:FAt K G H' F'):SitE K G B E F' σ H' :=
 #v[f,I.fB,m9 I.bk k f,I.ln,λi x e=>by let(v,b,a):=I.loc i x e;exact#v[v,b,a.step k I.fB]]
end
end
end

section
section
def TEd (K:Qf)(te:TE)(m:DE->M CD):Prop:=∀G B E F a H Q d b,SitE K G B E F a H->m E F=some (d,b) ->
 (∀v H',Kp (j6 K G) H H'->FAt K G H' b->c6 K (hid H' B) d v->Q v H')->te a H Q
def TEs (K:Qf)(te:TE)(m:DE->M CD):Prop:=∀G B E F a H Q d b,SitE K G B E F a H->m E F=some (d,b) ->
 (∀v H',Kp (j6 K G) H H'->FAt K G H' b->L4 K (j6 K G) B H' d v->Q v H')->te a H Q
def TEd.sh {K}(h:TEd K te m):TEs K te m:=λG B E F a H Q d c I e q=>h G B E F a H Q d c I e λv H' k f b=>q v H' k f<|Hf b I.fB
def TTd (K:Qf)(tt:TT)(m:DE->M Bool):Prop:=∀G B E F a H Q b c,SitE K G B E F a H->m E F=some (b,c) ->
 (∀H',Kp (j6 K G) H H'->FAt K G H' c->Q b H')->tt a H Q
def TAd (K:Qf)(ta:TA)(m:DE->M (List CD)):Prop:=∀G B E F a H Q b c,SitE K G B E F a H->m E F=some (b,c) ->
 (∀vs H',Kp (j6 K G) H H'->FAt K G H' c->b9 K (hid H' B) b vs->Q vs H')->ta a H Q
def jQ (K:Qf)(fp B:List QN)(H:Hp):List CD->List V->Prop
 | [],vs=>vs=[]
 | d::ds,vs=>∃v r,vs=v::r/\L4 K fp B H d v/\jQ K fp B H ds r
def TAs (K:Qf)(ta:TA)(m:DE->M (List CD)):Prop:=∀G B E F a H Q b c,SitE K G B E F a H->m E F=some (b,c) ->
 (∀vs H',Kp (j6 K G) H H'->FAt K G H' c->jQ K (j6 K G) B H' b vs->Q vs H')->ta a H Q
structure Ev K X e te m:Prop where
 pe:PE X e te
 ok:TEd K te m
structure Eb K X e te m:Prop where
 pe:PE X e te
 ok:TEs K te m
structure Et K X e tt m:Prop where
 pt:PT X e tt
 ok:TTd K tt m
structure Ew K X e tt m:Prop where
 pw:PW X e tt
 ok:TTd K tt m
structure Ea K X es ta m:Prop where
 pa:PA X es ta
 ok:TAd K ta m
structure Es K X es ta m:Prop where
 pa:PA X es ta
 ok:TAs K ta m
variable {K:Qf}
def Ev.bw (h:Ev K X e te m):Eb K X e te m:=#v[h.pe,h.ok.sh]
def sC (d:CD):DE->M CD:=λ_ F=>some (d,F)
def sV (i:Nat):DE->M CD:=λE F=>match E[i]? with
 | some (some<|.dat d)=>some (d,F)
 | _=>none
def sW (i:Nat):DE->M CD:=λE F=>match E[i]? with
 | some (some<|.dat d)=>some (d,F)
 | some (some<|.own ds)=>some (.list ds,F)
 | _=>none
def BR (h:∀H,c6 K H d v):TEd K (tC v) (sC d):=λG B E F a H Q b c I e q=>by cases e;exact q v H Kp.refl I.fd<|h _
def i9 {i j}:Ev K X (.Constant (.int i) j pos) (tC<|.int i) (sC<|.int i):=#v[x9,BR λ_=>c6.int]
def DD {x j}:Ev K X (.Constant (.bool x) j pos) (tC<|.bl x) (sC<|.bool x):=#v[(λ_ _ _ H _ I h=>Constant_bool #v[.bl x,H,I,rfl,h]),BR λ_=>c6.bl]
def dO {j}:Ev K X (.Constant .none j pos) (tC .non) (sC .none):=#v[(λ_ _ _ H _ I h=>Constant_none #v[.non,H,I,rfl,h]),BR λ_=>c6.non]
def uW {x j}:Ev K X (.Constant (.str x) j pos) (tC<|.str x) (sC<|.str x):=#v[K7,BR λ_=>c6.st]
def i8 (i)(hN:‹X.N[i]? = some x›)(hv:autoParam (Vis X.env.scope x) kA)(hd:autoParam (nDb x) gC)
  (hcd:autoParam (nCd x) gC):Ev K X (.Name x pos) (P4 i) (sV i):=#v[A9 hN hv hd hcd,(λG B E F f H Q d g I e q=>by
   unfold sV at e;split at e
   .rename_i x a;cases e;let(v,c,b):=I.loc i _ a;exact#v[v,c,q v H Kp.refl I.fd b]
   .cases e)]
def j8 (i)(hN:‹X.N[i]? = some x›)(hv:autoParam (Vis X.env.scope x) kA)(hd:autoParam (nDb x) gC)
  (hcd:autoParam (nCd x) gC):Eb K X (.Name x pos) (P4 i) (sW i):=#v[A9 hN hv hd hcd,(λG B E F j H Q d l I e q=>by
   unfold sW at e;split at e
   .rename_i x a;cases e;let(v,c,b):=I.loc i _ a;exact#v[v,c,q v H Kp.refl I.fd<|Hf b I.fB]
   .rename_i x a;cases e;let(v,c,b):=I.loc i _ a;refine#v[v,c,q v H Kp.refl I.fd ?_];let(p,f,rfl,k,h,g,hd):=b;exact#v[p,f,rfl,by rwa[j5 h],hd]
   .cases e)]
def rD1 (K:Qf)(f:CD->Option CD):V->Hp->VK->Prop:=λx H Q=>∃fp B d r,BOk H B/\L4 K fp B H d x/\f d=some r/\∀v H',i5 H H'->c6 K (hid H' B) r v->Q v H'
def rD2 (K:Qf)(f:CD->CD->Option CD):R2:=λx y H Q=>∃fp B d e r,BOk H B/\L4 K fp B H d x/\L4 K fp B H e y/\f d e=some r/\∀v H',i5 H H'->c6 K (hid H' B) r v->Q v H'
def rDN (K:Qf)(f:List CD->Option CD):List V->Hp->VK->Prop:=λb H Q=>∃fp B a r,BOk H B/\jQ K fp B H a b/\f a=some r/\∀v H',i5 H H'->c6 K (hid H' B) r v->Q v H'
def s1 (f:CD->Option CD)(a:DE->M CD):DE->M CD:=λE F=>(a E F).bind λp=>(f p.1).bind λz=>some (z,p.2)
noncomputable def s2 (f:CD->CD->Option CD)(a b:DE->M CD):DE->M CD:=λE F=>(a E F).bind λp=>(b E p.2).bind λq=>(f p.1 q.1).bind λz=>some (z,q.2)
def sN (f:List CD->Option CD)(a:DE->M (List CD)):DE->M CD:=λE F=>(a E F).bind λp=>(f p.1).bind λz=>some (z,p.2)
def GY (ha:TEs K ta ma):TEd K (tUn (rD1 K f) ta) (s1 f ma):=λG B E F c H Q d n I e q=>by obtain⟨⟨x,l⟩,j,e⟩:=bS9 e;let(z,i,e):=bS9 e;cases e;refine ha G B E F c H _ x l I j λv m a b h=>#v[j6 K G,B,x,_,m9 I.bk a b,h,i,λw k s g=>q w k (a.trans<|Kp.same s) (b.same s) g]
def we (ha:TEs K ta ma)(hb:TEs K tb mb):TEd K (tOp (rD2 K f) ta tb) (s2 f ma mb):=λG B E F c H Q d C I e q=>by
 obtain⟨⟨x,h⟩,o,e⟩:=bS9 e;obtain⟨⟨y,t⟩,n,e⟩:=bS9 e;let(z,m,e):=bS9 e;cases e;refine ha G B E F c H _ x h I o λv r b l k=>hb G B E h c r _ y t (I.step b l) n λw A a g j=>#v[j6 K G,B,x,y,_,m9 I.bk (b.trans a) g,k.step a I.fB,j,m,λu p s i=>q u p ((b.trans a).trans<|Kp.same s) (g.same s) i]
def CJ (ha:TAs K t ms):TEd K (tCB (rDN K f) t) (sN f ms):=λG B E F c H Q d n I e q=>by obtain⟨⟨x,l⟩,j,e⟩:=bS9 e;let(z,i,e):=bS9 e;cases e;exact ha G B E F c H _ x l I j λvs m a b h=>#v[j6 K G,B,x,_,m9 I.bk a b,h,i,λw k s g=>q w k (a.trans<|Kp.same s) (b.same s) g]
def u6 (ho:OpR X (binaryOp op) (rD2 K f))(ha:Eb K X a ta ma)(hb:Eb K X b tb mb):Ev K X (.BinOp a op b pos) (tOp (rD2 K f) ta tb) (s2 f ma mb):=#v[F8 ho ha.pe hb.pe,we ha.ok hb.ok]
def vH (ho:UnR X (unaryOp op) (rD1 K f))(ha:Eb K X a ta ma):Ev K X (.UnaryOp op a pos) (tUn (rD1 K f) ta) (s1 f ma):=#v[AG ho ha.pe,GY ha.ok]
def jq (ho:OpR X (compareOp op) (rD2 K f))(ha:Eb K X a ta ma)(hb:Eb K X b tb mb)(hm:behindInMarks op b=false:=by first | exact gA _ | rfl):Ev K X (.Compare a [op] [b] pos) (tOp (rD2 K f) ta tb) (s2 f ma mb):=#v[(by intro c s d H Q I h;exact wpAny_Compare1 (Jy ha.pe hb.pe I h λv u s2 x y j i g e q=>ho c s2 d j x y v u Q i g e q) hm),we ha.ok hb.ok]
def bZ (hr:IxR X (rD2 K f))(ha:Eb K X a ta ma)(hb:Eb K X b tb mb)(hs:oQ b:=by intro _ _;rfl):Ev K X (.Subscript a b pos) (tOp (rD2 K f) ta tb) (s2 f ma mb):=#v[Dz hr ha.pe hb.pe hs,we ha.ok hb.ok]
def l7 {id}(hc:w8 X (.builtin id) (rDN K f))(hm:X.mg x=none)(hv:Ri x=some (.builtin id))(ha:Es K X (e::es) t ms)(hg:‹Gl X x›)(hn:autoParam (x ≠ "__name__") gC)(hdb:autoParam (nDb x) gC)
  (he:‹QY (e::es) X.env=(false,eval e X.env)::QY es X.env›) (hpl:‹(Rb pos<|QY es X.env).any (·.1)=false›):Ev K X (.Call (.Name x p) (e::es) [] pos) (tCB (rDN K f) t) (sN f ms):=#v[ag hc hg hm hv ha.pa hn hdb he hpl,CJ ha.ok]
def K8 (hc:w8 X (.type T) (rDN K f))(hm:X.mg x=none)(hv:Ri x=some (.type T))(ha:Es K X (e::es) t ms)(hg:‹Gl X x›)(hn:autoParam (x ≠ "__name__") gC)(hdb:autoParam (nDb x) gC)
  (he:‹QY (e::es) X.env=(false,eval e X.env)::QY es X.env›) (hpl:‹(Rb pos<|QY es X.env).any (·.1)=false›):Ev K X (.Call (.Name x p) (e::es) [] pos) (tCB (rDN K f) t) (sN f ms):=#v[ah hc hg hm hv ha.pa hn hdb he hpl,CJ ha.ok]
def j3 :DE->M (List CD):=λ_ F=>some ([],F)
def d4 (a:DE->M CD)(r:DE->M (List CD)):DE->M (List CD):=λE F=>(a E F).bind λp=>(r E p.2).bind λq=>some (p.1::q.1,q.2)
def l3 :Ea K X [] T7 j3:=#v[A3,λG B E F a H Q b c I e q=>by cases e;exact q [] H Kp.refl I.fd b9.nil]
def e8 (ha:Ev K X e te m)(hr:Ea K X es t ms)(hs:‹QY (e::es) X.env=(false,eval e X.env)::QY es X.env›):Ea K X (e::es) (z9 te t) (d4 m ms) :=
 #v[r8 ha.pe hr.pa hs,λG B E F a H Q r s I e q=>by
  obtain⟨⟨x,d⟩,l,e⟩:=bS9 e;obtain⟨⟨f,p⟩,k,e⟩:=bS9 e;cases e;refine ha.ok G B E F a H _ x d I l λv o c j h=>hr.ok G B E d a o _ f p (I.step c j) k λvs n b i g=>q _ n (c.trans b) i<|.cons (h.same<|b.hid I.fB) g]
def m6 :Es K X [] T7 j3:=#v[A3,λG B E F a H Q b c I e q=>by cases e;exact q [] H Kp.refl I.fd rfl]
def j7 (ha:Eb K X e te m)(hr:Es K X es t ms)(hs:‹QY (e::es) X.env=(false,eval e X.env)::QY es X.env›):Es K X (e::es) (z9 te t) (d4 m ms) :=
 #v[r8 ha.pe hr.pa hs,λG B E F a H Q r s I e q=>by
  obtain⟨⟨x,d⟩,l,e⟩:=bS9 e;obtain⟨⟨f,p⟩,k,e⟩:=bS9 e;cases e;refine ha.ok G B E F a H _ x d I l λv o c j h=>hr.ok G B E d a o _ f p (I.step c j) k λvs n b i g=>q _ n (c.trans b) i #v[v,vs,rfl,h.step b I.fB,g]]
def K0 (a:DE->M (List CD)):DE->M CD:=λE F=>(a E F).bind λp=>if p.1.length<=QX then some (.tuple p.1,p.2) else none
def FO (a:DE->M (List CD)):DE->M CD:=λE F=>(a E F).bind λp=>if p.1.length<=QX then some (.list p.1,p.2) else none
def y4 {k}(h:Ea K X es t ms):Ev K X (.Tuple es k pos) (EJ t) (K0 ms):=#v[sO h.pa,λG B E F g H Q d m I e q=>by
 obtain⟨⟨x,j⟩,i,e⟩:=bS9 e;split at e
 .rename_i hl;cases e;refine h.ok G B E F g H _ x j I i λvs l b f c=>#v[by rwa[c.length],λp a=>q _ _ (b.trans<|Kp.upd a) (f.same<|i5.upd a)<|Q3 (m9 I.bk b f) a c]
 .cases e]
def Js (h:Ea K X es t ms):Ev K X (.List es pos) (DR t) (FO ms):=#v[oX h.pa,λG B E F g H Q d l I e q=>by
 obtain⟨⟨x,j⟩,i,e⟩:=bS9 e;split at e
 .rename_i hl;cases e;refine h.ok G B E F g H _ x j I i λvs k b f c=>#v[by rwa[c.length],λp a=>q _ _ (b.trans<|Kp.upd a) (f.same<|i5.upd a)<|G3 (m9 I.bk b f) a c]
 .cases e]
def dE:CD->Option Bool
 | .bool b=>some b
 | _=>none
def bq {b} (h:dE d=some b):d = .bool b:=by cases d <;> simp[dE]at h;rw[h]
def Ap (a b:DE->M CD):DE->M CD:=λE F=>(a E F).bind λp=>(dE p.1).bind λc=>if c=true then b E p.2 else some (.bool false,p.2)
def yE (a:DE->M CD):DE->M CD:=λE F=>(a E F).bind λp=>(dE p.1).bind λc=>some (.bool (!c),p.2)
def Jl {op}(h:Ev K X a te m):Ev K X (.BoolOp op [a] pos) te m:=#v[(λb s c H Q I d=>BoolOp_one<|h.pe b s c H Q I d),h.ok]
def Kb (ha:Ev K X a ta ma)(hb:Ev K X (.BoolOp .And (b::rest) pos) tb mb):Ev K X (.BoolOp .And (a::b::rest) pos) (GZ ta tb) (Ap ma mb):=#v[(by
 intro f s g H Q I h;refine BoolOp_and (thn (ha.pe f s g H _ I h) ?_ );rintro v s1 ⟨x,i,n,p,j⟩;let(c,rfl,j):=j;cases p;refine Kl ?_;cases c with
 | true=>exact hb.pe f s1 g i Q n j
 | false=>exact#v[.bl false,i,n,rfl,j]),λG B E F g H Q d C I e q=>by
 obtain⟨⟨x,o⟩,z,e⟩:=bS9 e;let(c,y,e):=bS9 e;refine ha.ok G B E F g H _ x o I z λv i k m l=>?_
 have:=bq y;simp only at this;subst this;simp only[c6]at l;refine#v[c,l,?_];cases c with
 | true=>exact hb.ok G B E o g i _ d C (I.step k m) e λw A r u t=>q w A (k.trans r) u t
 | false=>cases e;exact q _ i k m c6.bl]
def BO (ha:Ev K X a ta ma):Ev K X (.UnaryOp .Not a pos) (HB ta) (yE ma):=#v[(by
 intro b s f H Q I h;refine UnaryOp_ (thn (ha.pe b s f H _ I h) ?_ );rintro v s1 ⟨x,i,p,k,g⟩;let(c,rfl,g):=g;cases k;exact not_of<|Kl #v[.bl (!c),i,p,rfl,g]),λG B E F f H Q d t I e q=>by
 obtain⟨⟨x,r⟩,o,e⟩:=bS9 e;let(c,n,e):=bS9 e;cases e;refine ha.ok G B E F f H _ x r I o λv i l m j=>?_
 have:=bq n;simp only at this;subst this;simp only[c6]at j;exact#v[_,j,q _ i l m c6.bl]]
def sIf (c:DE->M Bool)(a b:DE->M CD):DE->M CD:=λE F=>(c E F).bind λp=>if p.1=true then a E p.2 else b E p.2
def HL {mt} (hc:Et K X c tt mt)(ha:Ev K X a ta ma)(hb:Ev K X b tb mb):Ev K X (.IfExp c a b pos) (tIf tt ta tb) (sIf mt ma mb):=#v[rG hc.pt ha.pe hb.pe,λG B E F g H Q d o I e q=>by
 obtain⟨⟨x,l⟩,p,e⟩:=bS9 e;refine hc.ok G B E F g H _ x l I p λn f m=>?_
 cases x with
 | true=>exact ha.ok G B E l g n _ d o (I.step f m) e λw k h j i=>q w k (f.trans h) j i
 | false=>exact hb.ok G B E l g n _ d o (I.step f m) e λw k h j i=>q w k (f.trans h) j i]

def uB (a:DE->M CD):DE->M Bool:=λE F=>(a E F).bind λp=>(dE p.1).bind λc=>some (c,p.2)
def EY (a b:DE->M Bool):DE->M Bool:=λE F=>(a E F).bind λp=>if p.1=true then b E p.2 else some (false,p.2)
def uOr (a b:DE->M Bool):DE->M Bool:=λE F=>(a E F).bind λp=>if p.1=true then some (true,p.2) else b E p.2
def EU (a:DE->M Bool):DE->M Bool:=λE F=>(a E F).bind λp=>some (!p.1,p.2)
def A7 (ho:OpR X (compareOp op) (rD2 K f))(ha:Eb K X a ta ma)(hb:Eb K X b tb mb)(hm:behindInMarks op b=false:=by first | exact gA _ | rfl):Et K X (.Compare a [op] [b] pos) (Hi<|tOp (rD2 K f) ta tb) (uB<|s2 f ma mb) :=
 #v[fA ho ha.pe hb.pe hm,λG B E F h H Q d o I e q=>by
  obtain⟨⟨x,n⟩,l,e⟩:=bS9 e;let(c,k,e):=bS9 e;cases e;refine we ha.ok hb.ok G B E F h H _ x n I l λv m i j g=>?_
  have:=bq k;simp only at this;subst this;simp only[c6]at g;exact#v[_,g,q m i j]]
def Gh (ha:Et K X a tA na):Ew K X (.BoolOp .And [a] pos) tA na:=#v[ve ha.pt,ha.ok]
def Jp (ha:Et K X a tA na):Ew K X (.BoolOp .Or [a] pos) tA na:=#v[(by
 intro f b s d H Q I h;refine isTrue_or (thn (ha.pt b s d H Q I h) λc s1 e=>?_);cases c with
 | false=>exact isTrue_or_nil e
 | true=>exact e),ha.ok]
def Iv (ha:Et K X a tA na)(hb:Ew K X (.BoolOp .And (b::rest) pos) tB nb):Ew K X (.BoolOp .And (a::b::rest) pos) (Mf tA tB) (EY na nb):=#v[DA ha.pt hb.pw,λG B E F f H Q d n I e q=>by
 obtain⟨⟨x,i⟩,l,e⟩:=bS9 e;refine ha.ok G B E F f H _ x i I l λh c g=>?_
 cases x with
 | true=>exact hb.ok G B E i f h _ d n (I.step c g) e λm j k=>q m (c.trans j) k
 | false=>cases e;exact q h c g]
def Lz (ha:Et K X a tA na)(hb:Ew K X (.BoolOp .Or (b::rest) pos) tB nb):Ew K X (.BoolOp .Or (a::b::rest) pos) (tOr tA tB) (uOr na nb):=#v[(by
 intro o f s g H Q I h;refine isTrue_or (thn (ha.pt f s g H _ I h) ?_ );rintro c s1 ⟨i,m,k⟩;cases c with
 | true=>exact#v[i,m,k]
 | false=>exact hb.pw o f s1 g i Q m k),λG B E F g H Q d v I e q=>by
 obtain⟨⟨x,n⟩,t,e⟩:=bS9 e;refine ha.ok G B E F g H _ x n I t λi j l=>?_
 cases x with
 | false=>exact hb.ok G B E n g i _ d v (I.step j l) e λu p r=>q u (j.trans p) r
 | true=>cases e;exact q i j l]
def Ew.t (h:Ew K X a tA na):Et K X a tA na:=#v[h.pw.pt,h.ok]
def IG (ha:Et K X a tA na):Et K X (.UnaryOp .Not a pos) (Mv tA) (EU na):=#v[(by
 intro b s f H Q I h;exact isTrue_not<|ha.pt b s f H (λc g=>Q (!c) g) I h),λG B E F f H Q d m I e q=>by obtain⟨⟨x,l⟩,k,e⟩:=bS9 e;cases e;exact ha.ok G B E F f H _ x l I k λg i j=>q g i j]
def FQ:CD->Option Bool
 | .none=>some false
 | .bool b=>some b
 | .int i=>some<|i != 0
 | .str x=>if x.length<=QX then some ((x.length:Int) != 0) else none
 | .tuple ds=>some (!ds.isEmpty)
 | .list ds=>some (!ds.isEmpty)
 | .dict _=>none
def uT (a:DE->M CD):DE->M Bool:=λE F=>(a E F).bind λp=>(FQ p.1).bind λc=>some (c,p.2)
def fI (h:b9 K H ds xs):xs.isEmpty=ds.isEmpty:=by
 cases ds with
 | nil=>simp only[b9]at h;subst h;rfl
 | cons d r=>simp only[b9]at h;let(x,r,rfl,_):=h;rfl
def ur (ha:Eb K X a ta ma)(hK:‹X.K=K›)(he:autoParam (∀whole,isTrue a X.env whole=(do let v <-whole;standAt a.pos;holding [v] (truthy v))) qAk) :
  Et K X a (λσ H Q=>ta σ H λx H'=>∃k,Cu K x H' k/\Q k H') (uT ma):=#v[(by subst hK;refine λg s σ H Q I h=>isTrue_plain (thn (ha.pe g s σ H _ I h) λv s1 #v[x,o,A,r,t]=>Km g s1 σ o x v Q A r t)<|he _),λG B E F σ H Q d D I e q=>by
 obtain⟨⟨x,C⟩,y,e⟩:=bS9 e;let(c,f,e):=bS9 e;cases e;exact ha.ok G B E F σ H _ x C I y λv o u w j=>#v[_,(by
  cases x with
  | none=>cases j;cases f;rfl
  | bool b=>cases j;cases f;rfl
  | int i=>cases j;cases f;rfl
  | str x =>
   cases j;simp only[FQ]at f;split at f
   .rename_i hl;cases f;exact#v[hl,rfl]
   .cases f
  | tuple z =>let(p,l,rfl,m,n):=j;cases f;exact .inr (.inl #v[l,m.same d9,by rw[fI n]])
  | list z =>let(p,l,rfl,m,n):=j;cases f;exact .inl #v[l,SqL.of<|d9 _ _ m,by rw[fI n]]
  | dict d3=>exact(j).elim),q o u w]]
end
end

section
section
variable {K:Qf}
def cM {vs} (h:jQ K fp B H ds vs)(e:ds=[d]):∃v,vs=[v]/\L4 K fp B H d v:=by subst e;let(v,r,rfl,b,a):=h;cases a;exact#v[v,rfl,b]
def LL {vs} (h:jQ K fp B H ds vs)(eq:ds=[d,e]):∃v w,vs=[v,w]/\L4 K fp B H d v/\L4 K fp B H e w:=by subst eq;let(v,r,rfl,c,w,f,rfl,b,a):=h;cases a;exact#v[v,w,rfl,c,b]
def i2 (C:Int->Int->Prop)[∀i j,Decidable<|C i j](g:Int->Int->CD):CD->CD->Option CD
 | .int i,.int j=>if C i j then some (g i j) else none
 | _,_=>none
def vc [∀i j,Decidable<|C i j](h:i2 C g d e=some r):∃i j,d = .int i/\e = .int j/\C i j/\r=g i j:=by
 cases d <;> cases e <;> simp only[i2]at h <;> try cases h
 split at h
 .rename_i a;cases h;exact#v[_,_,rfl,rfl,a,rfl]
 .cases h
def GT [∀i j,Decidable<|C i j](ho:OpR X f (rI C g))(hg:∀H i j,c6 K H (gd i j)<|g i j):OpR X f (rD2 K<|i2 C gd):=by rintro a s b H x y v u Q I k c ⟨fp,B,d,e,r,bk,o,n,l,q⟩;let(i,j,rfl,rfl,m,rfl):=vc l;cases o;cases n;exact ho a s b H _ _ v u Q I k c #v[i,j,rfl,rfl,m,q _ H (i5.refl H)<|hg _ i j]
def nN (ho:OpR X f (rI0 g))(hg:∀H i j,c6 K H (gd i j)<|g i j):OpR X f (rD2 K<|i2 (λ_ _=>True) gd):=by rintro a s b H x y v u Q I k c ⟨fp,B,d,e,r,bk,n,m,l,q⟩;let(i,j,rfl,rfl,o,rfl):=vc l;cases n;cases m;exact ho a s b H _ _ v u Q I k c #v[i,j,rfl,rfl,q _ H (i5.refl H)<|hg _ i j]
abbrev lq :=i2 (λ_ _=>True) λi j=>.int<|i-j
def kn :OpR X (binaryOp .Sub) (rD2 K lq):=nN (Kz λ_ _ _ _ _ _ _ q=>sub_int q) λ_ _ _=>c6.int
instance:∀i j,Decidable (DZ i j):=λi j=>inferInstanceAs<|Decidable<|_/\_/\_
instance:∀i j,Decidable (yJ i j):=λi j=>inferInstanceAs<|Decidable<|(_/\_)\/(_/\_)
abbrev yR :=i2 (λ_ j=>0<j) λi j=>.int<|i % j
def sS :OpR X (binaryOp .Mod) (rD2 K yR):=GT bR λ_ _ _=>c6.int
def Dv (i j:Int):Prop:=j≠0/\j.natAbs<2 ^ 9000
instance {i j:Int}:Decidable (Dv i j):=inferInstanceAs<|Decidable<|_/\_
@[irreducible] def oA:Nat:=2 ^ 400000
def vi :oA=2 ^ 400000:=by unfold oA;rfl
def Big (i j:Int):Prop:=yJ i j\/(i.natAbs<oA/\j.natAbs<oA)
instance {i j:Int}:Decidable (Big i j):=inferInstanceAs<|Decidable<|_\/_
def vf (h:i.natAbs<2 ^ n):Builtin.Int.intBits i<=n:=by
 unfold Builtin.Int.intBits;split
 .exact CW _
 .rename_i a;exact(Qh (λz=>a (by simpa using z)) ).2 h
def Big.ok (h:Big i j):IntMulOk i j:=by
 rcases h with h | ⟨f,d⟩
 .exact h.ok
 .unfold IntMulOk;have e:Builtin.Int.intTooBig ((Builtin.Int.intBits i)+Builtin.Int.intBits j)=false:=by
   rw[vi]at f d;have a:=vf f;have b:=vf d;have c:bitsLine=134217728:=by decide
   refine yb ?_;rw[c];lia
  rw[e,Bool.and_false];exact tN
def EX :OpR X (binaryOp .Mult) (rI Big λi j=>.int<|i*j):=opI λ_ _ _ _ _ _ _ a q=>mul_int q a.ok
abbrev df :=i2 Dv λi j=>.int<|i.fdiv j
def aS :OpR X (binaryOp .FloorDiv) (rD2 K df):=GT (opI λi j _ _ _ _ _ a q=>by
 exact floordiv_int a.1 q<|.inl<|PyProof.noPylong_of_log2<|(Qh (λz=>a.1 (Int.natAbs_eq_zero.1 z)) ).2 a.2) λ_ _ _=>c6.int
abbrev ltD :=i2 (λ_ _=>True) λi j=>.bool<|decide (i<j)
abbrev gtD :=i2 (λ_ _=>True) λi j=>.bool<|decide (j<i)
abbrev geD :=i2 (λ_ _=>True) λi j=>.bool<|decide (j<=i)
def HF :OpR X (compareOp .Lt) (rD2 K ltD):=nN Hl λ_ _ _=>c6.bl
def md :OpR X (compareOp .Gt) (rD2 K gtD):=nN GG λ_ _ _=>c6.bl
def N4:CD->CD->Option CD
 | .int i,.int j=>some<|.int<|i+j
 | .str x,.str y=>if x.length+y.length<=QX then some (.str<|x++y) else none
 | .tuple xs,.tuple ys=>if xs.length+ys.length<=QX then some (.tuple<|xs++ys) else none
 | .list xs,.list ys=>if xs.length+ys.length<=QX then some (.list<|xs++ys) else none
 | _,_=>none
def b9.nil_of (h:b9 K H ds xs)(e:xs=[]):ds=[]:=by subst e;exact Kf.1 (by rw[<-h.length];rfl)
def C4 (hK:X.K=K):OpR X (binaryOp .Add) (rD2 K N4):=by
 rintro c s k H x y v u Q I o n ⟨fp,B,d,e,r,bk,C,A,f,q⟩;cases d <;> cases e <;> simp only[N4]at f <;> try cases f
 .cases C;cases A;exact gc c s k H _ _ v u Q I o n #v[_,_,rfl,rfl,q _ H (i5.refl H) c6.int]
 .cases C;cases A;split at f
  .rename_i hl;cases f;exact tW c s k H _ _ v u Q I o n #v[_,_,rfl,rfl,hl,q _ H (i5.refl H) c6.st]
  .cases f
 .let(a,m,rfl,w,i):=C;let(b,l,rfl,t,g):=A;split at f
  .rename_i hl;cases f;refine zk c s k H _ _ v u Q I o n #v[a,b,m,l,rfl,rfl,d9 _ _ w,d9 _ _ t,by rwa[i.length,g.length],λp j=>q _ _ (i5.upd j)<|G3 bk j<|b9.append g i]
  .cases f
 .let(a,m,rfl,w,i):=C;let(b,l,rfl,t,g):=A;split at f
  .rename_i hl;cases f;refine DU hK c s k H _ _ v u Q I o n #v[a,b,m,l,rfl,rfl,w.same d9,t.same d9,by rwa[i.length,g.length],λz=>q _ H (i5.refl H) ?_,λz=>q _ H (i5.refl H) ?_,λp j=>q _ _ (i5.upd j)<|Q3 bk j<|b9.append g i]
   .cases b9.nil_of i z;simp only[zY];exact#v[b,l,rfl,t,g]
   .cases b9.nil_of g z;simp only[Am];exact#v[a,m,rfl,w,i]
  .cases f
def JR:CD->CD->Option CD
 | .int i,.int j=>if Big i j then some (.int<|i*j) else none
 | .list xs,.int k=>if -(2 ^ 63)<=k/\k<2 ^ 63/\xs.length*k.toNat<=QX then some (.list (List.replicate k.toNat xs).flatten) else none
 | _,_=>none
theorem b9.rep (h:b9 K H ds xs):∀n,b9 K H (List.replicate n ds).flatten (List.replicate n xs).flatten
 | 0=>b9.nil
 | n+1=>by rw[Ft,Ft,Lp,Lp];exact b9.append (b9.rep h n) h
def JD :OpR X (binaryOp .Mult) (rD2 K JR):=by
 rintro b s g H x y v u Q I j i ⟨fp,B,d,e,r,bk,n,m,c,q⟩;cases d <;> cases e <;> simp only[JR]at c <;> try cases c
 .cases n;cases m;split at c
  .rename_i f;cases c;exact EX b s g H _ _ v u Q I j i #v[_,_,rfl,rfl,f,q _ H (i5.refl H) c6.int]
  .cases c
 .let(a,o,rfl,t,l):=n;cases m;split at c
  .rename_i f;cases c;exact JS b s g H _ _ v u Q I j i #v[a,_,o,rfl,rfl,d9 _ _ t,f.1,f.2.1,by rw[l.length];exact f.2.2,λp k=>q _ _ (i5.upd k)<|G3 bk k<|b9.rep l _]
  .cases c
open PySem.SeqAt in
def eqD (neg:Bool):CD->CD->Option CD
 | .str x,.str y=>some (.bool<|if neg then !decide (x=y) else decide (x=y))
 | d,e=>if shaped d=true/\shaped e=true then some (.bool<|if neg then !PyData.eqv d e else CD.eqv d e) else none
def lS (hK:X.K=K)(hu:X.A.units+64<Rl):OpR X (compareOp .Eq) (rD2 K<|eqD false):=by
 subst hK;rintro f s m H x y v u Q I i g ⟨fp,B,d,e,r,bk,l,k,c,q⟩;unfold eqD at c;split at c
 .cases c;cases l;cases k;rename_i a b;have e:decide (V.str a=V.str b)=decide (a=b):=by simp
  exact LY f s m H _ _ v u Q I i g #v[rfl,by rw[e];exact q _ H (i5.refl H) c6.bl ]
 .split at c
  .rename_i j;cases c;let(as,o):=E3 I _ x v l.dat i;let(bs,n):=E3 I _ y u k.dat g;exact eq_dataH o n j.1 j.2 hu #v[.bl _,H,I,rfl,q _ H (i5.refl H) c6.bl]
  .cases c
def HI (hK:X.K=K)(hu:X.A.units+64<Rl):OpR X (compareOp .NotEq) (rD2 K<|eqD true):=by
 subst hK;rintro f s m H x y v u Q I i g ⟨fp,B,d,e,r,bk,l,k,c,q⟩;unfold eqD at c;split at c
 .cases c;cases l;cases k;rename_i a b;have e:decide (V.str a=V.str b)=decide (a=b):=by simp
  exact Ln f s m H _ _ v u Q I i g #v[rfl,by rw[e];exact q _ H (i5.refl H) c6.bl ]
 .split at c
  .rename_i j;cases c;let(as,o):=E3 I _ x v l.dat i;let(bs,n):=E3 I _ y u k.dat g;exact ne_dataH o n j.1 j.2 hu #v[.bl _,H,I,rfl,q _ H (i5.refl H) c6.bl]
  .cases c
open PySem.SeqAt in
def inD (neg:Bool):CD->CD->Option CD
 | d,.list xs=>if shaped (.list xs)=true/\shaped d=true then some (.bool<|if neg then !(xs.any λy=>CD.eqv y d) else xs.any λy=>CD.eqv y d) else none
 | d,.tuple xs=>if shaped (.tuple xs)=true/\shaped d=true then some (.bool<|if neg then !(xs.any λy=>CD.eqv y d) else xs.any λy=>CD.eqv y d) else none
 | _,_=>none
def pk (hK:X.K=K)(hu:X.A.units+65<Rl):OpR X (compareOp .In) (rD2 K<|inD false):=by
 subst hK;rintro g s m H x y v u Q I j i ⟨fp,B,d,e,r,bk,l,k,a,q⟩;let(as,f):=E3 I _ x v l.dat j;let(bs,c):=E3 I _ y u k.dat i;cases e <;> simp only[inD]at a <;> try cases a
 .split at a
  .rename_i b;cases a;exact PySem.SeqAt.in_list_reads c f (by have:=Ek b.1;simpa only[CD.canLay0] using this) (Ek b.2) (room_in_shaped b.2 hu) #v[.bl _,H,I,rfl,q _ H (i5.refl H) c6.bl]
  .cases a
 .split at a
  .rename_i b;cases a;exact PySem.SeqAt.in_tuple_reads c f (by have:=Ek b.1;simpa only[CD.canLay0] using this) (Ek b.2) (room_in_shaped b.2 hu) #v[.bl _,H,I,rfl,q _ H (i5.refl H) c6.bl]
  .cases a
def Bs (hK:X.K=K)(hu:X.A.units+65<Rl):OpR X (compareOp .NotIn) (rD2 K<|inD true):=by
 subst hK;rintro g s m H x y v u Q I j i ⟨fp,B,d,e,r,bk,l,k,a,q⟩;let(as,f):=E3 I _ x v l.dat j;let(bs,c):=E3 I _ y u k.dat i;cases e <;> simp only[inD]at a <;> try cases a
 .split at a
  .rename_i b;cases a;exact PySem.SeqAt.notIn_list_reads c f (by have:=Ek b.1;simpa only[CD.canLay0] using this) (Ek b.2) (room_in_shaped b.2 hu) #v[.bl _,H,I,rfl,q _ H (i5.refl H) c6.bl]
  .cases a
 .split at a
  .rename_i b;cases a;exact PySem.SeqAt.notIn_tuple_reads c f (by have:=Ek b.1;simpa only[CD.canLay0] using this) (Ek b.2) (room_in_shaped b.2 hu) #v[.bl _,H,I,rfl,q _ H (i5.refl H) c6.bl]
  .cases a
end
end
section
section
variable {K:Qf}
def b9.at (h:b9 K H ds xs)(e:atI ds i=some d):∃v,atI xs i=some v/\c6 K H d v:=by
 unfold atI at e ⊢;rw[h.length];cases q:ixN ds.length i with
 | none=>rw[q]at e;cases e
 | some j =>
  rw[q]at e;have e:ds[j]? = some d:=e;let(c,_):=pG.1 e;have a:xs[j]? = some (xs[j]'(by rwa[h.length])):=by simp
  let(g,b,f):=h.get a;rw[e]at b;cases b;exact#v[_,a,f]
def ixD:CD->CD->Option CD
 | .list ds,.int i=>atI ds i
 | .tuple ds,.int i=>atI ds i
 | .str x,.int i=>if x.length<=QX then(atI x.cps.toList i).map λc=>.str #v[#[c]] else none
 | _,_=>none
def bz (hK:X.K=K):IxR X (rD2 K ixD):=by
 rintro b f g s k H x y v u Q I n m ⟨fp,B,d,e,r,bk,A,z,i,q⟩ o;cases d <;> cases e <;> simp only[ixD]at i <;> try cases i
 .cases A;cases z;split at i
  .rename_i hl;let(c,j,rfl):=sA.1 i;exact JM b f g s k H _ _ v u Q I n m #v[_,_,c,rfl,rfl,hl,j,q _ H (i5.refl H) c6.st] o
  .cases i
 .let(a,l,rfl,t,p):=A;cases z;let(w,j,C):=b9.at p i;exact AX hK b f g s k H _ _ v u Q I n m #v[a,l,_,w,rfl,rfl,SqL.of<|d9 _ _ t,j,q w H (i5.refl H) C] o
 .let(a,l,rfl,t,p):=A;cases z;let(w,j,C):=b9.at p i;exact Fv hK b f g s k H _ _ v u Q I n m #v[a,l,_,w,rfl,rfl,t.same d9,j,q w H (i5.refl H) C] o
def bD {α:Type}(xs:List α)(lo hi:Option Int):List α:=(xs.drop<|HT.sIx xs.length 0 lo).take<|HT.sIx xs.length xs.length hi-HT.sIx xs.length 0 lo
def tJ (lo hi:Option Int):CD->Option CD
 | .list ds=>some<|.list<|bD ds lo hi
 | .tuple ds=>some<|.tuple<|bD ds lo hi
 | .str x=>if x.length<=QX then some (.str<|Txt.slice x lo hi) else none
 | _=>none
theorem b9.drop :∀{ds} {xs} n,b9 K H ds xs->b9 K H (ds.drop n) (xs.drop n)
 | ds,xs,0,h=>h
 | [],xs,n+1,h=>by simp only[b9]at h;subst h;simp[b9]
 | d::ds,xs,n+1,h=>by simp only[b9]at h;let(y,r,rfl,b,a):=h;simp only[List.drop_succ_cons];exact b9.drop n a
def b9.cut (h:b9 K H ds xs)(lo hi):b9 K H (bD ds lo hi) (gQ xs lo hi):=by unfold bD gQ;rw[h.length];exact b9.take _<|b9.drop _ h
def KM (K:Qf):V->Option Int->Option Int->Hp->VK->Prop:=λx a b H Q=>∃fp B d r,BOk H B/\L4 K fp B H d x/\tJ a b d=some r/\∀v H',i5 H H'->c6 K (hid H' B) r v->Q v H'
def nD (h:IsPart v o):∃p,v=partValue p/\p.map (·.1)=o:=by
 cases h with
 | none=>exact#v[none,rfl,rfl]
 | int i t=>exact#v[some (i,t),rfl,rfl]
def Jn (hK:X.K=K):SlR X (KM K):=by
 rintro b s G H x v L J c g w Q I y D C A ⟨fp,B,d,r,bk,E,i,q⟩;cases d <;> simp only[tJ]at i <;> try cases i
 .rename_i k;cases E;split at i
  .rename_i hl;cases i;let(t,rfl):=y;let(l,rfl,rfl):=nD C;let(m,rfl,rfl):=nD A;refine#v["str",_,OJ.lookup,PF _ _ _,getItem_meets (PF _ _ _) (by decide) OJ F.entry_str_getitem (F.args_str_getitem_2 _ _) (meets_str_getitem_slice _ t w l m none rfl) #v[D,?_]];have z:=q _ H (i5.refl H) c6.st;unfold sliceMade;unfold Txt.slice at z;have e:slicePicked k l m none=Builtin.Str.strSliceIndices (l.map (·.1)) (m.map (·.1)) 1 k.length:=rfl;rw[e];simp only[Option.map_none,Qx];split
   .rename_i o;rw[nY o]at z;exact#v[.str k,H,I,#v[t,rfl],z]
   .rename_i o;rw[oj o]at z;refine#v[?_,#v[.str _,H,I.tok _,#v[_,rfl],z]];have:=Txt.slice_le k (l.map (·.1)) (m.map (·.1));unfold Txt.slice at this;rw[oj o]at this;exact uj this hl
  .cases i
 .let(a,j,rfl,u,n):=E;subst hK;exact wN b s G H _ v L J c g w Q I y D C A #v[a,j,rfl,SqL.of<|d9 _ _ u,λp f=>q _ _ (i5.upd f)<|G3 bk f<|b9.cut n c g]
 .let(a,j,rfl,u,n):=E;refine AN hK b s G H _ v L J c g w Q I y D C A #v[a,j,rfl,u.same d9,λz=>q _ H (i5.refl H) ?_,λ_ p f=>q _ _ (i5.upd f)<|Q3 bk f<|b9.cut n c g];have:=b9.cut n c g;rw[z.1]at this;simp only[c6];exact#v[a,j,rfl,u,this]
end
section
variable {K:Qf}
def TOd (K:Qf)(to:TO)(m:DE->M (Option Int)):Prop:=∀G B E F a H Q d b,SitE K G B E F a H->m E F=some (d,b) ->
 (∀H',Kp (j6 K G) H H'->FAt K G H' b->Q d H')->to a H Q
structure Eo K X e to m:Prop where
 po:PO X e to
 ok:TOd K to m
def oNo :DE->M (Option Int):=λ_ F=>some (none,F)
def F0:CD->Option Int
 | .int i=>some i
 | _=>none
def V9 (h:F0 d=some i):d = .int i:=by cases d <;> simp[F0]at h;rw[h]
def oI (a:DE->M CD):DE->M (Option Int):=λE F=>(a E F).bind λp=>(F0 p.1).bind λi=>some (some i,p.2)
def qB :Eo K X none vy oNo:=#v[wG,λG B E F a H Q d b I e q=>by cases e;exact q H Kp.refl I.fd]
def zL (h:Ev K X e te m):Eo K X (some e) (GB te) (oI m):=#v[mU h.pe,λG B E F b H Q d n I e q=>by
 obtain⟨⟨x,l⟩,j,e⟩:=bS9 e;let(i,g,e):=bS9 e;cases e;refine h.ok G B E F b H _ x l I j λv k c f a=>?_
 have:=V9 g;simp only at this;subst this;simp only[c6]at a;exact#v[i,a,q k c f]]
noncomputable def kY (a:DE->M CD)(l u:DE->M (Option Int)):DE->M CD:=λE F=>(a E F).bind λp=>(l E p.2).bind λx=>(u E x.2).bind λy=>(tJ x.1 y.1 p.1).bind λz=>some (z,y.2)
def kG {lo}(he:Eb K X e te m)(hl:Eo K X lo tl ml)(hh:Eo K X hi th mh)(hK:‹X.K=K›):Ev K X (.Subscript e (.Slice lo hi none p2) pos) (tSl (KM K) te tl th) (kY m ml mh) :=
 #v[qr (Jn hK) he.pe hl.po hh.po,λG B E F c H Q d N I e q=>by
  obtain⟨⟨x,j⟩,y,e⟩:=bS9 e;obtain⟨⟨l,i⟩,w,e⟩:=bS9 e;obtain⟨⟨h,J⟩,t,e⟩:=bS9 e;let(z,r,e):=bS9 e;cases e;refine he.ok G B E F c H _ x j I y λv D b p n=>hl.ok G B E j c D _ l i (I.step b p) w λC a o=>hh.ok G B E i c C _ h J (I.step (b.trans a) o) t λL f g=>#v[j6 K G,B,x,_,m9 I.bk ((b.trans a).trans f) g,n.step (a.trans f) I.fB,r,λu A s k=>q u A (((b.trans a).trans f).trans<|Kp.same s) (g.same s) k]]
end
section
variable {K:Qf}
def dy:List CD->Option CD
 | [.list ds]=>some<|.int ds.length
 | [.tuple ds]=>some<|.int ds.length
 | [.str x]=>if x.length<=QX then some (.int x.length) else none
 | _=>none
def aV (hK:X.K=K):w8 X (.builtin "len") (rDN K dy):=by
 rintro b s e H d us Q I r ⟨fp,B,l,z,bk,j,c,q⟩;unfold dy at c;split at c <;> try cases c
 .let(v,rfl,a,d,rfl,i,g):=cM j rfl;have:=q _ H (i5.refl H) c6.int;rw[<-g.length]at this;exact dk hK b s e H _ us Q I r #v[a,d,rfl,.inl<|SqL.of<|d9 _ _ i,this]
 .let(v,rfl,a,d,rfl,i,g):=cM j rfl;have:=q _ H (i5.refl H) c6.int;rw[<-g.length]at this;exact dk hK b s e H _ us Q I r #v[a,d,rfl,.inr<|i.same d9,this]
 .rename_i k;let(v,rfl,f):=cM j rfl;subst f;split at c
  .rename_i hl;cases c;exact nM b s e H _ us Q I r #v[_,rfl,hl,q _ H (i5.refl H) c6.int]
  .cases c
def M6:List CD->Option CD
 | [.list ds]=>some<|.tuple ds
 | [.tuple ds]=>some<|.tuple ds
 | _=>none
def R4 (hK:X.K=K):w8 X (.type "tuple") (rDN K M6):=by
 rintro b s g H c us Q I r ⟨fp,B,m,z,bk,k,e,q⟩;unfold M6 at e;split at e <;> try cases e
 .let(v,rfl,a,c,rfl,f,j):=cM k rfl;exact bV hK b s g H _ us Q I r #v[a,c,rfl,.inl #v[SqL.of<|d9 _ _ f,λl hl=>q _ _ (i5.upd hl)<|Q3 bk hl j]]
 .let(v,rfl,i):=cM k rfl;have d:=i.tup;let(a,c,rfl,f,j):=i;exact bV hK b s g H _ us Q I r #v[a,c,rfl,.inr #v[f.same d9,q _ H (i5.refl H) d]]
def G7:List CD->Option (List Int)
 | []=>some []
 | .int i::r=>(G7 r).map (i :: ·)
 | _=>none
theorem B4:∀{ds} {ns},G7 ds=some ns->ds=ns.map .int
 | [],ns,h=>by cases h;rfl
 | d::r,ns,h=>by
  cases d <;> simp only[G7]at h <;> try cases h
  let(m,e,rfl):=sA.1 h;rw[B4 e];rfl
theorem bY :∀{ns:List Int} {xs},b9 K H (ns.map .int) xs->xs=ns.map V.int
 | [],xs,h=>by simpa only[Cq,b9] using h
 | n::ns,xs,h=>by simp only[kX]at h;let(x,r,rfl,a,b):=h;simp only[c6]at a;rw[a,bY b];rfl
def dP (d:CD):Bool:=d.showable && !d.hasDict&&decide (d.depth<=50)&&decide (d.shown.length<=16000000)
end
end
section
section
variable {K:Qf}
def lF:List CD->Option CD
 | [d]=>if dP d=true then some (.str d.shown) else none
 | _=>none
def nV (hK:X.K=K)(hg:X.A.guards=some [])(hu:X.A.units+64<Rl):w8 X (.builtin "repr") (rDN K lF):=by
 rintro e s l H m us Q I r ⟨fp,B,n,z,bk,p,j,q⟩;unfold lF at j;split at j <;> try cases j
 rename_i d;split at j
 .rename_i g;cases j;let(v,rfl,c):=cM p rfl;have sh:=(show Shw d 50 16000000 by unfold dP at g;simp only[Jz,NH,Bool.not_eq_true']at g;exact#v[g.1.1.1,g.1.1.2,g.1.2,g.2])
  have f:=q _ H (i5.refl H) c6.st;cases d with
  | tuple n =>have k:=c.dat;let(a,m,rfl,o,_):=c;exact jj hK hg hu e s l H _ us Q I r #v[a,_,rfl,k,sh,f]
  | list n =>have k:=c.dat;let(a,m,rfl,o,_):=c;exact jj hK hg hu e s l H _ us Q I r #v[a,_,rfl,k,sh,f]
  | none =>cases(c);let(u,rfl,rfl):=C5 r;exact PySem.P.repr_of_none #v[.str _,H,I.tok _,#v[_,rfl],by simpa only[CD.shown] using f]
  | bool b =>cases(c);let(u,rfl,rfl):=C5 r;exact PySem.P.repr_of_bool #v[.str _,H,I.tok _,#v[_,rfl],by simpa only[CD.shown] using f]
  | int i =>
   cases(c);let(u,rfl,t,rfl):=C5 r;exact PySem.P.repr_of_int (by have:=sh.sh;simpa only[CD.showable,NH] using this) #v[.str _,H,I.tok _,#v[_,rfl],by simpa only[CD.shown] using f]
  | str x =>
   cases(c);let(u,rfl,t,rfl):=C5 r;exact PySem.P.repr_of_str #v[.str _,H,I.tok _,#v[_,rfl],by simpa only[CD.shown] using f] (by have:=sh.ln;simp only[CD.shown]at this;exact uj this (by rw[xD];decide))
  | dict b=>exact(c).elim
 .cases j
def iM:List CD->Option CD
 | [.int i]=>some<|.int i
 | [.bool b]=>some (.int<|if b then 1 else 0)
 | _=>none
def BV :w8 X (.type "int") (rDN K iM):=by
 rintro a s e H g us Q I r ⟨fp,B,j,z,bk,f,d,q⟩;unfold iM at d;split at d <;> try cases d
 .rename_i i;let(v,rfl,c):=cM f rfl;cases(c);exact lZ a s e H _ us Q I r<|.inl #v[i,rfl,q _ H (i5.refl H) c6.int]
 .rename_i b;let(v,rfl,c):=cM f rfl;cases(c);exact lZ a s e H _ us Q I r<|.inr #v[b,rfl,q _ H (i5.refl H) c6.int]
def yq:List CD->Option CD
 | [.int i]=>some (.int<|if i<0 then -i else i)
 | _=>none
def sZ :w8 X (.builtin "abs") (rDN K yq):=by
 rintro a s c H f us Q I r ⟨fp,B,g,z,bk,e,b,q⟩;unfold yq at b;split at b <;> try cases b
 rename_i i;let(v,rfl,d):=cM e rfl;cases(d);exact zZ a s c H _ us Q I r #v[i,rfl,q _ H (i5.refl H) c6.int]
def T3:List Int->Int
 | []=>0
 | [a]=>a
 | a::b::r=>min a<|T3 (b::r)
theorem aw:∀{ns},ns≠[]->T3 ns∈ns/\∀n∈ns,T3 ns<=n
 | [],h=>absurd rfl h
 | [a],_=>#v[by simp[T3],by simp[T3]]
 | a::b::r,_=>by
  let(e,d):=aw (ns:=b::r) (by simp);rw[T3];constructor
  .by_cases h:a<=T3 (b::r)
   .rw[Int.min_eq_left h];simp
   .rw[Int.min_eq_right<|by lia];exact kN _ e
  .intro n c;rcases oZ.1 c with rfl | c
   .exact Int.min_le_left _ _
   .exact Int.le_trans (Int.min_le_right _ _)<|d n c
def ye:List CD->Option CD
 | [.tuple ds]=>(G7 ds).bind λa=>if a=[] then none else some (.int<|T3 a)
 | [.int i,.int j]=>some (.int<|if j<i then j else i)
 | _=>none
def sQ (hK:X.K=K)(hc:X.calm=true):w8 X (.builtin "min") (rDN K ye):=by
 rintro b s g H n us Q I r ⟨fp,B,C,z,bk,l,c,q⟩;unfold ye at c;split at c <;> try cases c
 .let(k,e,c):=bS9 c;split at c
  .cases c
  .rename_i d;cases c;cases B4 e;let(v,rfl,a,n,rfl,A,y):=cM l rfl;cases bY y;refine yP hK hc b s g H _ us Q I r #v[a,k,rfl,A.same d9,d,λm x f=>?_];let(p,o):=aw d;have:m=T3 k:=by have:=f _ p;have:=o _ x;lia
   rw[this];exact q _ H (i5.refl H) c6.int
 .rename_i i j;let(v,w,rfl,u,t):=LL l rfl;cases(u);cases(t);exact yg hc b s g H _ us Q I r #v[i,j,rfl,q _ H (i5.refl H) c6.int]
def tw:CD->Option CD
 | .int i=>some<|.int (-i)
 | _=>none
def mP :UnR X (unaryOp .USub) (rD1 K tw):=by
 rintro a s c H x v Q I e ⟨fp,B,d,r,bk,f,b,q⟩;cases d <;> simp only[tw]at b <;> try cases b
 rename_i i;cases(f);exact sF a s c H _ v Q I e #v[i,rfl,q _ H (i5.refl H) c6.int]
end
section
variable {K:Qf}
def isD (neg:Bool):CD->CD->Option CD
 | d,.none=>some (.bool (match d with | .none=>!neg | _=>neg))
 | _,_=>none
def wR (h:L4 K fp B H d x):decide (x = .non)=(match d with | .none=>true | _=>false):=by
 cases d with
 | none=>cases(h);rfl
 | bool b=>cases(h);rfl
 | int b=>cases(h);rfl
 | str b=>cases(h);rfl
 | tuple e=>let(a,c,rfl,_):=h;rfl
 | list e=>let(a,c,rfl,_):=h;rfl
 | dict b=>exact(h).elim
def Hx :OpR X (compareOp .Is) (rD2 K<|isD false):=by
 rintro a s c H x y v u Q I g f ⟨fp,B,d,e,r,bk,j,i,b,q⟩;cases e <;> simp only[isD]at b <;> try cases b
 cases(i);exact HU a s c H _ _ v u Q I g f #v[rfl,q (.bl<|decide (x = .non)) H (i5.refl H) (by rw[wR j];cases d <;> exact c6.bl) ]
def pP :OpR X (compareOp .IsNot) (rD2 K<|isD true):=by
 rintro a s c H x y v u Q I g f ⟨fp,B,d,e,r,bk,j,i,b,q⟩;cases e <;> simp only[isD]at b <;> try cases b
 cases(i);exact FW a s c H _ _ v u Q I g f #v[rfl,q (.bl (!decide (x = .non))) H (i5.refl H) (by rw[wR j];cases d <;> exact c6.bl) ]
end
end
section
section
variable {K:Qf}
def AH (x:Str):Str:=#v[((Builtin.Str.strSliceIndices none none (-1) x.length).filterMap (x.cps[·]?)).toArray]
def AL (x):(AH x).length<=x.length:=by
 have e:(AH x).length=((Builtin.Str.strSliceIndices none none (-1) x.length).filterMap (x.cps[·]?)).length:=by simp[AH,Str.length]
 rw[e];exact uj (List.length_filterMap_le (λi=>x.cps[i]?)<|Builtin.Str.strSliceIndices none none (-1) x.length) (sliceIndicesBy_le none none (-1) (by decide) x.length)
def zE:CD->Option CD
 | .list ds=>some<|.list ds.reverse
 | .tuple ds=>some<|.tuple ds.reverse
 | .str x=>if x.length<=QX then some (.str<|AH x) else none
 | _=>none
def DK {j}(hK:X.K=K)(he:PE X e te):PE X (.Subscript e (.Slice none none (some<|.UnaryOp .USub (.Constant (.int 1) j p) p3) p2) pos) (tUn (rD1 K zE) te):=by
 subst hK;refine λc s y H Q I h=>Subscript_ (thn (he c s y H _ I h) ?_ );rintro v s1 ⟨x,O,V,D,R⟩;refine wpAny_Slice ?_;rw[evalPart_none];refine iO<|iO<|thn (mU (AG sF x9) c s1 y O (λo m=>o=some (-1)/\m=O) V #v[1,rfl,_,rfl,rfl,rfl]) ?_;rintro u s2 ⟨o,m,U,E,S,T⟩
 subst S T;let(fp,B,d,r,bk,L,f,q):=R;have k:Inv X c y m { s2 with heap:=s2.heap.push { cls:=.type "slice",data:=.fields #[.none,.none,u] } }:=U.kept λb N q=>jM _ q
 cases d <;> simp only[zE]at f <;> try cases f
 .rename_i n;cases(L);split at f
  .rename_i hl;cases f;let(t,rfl):=D;let(l,rfl,M):=nD E;obtain⟨⟨W,P⟩,rfl⟩:∃z,l=some z:=by
    cases l with
    | none=>cases M
    | some z=>exact#v[z,rfl]
   simp at M;subst M;refine tail_any (PF _ _ _) OJ.lookup (getItem_meets (PF _ _ _) (by decide) OJ F.entry_str_getitem (F.args_str_getitem_2 _ _) (meets_str_getitem_slice n t (~~~s2) none none (some (-1,P)) rfl) #v[#v[_,ou _ rfl,rfl,rfl],?_]) (by with_unfolding_all rfl);unfold sliceMade;rw[oj<|by simp];exact#v[uj (AL n) hl,#v[.str<|AH n,m,k.tok _,#v[_,rfl],q _ m (i5.refl m) c6.st ]]
  .cases f
 .let(a,A,rfl,J,G):=L;cases D;let(i,r,w,C):=k.list<|SqL.of<|d9 _ _ J;have g:=r.length;refine tail_any w.isList.typeIs slot_list_getitem.lookup (wpAny_getItem_list_slice w.isList (Qj ..) .none .none E (by decide) ?_ (by rw[tG] <;> lia)) (by with_unfolding_all rfl);rw[PySem.W.krv_pick];refine#v[.ref _,_,k.laid (o:=.lst A.reverse) (λb N q=>jM _ q) (qD _) ?_,rfl,?_]
  .exact#v[by rwa[PZ],i.reverse,0,r.reverse,ou _ rfl]
  .have f:=k.hok.fresh<|qD _;exact q _ _ (i5.upd f)<|G3 bk f<|b9.reverse G
 .let(a,A,rfl,J,G):=L;cases D;let(i,r,w,C):=k.tuple<|J.same d9;have g:i.toArray.size=A.length:=by rw[tG];exact r.length.symm
  refine tail_any w.typeIs Be.lookup (HT.getItem_tuple_rev w (Qj ..) E (#v[.ref _,_,k.laid (o:=.tup A.reverse) (λb N q=>jM _ q) (qD _) ?_,rfl,?_]) (by rwa[g])) (by with_unfolding_all rfl)
  .exact#v[by rwa[PZ],_,r.reverse,Pw _ _,.mk (ou _ rfl) rfl]
  .have f:=k.hok.fresh<|qD _;exact q _ _ (i5.upd f)<|Q3 bk f<|b9.reverse G
def IZ {j}(h:Eb K X e te m)(hK:‹X.K=K›):Ev K X (.Subscript e (.Slice none none (some<|.UnaryOp .USub (.Constant (.int 1) j p) p3) p2) pos) (tUn (rD1 K zE) te) (s1 zE m):=#v[DK hK h.pe,GY h.ok]
end
end
end L3
namespace L3
open PySem PySem.Spec L2
def gm:fillsNumberSlot (.type "tuple") "mul" = pure false :=
 fillsNumberSlot_seq Ol.lookup (by decide +kernel) F.slot_tuple_rmul.lookup (by decide +kernel)
def mN:seqRepeat? (.type "tuple")=pure (some<|.builtin "tuple.__mul__"):=by unfold seqRepeat?;rw[seqSlot_of (name:="__mul__") Ol.lookup (by decide +kernel),seqSlot_of (name:="__rmul__") F.slot_tuple_rmul.lookup<|by decide +kernel];rfl
def ux (l) (items) (n) (dd) (sl) (k) (u) (hc0:(decide (k < -(2 ^ 63))||decide (k >= 2 ^ 63))=false)(hc1:(items.isEmpty||k == 1)=true) :
  Meets (Builtin.«tuple.__mul__» #v[[.ref l,.int k u],[]]) (λ_ R s=>s.heap.get? l=some { cls:=.type "tuple",dict:=dd,data:=.seq items n,slots:=sl }/\R (.ok<|.ret<|.ref l) s) :=
 .of_wp λa w A R s h=>by let(e,g,d,b,c):=s;let(hl,h):=h;have o:=AutoSeq1.idx_int;have i:=OT;have f:=OU;wp_walk;refine PP (by rw[hc0];rfl) ?_;wp_walk;exact#v[_,rfl,h]
def uy (l) (items) (n) (dd) (sl) (k) (u) (hc0:(decide (k < -(2 ^ 63))||decide (k >= 2 ^ 63))=false)(hc1:(items.isEmpty||k == 1)=false)(hc2:(decide (k<=0)||items.isEmpty)=true) :
  Meets (Builtin.«tuple.__mul__» #v[[.ref l,.int k u],[]]) (λ_ R s=>s.heap.get? l=some { cls:=.type "tuple",dict:=dd,data:=.seq items n,slots:=sl }/\R (.ok<|.ret<|.ref (~~~s)) { s with heap:=s.heap.push { cls:=.type "tuple",data:=.seq #[] } }) :=
 .of_wp λa w A R s h=>by let(e,g,d,b,c):=s;let(hl,h):=h;have o:=AutoSeq1.idx_int;have i:=OT;have f:=OU;wp_walk;refine PP (by rw[hc0];rfl) ?_;wp_walk;exact#v[_,rfl,h]
def tY (l) (items) (n) (dd) (sl) (k) (u) (hc0:(decide (k < -(2 ^ 63))||decide (k >= 2 ^ 63))=false)(hc1:(items.isEmpty||k == 1)=false)(hc2:(decide (k<=0)||items.isEmpty)=false)(hc3:decide ((items.size:Int)*k > (2 ^ 63-1) / 8)=false)(hc4:Builtin.Tuple.tupleTooMany ((items.size:Int)*k)=false)
  (hsz:(List.foldl (λx1 x2=>x1++x2) #[] (List.replicate k.toNat items)).size<=QX) :
  Meets (Builtin.«tuple.__mul__» #v[[.ref l,.int k u],[]]) (λ_ R s=>s.heap.get? l=some { cls:=.type "tuple",dict:=dd,data:=.seq items n,slots:=sl }/\R (.ok<|.ret<|.ref (~~~s)) { s with heap:=s.heap.push { cls:=.type "tuple",data:=.seq (List.foldl (λx1 x2=>x1++x2) #[] (List.replicate k.toNat items)) } }) :=
 .of_wp λa w A R s h=>by let(e,g,d,b,c):=s;let(hl,h):=h;have o:=AutoSeq1.idx_int;have i:=OT;have f:=OU;wp_walk;refine PP (by rw[hc0];rfl) ?_;wp_walk;refine PP hc3 ?_;wp_walk;exact#v[_,rfl,h]
section
open PyProof.Rows
variable {K:Qf}
def Y2:CD->CD->Option CD
 | .tuple xs,.int k=>if -(2 ^ 63)<=k/\k<2 ^ 63/\xs.length*k.toNat<=QX then some (.tuple (List.replicate k.toNat xs).flatten) else none
 | d,e=>JR d e
def Gp (hK:X.K=K):OpR X (binaryOp .Mult) (λx y H Q=>∃l k xs,x = .ref l/\y = .int k/\SqT K H l xs /\ -(2 ^ 63)<=k/\k<2 ^ 63/\xs.length*k.toNat<=QX /\
  ((List.replicate k.toNat xs).flatten=xs->Q (.ref l) H)/\∀p,H p=none->Q (.ref p) (upd H p<|.tup (List.replicate k.toNat xs).flatten)):=by
 subst hK;intro N s σ H x y v u Q I rx Z h;let(l,k,xs,rfl,rfl,hq,h1,h2,G,q0,L):=h;cases rx;let(t,rfl):=Z;let(c,r,p,hl):=I.tuple hq;have i:=r.length;obtain⟨⟨ad,J,S,E⟩,C,P,n,O⟩:=id p;simp only at P O;subst P O;have B:(decide (k < -(2 ^ 63))||decide (k >= 2 ^ 63))=false:=by rw[yb (by lia),yb<|by lia];rfl
 have D:s.TypeIs (.ref l) "tuple":=#v[_,C,rfl];refine wpAny_binaryOp_repeat_ref (by decide) D (λY=>typeIs_int Y k t) gm F.fills_int_mul PH mN F.slot_int_index.lookup
  (NQ PH (typeIs_int s k t) F.entry_int_rmul (F.args_int_rmul_2 _ _) ((show Meets (Builtin.«int.__rmul__» #v[[.int k t,.ref l],[]]) (λ_ R s=>s.heap.get? l=some { cls:=.type "tuple",dict:=J,data:=.seq c.toArray n,slots:=E }/\R (.ok<|.ret My.notImplemented) s) from .of_wp λM w A R s h=>by let(hp,g,d,tk,os):=s;let(hl,h):=h;wp_walk;exact#v[_,rfl,h])) #v[C,rfl,D,?_])
 by_cases e:(c.toArray.isEmpty||k == 1)=true
 .refine NQ Ol D F.entry_tuple_mul (Ql _ _) (ux l c.toArray n J E k t B e) #v[C,#v[.ref l,H,I,rfl,q0 ?_]];simp only[Bool.or_eq_true,beq_iff_eq]at e;rcases e with e | e
  .have:xs=[]:=by
    cases r with
    | nil=>rfl
    | cons a b=>simp at e
   subst this;simp
  .subst e;simp
 .have e:(c.toArray.isEmpty||k == 1)=false:=by simpa using e
  by_cases m:(decide (k<=0)||c.toArray.isEmpty)=true
  .refine NQ Ol D F.entry_tuple_mul (Ql _ _) (uy l c.toArray n J E k t B e m) #v[C,?_];have ez:(List.replicate k.toNat xs).flatten=[]:=by
    rw[Bool.or_eq_false_iff]at e;rw[e.1,Bool.or_false]at m;have:k.toNat=0:=by have:=xO m;lia
    rw[this];rfl
   have z:=L _ I.fresh;rw[ez]at z;exact#v[.ref _,_,I.laid (o:=.tup []) (λb ob q=>jM _ q) (qD _) #v[CW _,[],.nil,Pw _ _,.mk (ou _ rfl) rfl],rfl,z]
  .have m:(decide (k<=0)||c.toArray.isEmpty)=false:=by simpa using m
   have ac:0<k:=by rw[Bool.or_eq_false_iff]at m;have:=Ig m.1;lia
   have hm:c.toArray.size*k<=QX:=by obtain⟨j,rfl⟩:∃j:Nat,k=j:=#v[k.toNat,by lia];rw[tG,<-i];simp only[yB]at G;exact_mod_cast G
   have f:List.foldl (λW V=>W++V) #[] (List.replicate k.toNat c.toArray)=(List.replicate k.toNat c).flatten.toArray:=by have:=gG c k.toNat [];rwa[zY]at this
   have ab:QX<=(2 ^ 63-1) / 8:=by rw[xD];decide
   refine NQ Ol D F.entry_tuple_mul (Ql _ _) (tY l c.toArray n J E k t B e m (yb<|by lia) (yb<|by lia) ?_) #v[C,?_]
   . rwa[f,tG,oy,<-i,Qy]
   .rw[f];exact#v[.ref _,_,I.laid (o:=.tup (List.replicate k.toNat xs).flatten) (λb ob q=>jM _ q) (qD _) #v[by rwa[oy,Qy],_,r.rep k.toNat,Pw _ _,.mk (ou _ rfl) rfl],rfl,L _ I.fresh]
def Y6 (hK:X.K=K):OpR X (binaryOp .Mult) (rD2 K Y2):=by
 rintro b s i H x y v u Q I m l ⟨z,B,d,e,r,bk,w,t,c,q⟩;unfold Y2 at c;split at c
 .rename_i A k;let(a,j,rfl,o,f):=w;cases(t);split at c
  .rename_i g;cases c;refine Gp hK b s i H _ _ v u Q I m l #v[a,k,j,rfl,rfl,o.same d9,g.1,g.2.1,by rw[f.length];exact g.2.2,λe=>q _ H (i5.refl H) ?_,λp n=>q _ _ (i5.upd n)<|Q3 bk n<|b9.rep f _];have:=b9.rep f k.toNat;rw[e]at this;simp only[c6];exact#v[a,j,rfl,o,this]
  .cases c
 .exact JD b s i H x y v u Q I m l #v[z,B,d,e,r,bk,w,t,c,q]
end
end L3
namespace L3
open PySem PySem.Spec PyProof.Rows L2
variable {es:List QV}{o:HO}
section
section
def ee (K:Qf)(P:Hp->List QN->Prop)(J:It)(items:List CD):Prop:=∀H B,P H B ->
 (∀i d,items[i]? = some d->J.go i H/\∀x a,J.yld i H x a->i5 H a/\(BOk H B->c6 K (hid a B) d x))/\J.stop items.length H
def TId (K:Qf)(wi:TI)(mi:DE->M (List CD)):Prop:=∀G B E F b H R c d,SitE K G B E F b H->mi E F=some (c,d) ->
 (∀J a,Kp (j6 K G) H a->FAt K G a d->ee K (λe f=>i5 (hid a B)<|hid e f) J c->R J a)->wi b H R
def TIs (K:Qf)(wi:TI)(mi:DE->M (List CD)):Prop:=∀G B E F b H R c e,SitE K G B E F b H->mi E F=some (c,e) ->
 (∀J a,Kp (j6 K G) H a->FAt K G a e->ee K (λd f=>Kp (j6 K G) a d/\i5 (hid a B) (hid d f)) J c->R J a)->wi b H R
def TId.sh {K}(h:TId K wi mi):TIs K wi mi:=λG B E F a H R b g I e q=>h G B E F a H R b g I e λJ d k f ok=>q J d k f λc i kp=>ok c i kp.2
structure Ei K X tg iter wi mi:Prop where
 pi:PI X tg iter wi
 ok:TId K wi mi
structure Eib K X tg iter wi mi:Prop where
 pi:PI X tg iter wi
 ok:TIs K wi mi
variable {K:Qf}
def Ei.bw (h:Ei K X tg iter wi mi):Eib K X tg iter wi mi:=#v[h.pi,h.ok.sh]
def Ke (K:Qf)(tl:TE):TI:=λd H R=>tl d H λx b=>∃a,x = .ref a/\(((∃c,SqL K b a c)/\R (Itl K a) b)\/((∃c,SqT K b a c)/\R (Itt K a) b))
def BI (hK:X.K=K)(hl:PE X l tl):PI X tg l (Ke K tl):=by
 subst hK;refine λd s k H R I h=>thn (hl d s k H _ I h) ?_;rintro v s1 ⟨x,j,c,r,t⟩
 let(a,e,q):=t;subst e;cases r;rcases q with ⟨⟨m,g⟩,q⟩ | ⟨⟨m,g⟩,q⟩
 .let(f,n,p,u):=c.list g;refine wpAny_pyIter_list p.isList<|#v[~~~s1,[~~~s1],_,_,j,rfl,c.kept λb o e=>jM _ e,yh a _,#v[_,ou _ rfl,rfl,rfl],λb i=>?_,q];have e:b=( ~~~s1):=by simpa using i
  subst e;exact c.fpOk (qD _)<|c.hok.fresh<|qD _
 .let(f,n,p,u):=c.tuple g;refine Ld (p)<|#v[~~~s1,[~~~s1],_,_,j,rfl,c.kept λb o e=>jM _ e,sL a _,#v[_,ou _ rfl,rfl,rfl],λb i=>?_,q];have e:b=( ~~~s1):=by simpa using i
  subst e;exact c.fpOk (qD _)<|c.hok.fresh<|qD _
def mn:CD->Option (List CD)
 | .list ds=>some ds
 | .tuple ds=>some ds
 | _=>none
def M4 (a:DE->M CD):DE->M (List CD):=λE F=>(a E F).bind λp=>(mn p.1).bind λb=>some (b,p.2)
def b9.item {i:Nat}(h:b9 K H ds xs)(e:ds[i]? = some d):∃v,xs[i]? = some v/\c6 K H d v:=by
 let(c,_):=pG.1 e;have a:xs[i]? = some (xs[i]'(by rwa[h.length])):=by simp
 let(g,b,f):=h.get a;rw[e]at b;cases b;exact#v[_,a,f]
def wy (h:∀H B,P H B->H a=some (.lst xs)/\b9 K (hid H B) ds xs):ee K P (Itl K a) ds:=λH B g=>by let(b,c):=h H B g;refine#v[λi d e=>?_,#v[xs,SqL.of b,by rw[c.length];exact qD _]];let(v,f,j):=b9.item c e;refine#v[#v[xs,v,SqL.of b,f],λx k y=>?_];let(rfl,y):=y;have:=y xs<|SqL.of b;rw[f]at this;cases this;exact#v[i5.refl _,λ_=>j]
def CF (h:∀H B,P H B->SqT K H a xs/\b9 K (hid H B) ds xs):ee K P (Itt K a) ds:=λH B g=>by let(b,c):=h H B g;refine#v[λi d e=>?_,#v[xs,b,by rw[c.length];exact qD _]];let(v,f,j):=b9.item c e;refine#v[#v[xs,v,b,f],λx k y=>?_];let(rfl,y):=y;have:=y xs b;rw[f]at this;cases this;exact#v[i5.refl _,λ_=>j]
def bu (h:Ev K X e te m)(hK:‹X.K=K›):Ei K X tg e (Ke K te) (M4 m):=#v[BI hK h.pe,λG B E F l H R u w I e q=>by
 obtain⟨⟨y,r⟩,o,e⟩:=bS9 e;let(z,g,e):=bS9 e;cases e;refine h.ok G B E F l H _ y r I o λv k i j c=>?_
 cases y with
 | list n =>cases g;simp only[c6]at c;let(a,d,rfl,b,f):=c;refine#v[a,rfl,.inl #v[#v[d,SqL.of<|d9 _ _ b],q _ k i j<|wy λp t s=>#v[d9 _ _<|s _ _ b,f.same s]]]
 | tuple n =>cases g;simp only[c6]at c;let(a,d,rfl,b,f):=c;refine#v[a,rfl,.inr #v[#v[d,b.same d9],q _ k i j<|CF λp t s=>#v[(b.same s).same d9,f.same s]]]
 | _=>cases g]
def C6 (h:Eb K X e te m)(hK:‹X.K=K›):Eib K X tg e (Ke K te) (M4 m):=#v[BI hK h.pe,λG B E F n H R u w I e q=>by
 obtain⟨⟨y,s⟩,p,e⟩:=bS9 e;let(z,f,e):=bS9 e;cases e;refine h.ok G B E F n H _ y s I p λv l g j i=>?_
 cases y with
 | list o =>cases f;let(a,c,rfl,b,d):=i;refine#v[a,rfl,.inl #v[#v[c,SqL.of<|d9 _ _ b],q _ l g j<|wy λr t k=>#v[d9 _ _<|k.1.hid (λ_ z=>z) _ _ b,d.same k.2]]]
 | tuple o =>cases f;let(a,c,rfl,b,d):=i;refine#v[a,rfl,.inr #v[#v[c,b.same d9],q _ l g j<|CF λr t k=>#v[(b.same k.2).same d9,d.same k.2]]]
 | _=>cases f]
def iE (lo:Int)(n:Nat):List CD:=(List.range n).map λ(i:Nat)=>.int<|lo+i
def Kq {lo}:ee K P (Itr lo n) (iE lo n):=λH B _=>by refine#v[λi d e=>?_,by show n<=_;simp[iE]];unfold iE at e;rw[sq]at e;let(j,c,rfl):=sA.1 e;let(a,b):=pG.1 c;simp at a b;subst b;refine#v[a,λx f y=>?_];let(rfl,rfl):=y;exact#v[i5.refl _,λ_=>c6.int]
def aM:List CD->Option (List CD)
 | [.int j]=>if -(2 ^ 62)<=j/\j<2 ^ 62 then some (iE 0 j.toNat) else none
 | _=>none
def aZ (a:DE->M (List CD)):DE->M (List CD):=λE F=>(a E F).bind λp=>(aM p.1).bind λb=>some (b,p.2)
def Y5 (h:Ea K X [a] ta ms)(hm:X.mg "range" = none)(hg:‹Gl X "range"›)(hs:‹QY [a] X.env=[(false,eval a X.env)]›):Ei K X tg (.Call (.Name "range" p) [a] [] pos) (GQ ta) (aZ ms):=#v[yp hg hm h.pa hs,λG B E F k H R u v I e q=>by
 obtain⟨⟨d,s⟩,n,e⟩:=bS9 e;let(z,b,e):=bS9 e;cases e;refine h.ok G B E F k H _ d s I n λt o l m i=>?_
 unfold aM at b;split at b
 .rename_i j c;split at b
  .rename_i f;cases b;subst c;simp only[b9]at i;let(x,r,rfl,g,rfl):=i;simp only[c6]at g;subst g;exact#v[j,rfl,f.1,f.2,q _ o l m Kq]
  .cases b
 .cases b]
def TGd (K:Qf)(g:TG)(bd:CD->DE->Option DE):Prop:=∀G B E F c H x d b (Q:St->Hp->Prop),SitE K G B E F c H->c6 K (hid H B) d x->bd d E=some b ->
 (∀a,SitE K G B b F a H->(∀i:Nat,(∀y,b[i]? ≠ some (some<|.dat y))->b[i]? = E[i]? /\ a[i]? = c[i]?)->Q a H)->g x c H Q
def MO (K:Qf)(g:TGs)(bd:List CD->DE->Option DE):Prop:=∀G B E F c H d e b (Q:St->Hp->Prop),SitE K G B E F c H->b9 K (hid H B) e d->bd e E=some b ->
 (∀a,SitE K G B b F a H->(∀i:Nat,(∀y,b[i]? ≠ some (some<|.dat y))->b[i]? = E[i]? /\ a[i]? = c[i]?)->Q a H)->g d c H Q
structure Eg K X tg g bd:Prop where
 pg:PG X tg g
 ok:TGd K g bd
structure Egs K X tgs g bd:Prop where
 pg:PGs X tgs g
 ok:MO K g bd
def bN (i:Nat):CD->DE->Option DE:=λd E=>if i<E.length then some (E.set i<|some<|.dat d) else none
def SitE.set (I:SitE K G B E F σ H)(h:c6 K (hid H B) d v)(hi:i<E.length):SitE K G B (E.set i<|some<|.dat d) F (σ.set i<|some v) H:=by
 refine#v[I.fd,I.fB,I.bk,by rw[As,As];exact I.ln,λj x e=>?_];by_cases a:i=j
 .subst a;rw[sP hi]at e;cases e;exact#v[v,by rw[sP (by rw[<-I.ln];exact hi) ],h]
 .rw[sv a]at e;rw[sv a];exact I.loc j x e
def C3 (hN:X.N.Nodup)(hi:‹X.N[i]? = some x›)(hx:autoParam (Loc X.env.scope x) gV)(hf:autoParam (X.fn x=true\/X.env.scope.names.lookup x=some .local) gV):Eg K X (.Name x pos) (Q9 i) (bN i):=#v[(by
 intro b s c H v u Q I r h;exact wpAny_assign_Name<|ae I hN hi hx r (λk g=>#v[_,H,g,h]) hf),λG B E F c H x d l Q I h e q=>by
 unfold bN at e;split at e
 .rename_i hl;cases e;refine q _ (I.set h hl) λj f=>?_
  by_cases a:i=j
  .subst a;exact absurd (sP hl) (f d)
  .rw[sv a,sv a];exact#v[rfl,rfl]
 .cases e]
def J7 {cl C ex π s H}(hN:N.Nodup:=by decide +kernel)(hi:‹N[i]? = some x›)(hx:autoParam (Loc (cxC X N scope cl C ex π s H).env.scope x) gV)(hf:autoParam ((cxC X N scope cl C ex π s H).fn x=true\/(cxC X N scope cl C ex π s H).env.scope.names.lookup x=some .local) gV):Eg K (cxC X N scope cl C ex π s H) (.Name x pos) (Q9 i) (bN i):=C3 hN hi hx hf
def D6 :List CD->DE->Option DE:=λa E=>if a.isEmpty then some E else none
def i7 (a:CD->DE->Option DE)(r:List CD->DE->Option DE):List CD->DE->Option DE
 | d::ds,E=>(a d E).bind λb=>r ds b
 | [],_=>none
def n0 :Egs K X [] LO D6:=#v[(by
 intro b s a H g us Q I r h;let(e,h):=h;subst e;cases r;exact assignInOrder_nil #v[a,H,I,h]),λG B E F a H f c i Q I h e q=>by
 cases c with
 | nil=>cases e;simp only[b9]at h;exact#v[h,q a I λ_ _=>#v[rfl,rfl]]
 | cons d r=>cases e]
def f7 (h1:Eg K X e t ba)(h2:Egs K X es u br)
  (hs:‹(Rk (e::es) X.env).map (·.2)=assign e X.env::(Rk es X.env).map (·.2)›):Egs K X (e::es) (Gy t u) (i7 ba br):=#v[(by
   intro a s g H R us Q I r h;let(v,S,j,h):=h;subst j;cases r with
   | cons r c =>rw[hs];refine assignInOrder_cons (thn (h1.pg a s g H _ _ _ I r h) ?_ );rintro _ s1 ⟨b,N,k,o⟩;exact h2.pg a s1 b N _ _ Q k c o),λG B E F g H P D O Q I h e q=>by
 cases D with
 | nil=>cases e
 | cons d r =>
  let(n,j,e):=bS9 e;simp only[b9]at h;let(x,c,rfl,A,C):=h;refine#v[x,c,rfl,h1.ok G B E F g H x d n _ I A j λb k w=>h2.ok G B n F b H c r O _ k C e λf M p=>q f M λi l=>?_ ]
  let(m,L):=p i l;let(J,b2):=w i (λy z=>l y<|m.trans z);exact#v[m.trans J,L.trans b2]]
def D4 (n:Nat)(r:List CD->DE->Option DE):CD->DE->Option DE
 | .tuple ds,E=>if ds.length=n then r ds E else none
 | _,_=>none
def w6 (hc:X.calm=true)(h:Egs K X es t br)(hK:‹X.K=K›)
  (hn:‹(Rk es X.env).length=n›) (hst:‹(Rk es X.env).findIdx? (·.1)=none›):Eg K X (.Tuple es k pos) (Kt K n t) (D4 n br):=#v[(by subst hK;intro c s f H v u Q I r j;let(a,g,C,y,hl,j):=j;subst C;cases r;let(p,l,w,L):=I.tuple y;refine assign_Tuple_tuple (I.ok.hd hc) w (by simp[hn,<-hl,l.length]) hst λA i=>?_;exact h.pg c _ f H g _ Q (I.kept λb o e=>i b o (uu<|pz e) e) (by simpa using l) j),λG B E F f H x d J Q I m e q=>by
 cases d <;> simp only[D4]at e <;> try cases e
 split at e
 .rename_i hl;simp only[c6]at m;let(a,g,rfl,z,i):=m;exact#v[a,g,rfl,z.same d9,by rwa[i.length],h.ok G B E F f H g _ J Q I i e q]
 .cases e]
def lj (k:Nat)(cap:List Nat)(E:DE):DE:=List.replicate k none++cap.map λj=>(E[j]?).join
def SitE.cap (I:SitE K G B E F σ H)(k) (cap):SitE K G B (lj k cap E) F (iG k cap σ) H:=by
 refine#v[I.fd,I.fB,I.bk,by simp[lj,iG],λi x e=>?_];unfold lj at e;by_cases b:i<k
 .rw[EL (by simpa using b),Ly,nY b]at e;cases e
 .rw[FL (by simpa using b),CZ,sq]at e;let(j,c,a):=sA.1 e;have d:E[j]? = some (some x):=by
   cases q:E[j]? with
   | none=>rw[q]at a;cases a
   | some o=>rw[q]at a;exact AZ some a
  let(v,g,f):=I.loc j x d;refine#v[v,?_,f];unfold iG;rw[FL (by simpa using b),CZ,sq,c,Nw,g];rfl
def SitE.more (I:SitE K G B E F σ H)(hD:H D=none):SitE K G (D::B) E F σ (upd H D o):=by
 have n:=I.bk.nin hD;have j:hid (upd H D o) (D::B)=hid H B:=by
  funext b;by_cases g:b=D
  .subst g;rw[A2 ll,j5 n,hD]
  .by_cases h:b∈B
   .rw[A2 h,A2<|kN _ h]
   .rw[j5 h,j5 (by simp[g,h]),h7 g]
 refine#v[I.fd.same<|i5.upd hD,λb g=>kN _<|I.fB b g,λb g=>?_,I.ln,λi x e=>?_]
 .rcases oZ.1 g with rfl | g
  .exact#v[o,i3]
  .let(u,e):=I.bk b g;exact#v[u,by rwa[h7<|k9 e hD]]
 .let(v,z,f):=I.loc i x e;refine#v[v,z,?_];cases x with
  | dat d=>show c6 K (hid (upd H D o) (D::B)) d v;rwa[j]
  | feed=>exact f
  | fn _=>exact f
  | adr _=>exact f
  | fv _ _=>exact#v[f.1,f.2.1,by rw[j];exact f.2.2]
  | rdic _ _ =>let(A,l,y,t,s):=f;exact#v[A,l,y,by rwa[j],by rwa[j]]
  | own J =>let(a,m,r,h,p,k,q):=f;exact#v[a,m,r,kN _ h,p,by rwa[h7<|k9 k hD],by rwa[j]]
  | dic w c C =>let(a,m,r,h,p,k,n,q):=f;exact#v[a,m,r,kN _ h,p,by rwa[h7<|k9 k hD],n,by rwa[j]]
def SitE.wr (I:SitE K G (D::B) E F σ H)(hf:D ∉ j6 K G)(hown:∀(i:Nat) ds,E[i]? = some (some<|DV.own ds)->σ[i]? ≠ some (some<|V.ref D))(hD:H D=some (.lst acc)):SitE K G (D::B) E F σ (upd H D o):=by
 have k:hid (upd H D o) (D::B)=hid H (D::B):=iZ ll;refine#v[I.fd.congr λb l=>h7 (λe=>l.elim (λl=>hf<|e▸l) λ#v[L,q]=>by rw[e,hD]at q;cases q),I.fB,λb l=>?_,I.ln,λi x e=>?_]
 .by_cases h:b=D
  .subst h;exact#v[o,i3]
  .rw[h7 h];exact I.bk b l
 .let(v,t,f):=I.loc i x e;refine#v[v,t,?_];cases x with
  | dat d=>show c6 K (hid (upd H D o) (D::B)) d v;rwa[k]
  | feed=>exact f
  | fn _=>exact f
  | adr _=>exact f
  | fv _ _=>exact#v[f.1,f.2.1,by rw[k];exact f.2.2]
  | rdic _ _ =>let(J,n,A,y,u):=f;exact#v[J,n,A,by rwa[k],by rwa[k]]
  | own ds =>
   let(a,p,rfl,s,j,m,r):=f;exact#v[a,p,rfl,s,j,by rwa[h7 (λz=>hown i ds e (by rw[<-z];exact t)) ],by rwa[k]]
  | dic w c M =>
   let(a,p,rfl,s,j,m,C,r):=f;exact#v[a,p,rfl,s,j,by rwa[h7 (λz=>by rw[z,hD]at m;cases m) ],C,by rwa[k]]
structure Ets K X ifs tt m:Prop where
 pts:PTs X ifs tt
 ok:TTd K tt m
def R9 :DE->M Bool:=λ_ F=>some (true,F)
def G4 :Ets K X [] Mz R9:=#v[(λ_ _ _ H _ I h=>wpAny_tests_nil #v[H,I,h]),λG B E F a H Q b c I e q=>by cases e;exact q H Kp.refl I.fd]
def fY {mt} (h:Et K X c tt mt):Ets K X [c] tt mt:=#v[(λa s b H Q I q=>wpAny_tests_one<|h.pt a s b H Q I q),h.ok]
noncomputable def W1 (bd:CD->DE->Option DE)(mt:DE->M Bool)(me:DE->M CD):List CD->DE->M (List CD)
 | [],_,F=>some ([],F)
 | d::r,E,F=>(bd d E).bind λE1=>(mt E1 F).bind λp=>if p.1=true then(me E1 p.2).bind λy=>(W1 bd mt me r E1 y.2).bind λz=>some (y.1::z.1,z.2) else W1 bd mt me r E1 p.2
def sLC (mi:DE->M (List CD))(k:Nat)(cap:List Nat)(bd:CD->DE->Option DE)(mt:DE->M Bool)(me:DE->M CD):DE->M CD:=λE F =>
 (mi E F).bind λp=>if p.1.length<=QX then(W1 bd mt me p.1 (lj k cap E) p.2).bind λz=>some (.list z.1,z.2) else none
def MG (K:Qf)(G:GF)(B:List QN)(D:QN)(H1:Hp)(bd:CD->DE->Option DE)(mt:DE->M Bool)(me:DE->M CD)(items whole:List CD)(Fz:FS)(i:Nat)(σ:St)(acc:List V)(H:Hp):Prop :=
 ∃E F done a,SitE K G (D::B) E F σ H/\H D=some (.lst acc)/\Kp (j6 K G) H1 H/\(∀(j:Nat) b,E[j]? = some (some<|DV.own b)->σ[j]? ≠ some (some<|V.ref D))/\b9 K (hid H (D::B)) done acc/\W1 bd mt me (items.drop i) E F=some (a,Fz)/\whole=done++a/\done.length<=i
def TFd (K:Qf)(te:TE)(m:DE->M (List CD)):Prop:=∀G B E F c H Q e f,SitE K G B E F c H->m E F=some (e,f) ->
 (∀a d b,H a=none->b a=some (.lst d)->Kp (j6 K G) H b->FAt K G b f->b9 K (hid b (a::B)) e d->Q (.ref a) b)->te c H Q
def Kp.none (k:Kp fp H H')(h:H' b=none)(n:b ∉ fp):H b=none:=by
 cases q:H b with
 | none=>rfl
 | some o=>rw[k b o q n]at h;cases h
def fLC (mi:DE->M (List CD))(k:Nat)(cap:List Nat)(bd:CD->DE->Option DE)(mt:DE->M Bool)(me:DE->M CD):DE->M (List CD):=λE F =>
 (mi E F).bind λp=>if p.1.length<=QX then(W1 bd mt me p.1 (lj k cap E) p.2).bind λz=>some (z.1,z.2) else none
def Bf {mt}(hi:TIs K wi mi)(hg:TGd K g bd)(ht:TTd K tt mt)(he:TEd K te me) :
  TFd K (tLC wi k cap g tt te) (fLC mi k cap bd mt me):=λG B E F σ H Q d F' I e q=>by
 obtain⟨⟨items,F1⟩,e1,e⟩:=bS9 e;split at e
 .rename_i Z;obtain⟨⟨r,F2⟩,e2,e⟩:=bS9 e;cases e;refine hi G B E F σ H _ items F1 I e1 λJ X k1 f1 ok D T=>?_
  have I1:=I.step k1 f1;have A:=λz=>(I1.bk.nin T)<|I.fB D z
  have Z:=Z;have s:∀{m},Kp (j6 K G) X m->Kp (j6 K G) X m/\i5 (hid X B) (hid m (D::B)):=λ{m} k=>#v[k,λb o u=>by
   by_cases hb:b∈B
   .rw[A2 hb]at u;cases u
   .rw[j5 hb]at u;rw[j5 (by
     intro z;rcases oZ.1 z with rfl | z
     .rw[T]at u;cases u
     .exact hb z)]
    exact k b o u λz=>hb<|I.fB b z]
  refine JU items.length (MG K G B D X bd mt me items r F2) ?_ ?_ ?_ ?_ ?_
  .refine#v[lj k cap E,F1,[],r,(I1.cap k cap).more T,i3,Kp.upd T,λj ds ej z=>?_,b9.nil,e2,rfl,qD _];let(v,v1,a,xs,rfl,_,_,ha,_):=(I1.cap k cap).loc j _ ej;rw[v1]at z;cases z;rw[T]at ha;cases ha
  .rintro i p c m w ⟨E',Y,done,h,W,t,L,ow,l,f,U,P⟩;exact((ok m (D::B)<|s L).1 i items[i]<|by simp[w]).1
  .rintro p c m ⟨E',Y,done,h,W,t,L,ow,l,f,U,P⟩;exact(ok m (D::B)<|s L).2
  .rintro i p c m w ⟨E',Y,done,h,W,t,L,ow,l,f,U,P⟩ x H2 y R hR;let(s2,hx):=((ok m (D::B)<|s L).1 i items[i]<|by simp[w]).2 x H2 y;rw[Bi w,W1]at f;let(N,e4,f):=bS9 f;obtain⟨⟨b,F5⟩,e5,f⟩:=bS9 f;refine hg G (D::B) E' Y p H2 x items[i] N _ (W.step (Kp.same s2)<|W.fd.same s2) (hx W.bk) e4 λn I4 fr=>?_
   have O:∀j ds,N[j]? = some (some<|DV.own ds)->n[j]? ≠ some (some<|V.ref D):=λj ds ej=>by
    let(a1,a2):=fr j λy z=>by rw[ej]at z;cases z
    rw[a2];exact ow j ds<|a1▸ej
   refine ht G (D::B) N Y n H2 _ b F5 I4 e5 λH5 k5 f5=>?_
   have C:=(L.trans<|Kp.same s2).trans k5;have I5:=I4.step k5 f5;have S:=k5 D _ (s2 D _ t) A;have ac:=(l.same<|(Kp.same s2).hid (fp:=[])<|by simp).same<|k5.hid I4.fB;cases b with
   | false =>exact#v[S,hR _ _ _ #v[N,F5,done,h,I5,S,C,O,ac,f,U,by lia]]
   | true =>
    obtain⟨⟨yd,F6⟩,e6,f⟩:=bS9 f;obtain⟨⟨zs,F7⟩,e7,f⟩:=bS9 f;cases f;refine he G (D::B) N F5 n H5 _ yd F6 I5 e6 λv H6 k6 f6 h6=>?_
    have ad:=k6 D _ S A;have I6:=I5.step k6 f6;have am:=ac.same<|k6.hid I5.fB;refine#v[ad,(by rw[l.length];lia),hR _ _ _ #v[N,F6,done++[yd],zs,I6.wr A O ad,i3,λb o u nb=>?_,O,?_,e7,by rw[U];simp,by simp;lia]]
    .have:=k6 b o (C b o u nb) nb;rw[h7];exact this;intro z;subst z;rw[T]at u;cases u
    .rw[iZ ll];exact am.snoc h6
  .rintro p c m ⟨E',Y,done,h,W,t,L,ow,l,f,U,P⟩;rw[QA,W1]at f;cases f;rw[Am]at U;subst U;exact q D c m (k1.none T A) t (k1.trans L) W.fd l
 .cases e
def Lg {mt}(hi:TIs K wi mi)(hg:TGd K g bd)(ht:TTd K tt mt)(he:TEd K te me) :
  TEd K (tLC wi k cap g tt te) (sLC mi k cap bd mt me):=λG B E F i H Q d h I e q=>by
 obtain⟨c,rfl,r⟩:∃c,d = .list c/\fLC mi k cap bd mt me E F=some (c,h):=by
  obtain⟨⟨items,x⟩,t,e⟩:=bS9 e;split at e
  .rename_i f;obtain⟨⟨a,w⟩,s,e⟩:=bS9 e;cases e;refine#v[a,rfl,?_];unfold fLC;rw[t,tV,nY f,s];rfl
  .cases e
 exact Bf hi hg ht he G B E F i H Q c h I r λz v u l m j p n=>q _ u j p (c6.lst (by rwa[j5<|I.bk.nin l])<|n.same<|C7 λb o=>kN _ o)
def aa (osc) (N){mt}
  (hi:Eib K X tg iter wi mi)
  (hg:∀{cl C ex π s H},Eg K (cxC X N scope cl C ex π s H) tg g bd)
  (ht:∀{cl C ex π s H},Ets K (cxC X N scope cl C ex π s H) ifs tt mt)
  (he:∀{cl C ex π s H},Ev K (cxC X N scope cl C ex π s H) elt te me)
  (hc:‹X.calm=true›) (hosc:‹X.env.scope=osc›) (hcap:autoParam (Caps X.N osc N k cap scope) qAl)
  (hs:autoParam (∀x,Rj iter X.env x=pure x) qAk) :
  Ev K X (.ListComp elt [#v[tg,iter,ifs,0]] scope pos) (tLC wi k cap g tt te) (sLC mi k cap bd mt me) :=
 #v[GU hc hosc hcap hi.pi (λ_ _ _ _ _ _=>hg.pg) (λ_ _ _ _ _ _=>ht.pts) (λ_ _ _ _ _ _=>he.pe) hs,
  Lg hi.ok (@hg [] 0 [] [] X.s₀ X.H₀).ok (@ht [] 0 [] [] X.s₀ X.H₀).ok (@he [] 0 [] [] X.s₀ X.H₀).ok]
end
end

section
section
inductive Out where
 | nx (E:DE) | rt (d:CD) | bk (E:DE) | ct (E:DE)
def dm (B0:List QN)(H0:Hp)(E:DE)(σ:St):Prop:=∀i c e a,E[i]? = some (some<|DV.dic true c e)->σ[i]? = some (some<|V.ref a)->(H0 a=none/\a ∉ B0)/\∀(j:Nat) d f b,E[j]? = some (some<|DV.dic d f b)->σ[j]? = some (some<|V.ref a)->i=j
def dm.of (h:dm B0 H0 E σ)(fr:∀(i:Nat) w c ps,E'[i]? = some (some<|DV.dic w c ps)->E'[i]? = E[i]? /\ O'[i]? = σ[i]?):dm B0 H0 E' O':=λi c ps a e k=>by let(q,p):=fr i _ _ _ e;let(m,l):=h i c ps a (q▸e)<|p▸k;refine#v[m,λj f n b d g=>?_];let(o,b2):=fr j _ _ _ d;exact l j f n b (o▸d)<|b2▸g
def dm.set (h:dm B0 H0 E σ)(hx:∀w c ps,x≠DV.dic w c ps):dm B0 H0 (E.set i<|some x) (σ.set i y):=h.of λj w c ps a=>by
 by_cases b:i=j
 .subst b;by_cases hl:i<E.length
  .rw[sP hl]at a;cases a;exact absurd rfl<|hx w c ps
  .rw[Ep (by rw[As];lia)]at a;cases a
 .exact#v[sv b,sv b]
def dm.set1 (h:dm B0 H0 E σ)(hx:∀w c ps,x≠DV.dic w c ps):dm B0 H0 (E.set i<|some x) σ:=h.of λj w c ps a=>by
 by_cases b:i=j
 .subst b;by_cases hl:i<E.length
  .rw[sP hl]at a;cases a;exact absurd rfl<|hx w c ps
  .rw[Ep (by rw[As];lia)]at a;cases a
 .exact#v[sv b,rfl]
structure Sit K G (B0:List QN) (H0:Hp) E F σ H:Prop where
 ex:∃B,(∀b∈B0,b∈B)/\(∀b∈B,b∈B0\/H0 b=none)/\SitE K G B E F σ H
 fB:∀b∈j6 K G,b∈B0
 kp:Kp (j6 K G) H0 H
 own:∀(i:Nat) ds a,E[i]? = some (some<|DV.own ds)->σ[i]? = some (some<|V.ref a)->H0 a=none/\a ∉ B0
 inj:∀(i j:Nat) ds es a,E[i]? = some (some<|DV.own ds)->E[j]? = some (some<|DV.own es)->σ[i]? = some (some<|V.ref a)->σ[j]? = some (some<|V.ref a)->i=j
 dic:dm B0 H0 E σ
def Ll (K:Qf)(G:GF)(B0:List QN)(H0:Hp)(F:FS)(D:Ends):Out->Prop
 | .nx E=>∀a H,Sit K G B0 H0 E F a H->D.nx a H
 | .bk E=>∀a H,Sit K G B0 H0 E F a H->D.bk a H
 | .ct E=>∀a H,Sit K G B0 H0 E F a H->D.ct a H
 | .rt d=>∀v H,Kp (j6 K G) H0 H->FAt K G H F->c6 K (hid H B0) d v->D.rt v H
def TSd (K:Qf)(ts:TS)(m:DE->M Out):Prop:=∀G B0 H0 E F a H D r b,Sit K G B0 H0 E F a H->m E F=some (r,b)->Ll K G B0 H0 b D r->ts D a H
structure Ss K X st ts m:Prop where
 ps:PS X st ts
 ok:TSd K ts m
structure Sss K X sts ts m:Prop where
 ps:PSs X sts ts
 ok:TSd K ts m
variable {K:Qf}{st:QU}{mt:DE->M Out}
def Sit.step (S:Sit K G B0 H0 E F σ H)(k:Kp (j6 K G) H H')(f:FAt K G H' F'):Sit K G B0 H0 E F' σ H':=by let(B,s,a,I):=S.ex;exact#v[#v[B,s,a,I.step k f],S.fB,S.kp.trans k,S.own,S.inj,S.dic]
def mNx :DE->M Out:=λE F=>some (.nx E,F)
def mSq (a b:DE->M Out):DE->M Out:=λE F=>(a E F).bind λp=>match p.1 with
 | .nx E1=>b E1 p.2
 | o=>some (o,p.2)
def S4 :Sss K X [] Bj mNx:=#v[jg,λG B0 H0 E F a H D r b S e q=>by cases e;exact q a H S]
def f8 (h1:Ss K X st t mt)(h2:Sss K X rest u mu):Sss K X (st::rest) (qZ t u) (mSq mt mu):=#v[u9 h1.ps h2.ps,λG B0 H0 E F f H D r j S e q=>by
 obtain⟨⟨o,c⟩,g,e⟩:=bS9 e;refine h1.ok G B0 H0 E F f H _ o c S g ?_;cases o with
 | nx b=>exact λa i h=>h2.ok G B0 H0 b c a i D r j h e q
 | rt d=>cases e;exact q
 | bk b=>cases e;exact q
 | ct b=>cases e;exact q]
def j4 (h1:Ss K X st t mt):Sss K X [st] t mt:=#v[X7 h1.ps,h1.ok]
def mRt (a:DE->M CD):DE->M Out:=λE F=>(a E F).bind λp=>some (.rt p.1,p.2)
def x3 (h:Ev K X e te m):Ss K X (.Return (some e) pos) (yQ te) (mRt m):=#v[bK h.pe,λG B0 H0 E F a H D r l S e q=>by obtain⟨⟨d,j⟩,g,e⟩:=bS9 e;cases e;let(B,s,k,I):=S.ex;exact h.ok G B E F a H _ d j I g λv i b f c=>q v i (S.kp.trans b) f<|c.same<|C7 s]
def x6 (i:Nat)(a:DE->M CD):DE->M Out:=λE F=>(a E F).bind λp=>(bN i p.1 E).bind λb=>some (.nx b,p.2)
def Sit.bind (S:Sit K G B0 H0 E F σ H)(s:∀b∈B0,b∈B)(sn:∀b∈B,b∈B0\/H0 b=none)(I:SitE K G B E' F' O' H)(fr:∀i:Nat,(∀y,E'[i]? ≠ some (some<|.dat y))->E'[i]? = E[i]? /\ O'[i]? = σ[i]?):Sit K G B0 H0 E' F' O' H:=by
 refine#v[#v[B,s,sn,I],S.fB,S.kp,λi f a d e=>?_,λi j f es a d k e l=>?_,S.dic.of λi w c n d=>fr i λy z=>by rw[d]at z;cases z]
 .let(h,g):=fr i λy z=>by rw[d]at z;cases z
  exact S.own i f a (h▸d)<|g▸e
 .let(h,g):=fr i λy z=>by rw[d]at z;cases z
  let(m,b2):=fr j λy z=>by rw[k]at z;cases z
  exact S.inj i j f es a (h▸d) (m▸k) (g▸e)<|b2▸l
def Da (he:TEd K te m)(hg:TGd K g bd):TSd K (cf te g) (λE F=>(m E F).bind λp=>(bd p.1 E).bind λE1=>some (.nx E1,p.2)):=λG B0 H0 E F b H D r w S e q=>by
 obtain⟨⟨d,i⟩,o,e⟩:=bS9 e;let(E1,n,e):=bS9 e;cases e;let(B,s,j,I):=S.ex;refine he G B E F b H _ d i I o λv h c f k=>?_
 have t:=S.step c f;exact hg G B E i b h v d E1 _ (I.step c f) k n λa u l=>q a h<|t.bind s j u l
def jE (i):TGd K (Q9 i) (bN i):=λG B E F c H x d f Q I h e q=>by
 unfold bN at e;split at e
 .rename_i hl;cases e;refine q _ (I.set h hl) λj b=>?_
  by_cases a:i=j
  .subst a;exact absurd (sP hl)<|b d
  .rw[sv a,sv a];exact#v[rfl,rfl]
 .cases e
def n9 (i)(hN:X.N.Nodup)(he:Ev K X e te m)(hi:‹X.N[i]? = some x›)(hx:autoParam (Loc X.env.scope x) gV)(hs:‹Rg e (some<|.Name x pos') pos.line X.env=pure false›)(hf:autoParam (X.fn x=true\/X.env.scope.names.lookup x=some .local) gV) :
  Ss K X (.Assign [.Name x pos'] e pos) (cf te<|Q9 i) (x6 i m):=#v[L6 hN hi hx he.pe hs hf,Da he.ok<|jE i]
def oV (bd:CD->DE->Option DE)(a:DE->M CD):DE->M Out:=λE F=>(a E F).bind λp=>(bd p.1 E).bind λb=>some (.nx b,p.2)
def fZ (he:Ev K X e te m)(hg:Eg K X tg g bd)(hs:‹swapsWithSole [tg] e pos.line X.env=pure false›)(hw:‹swappedStores [tg] e X.env=pure none›)
  (h1:‹(Rk [tg] X.env).map (·.2)=[assign tg X.env]›):Ss K X (.Assign [tg] e pos) (cf te g) (oV bd m):=#v[Cp he.pe hg.pg hs hw h1,Da he.ok hg.ok]
def fy (i)(osc) (N){mt}
  (hN:X.N.Nodup) (hi:Eib K X tg iter wi mi)
  (hg:∀{cl C ex π s H},Eg K (cxC X N scope cl C ex π s H) tg g bd)
  (ht:∀{cl C ex π s H},Ets K (cxC X N scope cl C ex π s H) ifs tt mt)
  (he:∀{cl C ex π s H},Ev K (cxC X N scope cl C ex π s H) elt te me)
  (hc:‹X.calm=true›) (hosc:‹X.env.scope=osc›) (hcap:autoParam (Caps X.N osc N k cap scope) qAl)
  (hix:‹X.N[i]? = some y›) (hLy:autoParam (Loc X.env.scope y) gV)
  (hs:autoParam (∀x,Rj iter X.env x=pure x) qAk) (hfy:autoParam (X.fn y=true\/X.env.scope.names.lookup y=some .local) gV)
  (hsw:‹Rg (.ListComp elt [#v[tg,iter,ifs,0]] scope p) (some<|.Name y py) pos.line X.env=pure true›) :
  Ss K X (.Assign [.Name y py] (.ListComp elt [#v[tg,iter,ifs,0]] scope p) pos) (cf (tLC wi k cap g tt te)<|Q9 i) (x6 i<|sLC mi k cap bd mt me) :=
 #v[rp hN hix hLy hc hosc hcap hi.pi (λ_ _ _ _ _ _=>hg.pg) (λ_ _ _ _ _ _=>ht.pts) (λ_ _ _ _ _ _=>he.pe) hs hfy hsw,
  Da (Lg hi.ok (@hg [] 0 [] [] X.s₀ X.H₀).ok (@ht [] 0 [] [] X.s₀ X.H₀).ok (@he [] 0 [] [] X.s₀ X.H₀).ok) (jE i)]
def mIf (c:DE->M Bool)(a b:DE->M Out):DE->M Out:=λE F=>(c E F).bind λp=>if p.1=true then a E p.2 else b E p.2
def Z5 (hc:Et K X c tt mc)(ha:Sss K X x t mt)(hb:Sss K X y u mu):Ss K X (.If c x y pos) (Ia tt t u) (mIf mc mt mu):=#v[vp hc.pt ha.ps hb.ps,λG B0 H0 E F a H D r i S e q=>by
 obtain⟨⟨d,b⟩,j,e⟩:=bS9 e;let(B,s,k,I):=S.ex;refine hc.ok G B E F a H _ d b I j λh f g=>?_
 cases d with
 | true=>exact ha.ok G B0 H0 E b a h D r i (S.step f g) e q
 | false=>exact hb.ok G B0 H0 E b a h D r i (S.step f g) e q]
noncomputable def tO (i j:Nat)(a:DE->M (List CD)):DE->M Out:=λE F=>(a E F).bind λp=>match p.1 with
 | [x,y]=>(bN i x E).bind λE1=>(bN j y E1).bind λE2=>some (.nx E2,p.2)
 | _=>none
def nH (i j){kt k2 pt2}(hc:X.calm=true)(hN:X.N.Nodup)(ha:Ea K X [a,b] tl ms)(hi:‹X.N[i]? = some x›)(hj:‹X.N[j]? = some y›)(hij:autoParam (i≠j) gC)
  (hx:‹X.env.scope.names.lookup x=some .local›) (hy:‹X.env.scope.names.lookup y=some .local›)
  (hw:‹swappedStores [.Tuple [.Name x px,.Name y py] kt pt] (.Tuple [a,b] k2 pt2) X.env=pure (some [x,y])›)
  (hs:‹swapsWithSole [.Tuple [.Name x px,.Name y py] kt pt] (.Tuple [a,b] k2 pt2) pos.line X.env=pure false›) :
  Ss K X (.Assign [.Tuple [.Name x px,.Name y py] kt pt] (.Tuple [a,b] k2 pt2) pos) (IH i j tl) (tO i j ms):=#v[Ah hc hN hi hj hij hx hy ha.pa hw hs,λG B0 H0 E F h H D r W S e q=>by
 obtain⟨⟨J,Q⟩,C,e⟩:=bS9 e;let(B,s,k,I):=S.ex;refine ha.ok G B E F h H _ J Q I C λT g l n m=>?_
 dsimp only at e;split at e
 .let(p,A,e):=bS9 e;let(R,z,e):=bS9 e;cases e;simp only[b9]at m;let(v,V,rfl,t,w,U,rfl,hw,rfl):=m;have N:=S.step l n;refine#v[v,w,rfl,jE i G B E _ h g v _ p (λc P=>D.nx (c.set j<|some w) P) (I.step l n) t A λc o u=>?_ ]
  have L:=N.bind s k o u;exact jE j G B p _ c g w _ R D.nx o hw z λd O f=>q d g (L.bind s k O f)
 .cases e]
end
end
section
section
variable {K:Qf}
def gL (H:Hp)(B B0:List QN):Hp:=hid H (B.filter λb=>decide (b ∉ B0))
def hX {b} (h1:b∈B)(h2:b ∉ B0):gL H B B0 b=none:=A2 (xM.2 #v[h1,by simpa using h2])
def gX {b} (h:b ∉ B\/b∈B0):gL H B B0 b=H b:=j5 λz=>by
 let(c,a):=xM.1 z;rcases h with h | h
 .exact h c
 .simp at a;exact a h
section

def Sit.base (S:Sit K G B0 H0 E F σ H)(s:∀b∈B0,b∈B)(sn:∀b∈B,b∈B0\/H0 b=none)(I:SitE K G B E F σ H):Sit K G B0 (gL H B B0) E F σ H:=by
 refine#v[#v[B,s,λb n=>?_,I],S.fB,Kp.same d9,λi k a e f=>?_,S.inj,λi c m a e f=>?_]
 .by_cases h:b∈B0
  .exact .inl h
  .exact .inr<|hX n h
 .let(v,d,p,l,rfl,g,_):=I.loc i _ e;rw[d]at f;cases f;exact#v[hX g (S.own i k _ e d).2,(S.own i k _ e d).2]
 .let(v,d,p,l,rfl,g,_):=I.loc i _ e;rw[d]at f;cases f;obtain⟨⟨_,j⟩,o⟩:=S.dic i c m _ e d;exact#v[#v[hX g j,j],o]
def yZ (S:Sit K G B0 H0 E F σ H)(sn:∀b∈B,b∈B0\/H0 b=none)(k:Kp (j6 K G) (gL H B B0) H2):Kp (j6 K G) H0 H2:=λb o e n=>by
 refine k b o ?_ n;rw[gX]
 .exact S.kp b o e n
 .by_cases a:b∈B
  .rcases sn b a with h | h
   .exact .inr h
   .rw[h]at e;cases e
  .exact .inl a
def Sit.unbase (S:Sit K G B0 H0 E F σ H)(sn:∀b∈B,b∈B0\/H0 b=none)(S2:Sit K G B0 (gL H B B0) E2 F2 σ2 H2):Sit K G B0 H0 E2 F2 σ2 H2:=by
 have k:∀b,gL H B B0 b=none->b∈B0\/H0 b=none:=λb e=>by
  by_cases f:b∈B
  .exact sn b f
  .rw[gX<|.inl f]at e;by_cases n:b∈j6 K G
   .exact .inl<|S.fB b n
   .cases q:H0 b with
    | none=>exact .inr rfl
    | some o=>rw[S.kp b o q n]at e;cases e
 let(u,s2,g,t):=S2.ex;refine#v[#v[u,s2,λb f=>?_,t],S.fB,yZ S sn S2.kp,λi s a m j=>?_,S2.inj,λi c p a m j=>?_]
 .rcases g b f with h | h
  .exact .inl h
  .exact k b h
 .let(l,d):=S2.own i s a m j;exact#v[(k a l).resolve_left d,d]
 .obtain⟨⟨l,d⟩,r⟩:=S2.dic i c p a m j;exact#v[#v[(k a l).resolve_left d,d],r]
end
noncomputable def cS (bd:CD->DE->Option DE)(body:DE->M Out):List CD->DE->M Out
 | [],E,F=>some (.nx E,F)
 | d::r,E,F=>(bd d E).bind λE1=>(body E1 F).bind λp=>match p.1 with
  | .nx E2=>cS bd body r E2 p.2
  | .ct E2=>cS bd body r E2 p.2
  | .bk E2=>some (.nx E2,p.2)
  | .rt d=>some (.rt d,p.2)
def Z0 (mi:DE->M (List CD))(bd:CD->DE->Option DE)(body:DE->M Out):DE->M Out:=λE F=>(mi E F).bind λp=>cS bd body p.1 E p.2
def K4 {tb}{mb} (hc:X.calm=true)(hi:Ei K X tg iter wi mi)(hg:Eg K X tg g bd)(hb:Sss K X body tb mb)(hp:PassesOwn (model X.prog X.w) X.A X.env X.xe:=by exact PassesOwn.never)
  (hs:autoParam (∀x,Rj iter X.env x=pure x) qAk):Ss K X (.For tg iter body [] pos) (IM wi g tb) (Z0 mi bd mb):=#v[JC hp hc hi.pi hg.pg hb.ps hs,(λG B0 H0 E F Y H D r F' S e q=>by
   obtain⟨⟨items,F1⟩,e1,e⟩:=bS9 e;let(B,s,Z,I):=S.ex;refine hi.ok G B E F Y H _ items F1 I e1 λJ u k1 f1 ok=>?_
   have S1:=S.step k1 f1;have ab:=S1.base s Z (I.step k1 f1);have qn:∀{n} {k},r = .nx n->F'=k->∀a c,Sit K G B0 (gL u B B0) n k a c->D.nx a c:=λ{n k} er ef a c t=>by subst er ef;exact q a c (S1.unbase Z t)
   have L:∀{n} {k} {a} {c} {p},Sit K G B0 (gL u B B0) n k a c->(∀b∈p,b∈B0\/gL u B B0 b=none)->i5 (hid u B) (hid c p):=λ{n k a c p} t l b o R=>by
    by_cases N:b∈B
    .rw[A2 N]at R;cases R
    .rw[j5 N]at R;have ec:gL u B B0 b=some o:=by rwa[gX<|.inl N]
     rw[j5 λz=>(l b z).elim (λh=>N<|s b h) λh=>by rw[h]at ec;cases ec];exact t.kp b o ec λz=>N (s b<|S.fB b z)
   refine#v[λi m Y H=>m=items.length-i/\i<=items.length/\∃E F,Sit K G B0 (gL u B B0) E F Y H/\cS bd mb (items.drop i) E F=some (r,F'),#v[items.length,by simp,CW _,E,F1,ab,e],?_];rintro i mm a c ⟨rfl,ac,n,k,t,j⟩;let(p,s2,l,T):=t.ex;have A:=L t l;by_cases f:i<items.length
   .refine .inr #v[((ok c p A).1 i items[i]<|by simp[f]).1,λC H'=>i+1<=items.length/\∃E F,Sit K G B0 (gL u B B0) E F C H'/\cS bd mb (items.drop<|i+1) E F=some (r,F'),λC H' #v[h1,h2]=>#v[items.length-(i+1),by lia,rfl,h1,h2],λx U y=>?_];let(Q,hx):=((ok c p A).1 i items[i]<|by simp[f]).2 x U y;rw[Bi f,cS]at j;let(E4,e4,j):=bS9 j;obtain⟨⟨o,F5⟩,e5,j⟩:=bS9 j;have S3:=t.step (Kp.same Q)<|T.fd.same Q;refine hg.ok G p n k a U x items[i] E4 _ (T.step (Kp.same Q)<|T.fd.same Q) (hx T.bk) e4 λW I4 fr=>hb.ok G B0 (gL u B B0) E4 k W U _ o F5 (S3.bind s2 l I4 fr) e5 ?_;cases o with
    | nx V=>exact λw P O=>#v[f,V,F5,O,j]
    | ct V=>exact λw P O=>#v[f,V,F5,O,j]
    | bk V=>cases j;exact λw P O=>qn rfl rfl w P O
    | rt d=>cases j;exact λv P k6 f6 h6=>q v P (yZ S1 Z k6) f6 h6
   .have ei:i=items.length:=by lia
    subst ei;rw[QA,cS]at j;cases j;exact .inl #v[(ok c p A).2,qn rfl rfl a c t])]
structure Ef K X e te m:Prop where
 pe:PE X e te
 ok:TFd K te m
def eG {p} (hp:H p=none):i5 (hid H B) (hid (upd H p o) (p::B)):=λb u e=>by
 by_cases c:b∈B
 .rw[A2 c]at e;cases e
 .rw[j5 c]at e;have a:=k9 e hp;rwa[j5 (by simp[a,c]),h7 a]
def oF (a:DE->M (List CD)):DE->M (List CD):=λE F=>(a E F).bind λp=>if p.1.length<=QX then some (p.1,p.2) else none
def jS {t}(h:Ea K X es t ms):Ef K X (.List es pos) (DR t) (oF ms):=#v[oX h.pa,λG B E F i H Q d n I e q=>by
 obtain⟨⟨x,l⟩,k,e⟩:=bS9 e;split at e
 .rename_i hl;cases e;refine h.ok G B E F i H _ x l I k λj m b g f=>#v[by rwa[f.length],λp a=>?_]
  exact q p j _ (b.none a (λz=>(m9 I.bk b g).nin a (I.fB p z)) ) i3 (b.trans<|Kp.upd a) (g.same<|i5.upd a) (f.same<|eG a)
 .cases e]
noncomputable def DS (a b:DE->M CD):DE->M (List CD):=λE F=>(a E F).bind λp=>(b E p.2).bind λq=>match p.1,q.1 with
 | .list xs,.list ys=>if xs.length+ys.length<=QX then some (xs++ys,q.2) else none
 | _,_=>none
def Jf (ha:Eb K X a ta ma)(hb:Eb K X b tb mb):Ef K X (.BinOp a .Add b pos) (tOp Lw ta tb) (DS ma mb):=#v[F8 zk ha.pe hb.pe,λG B E F r H Q d S I e q=>by
 obtain⟨⟨x,t⟩,D,e⟩:=bS9 e;obtain⟨⟨y,N⟩,C,e⟩:=bS9 e;refine ha.ok G B E F r H _ x t I D λv M i A o=>hb.ok G B E t r M _ y N (I.step i A) C λw R h s u=>?_
 dsimp only at e;split at e
 .rename_i P O;split at e
  .rename_i hl;cases e;let(L,k,rfl,n,g):=o.step h I.fB;let(J,j,rfl,m,f):=u;refine#v[L,J,k,j,rfl,rfl,d9 _ _ n,d9 _ _ m,by rwa[g.length,f.length],λp c=>?_];exact q p _ _ ((i.trans h).none c (λz=>(m9 I.bk (i.trans h) s).nin c (I.fB p z)) ) i3 ((i.trans h).trans<|Kp.upd c) (s.same<|i5.upd c) (b9.append (f.same<|eG c)<|g.same<|eG c)
  .cases e
 .cases e]
def kW (i:Nat)(a:DE->M (List CD)):DE->M Out:=λE F=>(a E F).bind λp=>if i<E.length then some (.nx<|E.set i<|some<|.own p.1,p.2) else none
def GO (he:TFd K te mf):TSd K (cf te<|Q9 i) (kW i mf):=λG B0 H0 E F Y H D r F' S e q=>by
 obtain⟨⟨ds,F1⟩,e1,e⟩:=bS9 e;split at e
 .rename_i hl;cases e;let(B,s,sn,I):=S.ex;refine he G B E F Y H _ ds _ I e1 λa vs H1 hn ha Q f1 h1=>?_
  have I1:=I.step Q f1;have y:i < Y.length:=by rwa[<-I.ln]
  have J:=I.bk.nin hn;have R:=λz=>J<|I.fB a z
  have h0:=S.kp.none hn R;have N:i5 (hid H B) (hid H1 (a::B)):=λb o U=>by
   by_cases f:b∈B
   .rw[A2 f]at U;cases U
   .rw[j5 f]at U;rw[j5<|by simp[k9 U hn,f]];exact Q b o U λz=>f<|I.fB b z
  refine q _ H1 #v[#v[a::B,λb f=>kN _<|s b f,λb f=>?_,#v[f1,λb f=>kN _<|I.fB b f,λb f=>?_,by rw[As,As];exact I.ln,λj x g=>?_]],S.fB,S.kp.trans Q,λj es A g t=>?_,λj k es T A g W t O=>?_,S.dic.set nofun]
  .rcases oZ.1 f with rfl | f
   .exact .inr h0
   .exact sn b f
  .rcases oZ.1 f with rfl | f
   .exact#v[_,ha]
   .exact I1.bk b f
  .by_cases m:i=j
   .subst m;rw[sP hl]at g;cases g;exact#v[.ref a,by rw[sP y],a,vs,rfl,ll,R,ha,h1]
   .rw[sv m]at g;let(v,Z,h):=I.loc j x g;refine#v[v,by rwa[sv m],?_];cases x with
    | dat d=>exact c6.same (h) N
    | feed=>exact h
    | fn _=>exact h
    | adr _=>exact h
    | fv _ _=>exact#v[h.1,h.2.1,h.2.1 _ _ N h.2.2]
    | rdic _ _ =>let(a9,X,q1,q2,q4):=h;exact#v[a9,X,q1,N _ _ q2,q4.same N]
    | own es =>let(A,u,rfl,p,n,L,C):=h;exact#v[A,u,rfl,kN _ p,n,Q _ _ L n,C.same N]
    | dic w c ps =>let(A,u,rfl,p,n,L,ac,C):=h;exact#v[A,u,rfl,kN _ p,n,Q _ _ L n,ac,C.same N]
  .by_cases m:i=j
   .subst m;rw[sP y]at t;cases t;exact#v[h0,λz=>J<|s a z]
   .rw[sv m]at g t;exact S.own j es A g t
  .have l:∀j es,i≠j->E[j]? = some (some<|DV.own es)->Y[j]? ≠ some (some<|V.ref a):=λj es _ g z=>by let(v,Z,A,u,rfl,p,_):=I.loc j _ g;rw[Z]at z;cases z;exact J p
   by_cases m:i=j
   .by_cases P:i=k
    .exact m.symm.trans P
    .subst m;rw[sP y]at t;cases t;rw[sv P]at W O;exact absurd O<|l k T P W
   .rw[sv m]at g t;by_cases P:i=k
    .subst P;rw[sP y]at O;cases O;exact absurd t<|l j es m g
    .rw[sv P]at W O;exact S.inj j k es T A g W t O
 .cases e
def ua (i)(hN:X.N.Nodup)(he:Ef K X e te mf)(hi:‹X.N[i]? = some x›)(hx:autoParam (Loc X.env.scope x) gV)(hs:‹Rg e (some<|.Name x pos') pos.line X.env=pure false›)(hf:autoParam (X.fn x=true\/X.env.scope.names.lookup x=some .local) gV) :
  Ss K X (.Assign [.Name x pos'] e pos) (cf te<|Q9 i) (kW i mf):=#v[L6 hN hi hx he.pe hs hf,GO he.ok]
end
end
section
section
variable {K:Qf}{st:QU}
section

def Sit.write (S:Sit K G B0 H0 E F σ H)(s:∀b∈B0,b∈B)(sn:∀b∈B,b∈B0\/H0 b=none)(I:SitE K G B E F σ H)(ei:E[i]? = some (some<|DV.own ds))(si:σ[i]? = some (some<|V.ref x))
  (hd:b9 K (hid H B) ds' vs'):Sit K G B0 H0 (E.set i<|some<|.own ds') F σ (upd H x<|.lst vs'):=by
 let(v,R,x',xs,rfl,W,U,T,_):=I.loc i _ ei;rw[si]at R;cases R;have A:hid (upd H x<|.lst vs') B=hid H B:=iZ W;let(n1,n2):=S.own i ds x ei si;refine#v[#v[B,s,sn,#v[I.fd.congr λb C=>h7 (λz=>C.elim (λC=>U<|z▸C) λ#v[φ,q]=>by rw[z,T]at q;cases q),I.fB,λb C=>?_,by rw[As];exact I.ln,λj y a=>?_]],S.fB,λb o P nb=>?_,λj es g a D=>?_,λj k es M g a ek D X=>?_,S.dic.set1 nofun]
 .by_cases h:b=x
  .subst h;exact#v[_,i3]
  .rw[h7 h];exact I.bk b C
 .by_cases l:i=j
  .subst l;rw[sP ((pG.1 ei).1) ]at a;cases a;exact#v[.ref x,si,x,vs',rfl,W,U,i3,by rwa[A]]
  .rw[sv l]at a;let(w,Q,f):=I.loc j y a;refine#v[w,Q,?_];cases y with
   | dat d=>show c6 K (hid (upd H x<|.lst vs') B) d w;rwa[A]
   | feed=>exact f
   | fn _=>exact f
   | adr _=>exact f
   | fv _ _=>exact#v[f.1,f.2.1,by rw[A];exact f.2.2]
   | rdic _ _ =>let(a9,J,q1,Z,Y):=f;exact#v[a9,J,q1,by rwa[A],by rwa[A]]
   | own es =>
    let(g,n,rfl,u,r,e,t):=f;have p:g≠x:=λz=>l<|S.inj i j ds es x ei a si<|z▸Q
    exact#v[g,n,rfl,u,r,by rwa[h7 p],by rwa[A]]
   | dic w c ps =>
    let(g,n,rfl,u,r,e,L,t):=f;exact#v[g,n,rfl,u,r,by rwa[h7 (λz=>by rw[z,T]at e;cases e) ],L,by rwa[A]]
 .rw[h7]
  .exact S.kp b o P nb
  .intro z;subst z;rw[n1]at P;cases P
 .by_cases l:i=j
  .subst l;exact S.own i ds g ei D
  .rw[sv l]at a;exact S.own j es g a D
 .have m:∀j es,(E.set i<|some<|.own ds')[j]? = some (some<|DV.own es)->∃es,E[j]? = some (some<|DV.own es):=λj es a=>by
   by_cases l:i=j
   .subst l;exact#v[ds,ei]
   .rw[sv l]at a;exact#v[es,a]
  let(f1,O):=m j es a;let(f2,N):=m k M ek;exact S.inj j k f1 f2 g O N D X
end
def Y1 (E:DE)(i:Nat):Option (List CD):=match E[i]? with
 | some (some<|.own ds)=>some ds
 | _=>none
def aI (h:Y1 E i=some ds):E[i]? = some (some<|DV.own ds):=by
 unfold Y1 at h;split at h
 .rename_i q;cases h;exact q
 .cases h
noncomputable def Dh (i:Nat)(v k:DE->M CD):DE->M Out:=λE F=>(v E F).bind λp=>(k E p.2).bind λq=>(F0 q.1).bind λn=>(Y1 E i).bind λds=>(ixN ds.length n).bind λj=>some (.nx<|E.set i<|some<|.own<|ds.set j p.1,q.2)
theorem b9.set :∀{ds} {xs} {d} {v} j,b9 K H ds xs->c6 K H d v->b9 K H (ds.set j d) (xs.set j v)
 | [],xs,d,v,j,h,h'=>by simp only[b9]at h;subst h;simp[b9]
 | e::ds,xs,d,v,0,h,h'=>by
  simp only[b9]at h;let(y,r,rfl,b,a):=h;simp only[List.set_cons_zero];exact#v[v,r,rfl,h',a]
 | e::ds,xs,d,v,j+1,h,h'=>by simp only[b9]at h;let(y,r,rfl,b,a):=h;simp only[Qm];exact#v[y,r.set j v,rfl,b,b9.set j a h']
def IJ (i)(hv:Ev K X e te m)(hk:Ev K X b tb mb)(hN:‹X.N[i]? = some x›)(hvis:autoParam (Vis X.env.scope x) kA)(hd:autoParam (nDb x) gC)(hcd:autoParam (nCd x) gC)
  (ha:autoParam (∀v,assign (.Subscript (.Name x px) b p) X.env v=(do
   let ov <-holding [v] (eval (.Name x px) X.env)
   let iv <-holding [v,ov] (eval b X.env)
   standAt p
   holding [v,ov,iv] (setItem ov iv v)
   release [v,ov,iv] [])) qAk)
  (hs:‹swapsWithSole [.Subscript (.Name x px) b p] e pos.line X.env=pure false›) (hw:‹swappedStores [.Subscript (.Name x px) b p] e X.env=pure none›)
  (h1:‹(Rk [.Subscript (.Name x px) b p] X.env).map (·.2)=[assign (.Subscript (.Name x px) b p) X.env]›) :
  Ss K X (.Assign [.Subscript (.Name x px) b p] e pos) (cf te<|LN (P4 i) tb GV) (Dh i m mb) :=
 #v[Cp hv.pe ((by
  intro c s f H v u Q I r h;rw[ha];refine iD (Ak<|thn ((A9 hN hvis hd hcd) c s f H _ I h) ?_ );rintro ov s1 ⟨x,A,o,V,Z⟩;refine iD (Ak<|thn (hk.pe c s1 f A _ o Z) ?_ );rintro iv s2 ⟨y,O,z,U,Y⟩;refine iD (Qo<|iD<|Ak<|thn (Az c s2 f O x y v ov iv u _ z V U r Y) ?_ );rintro _ s3 ⟨H3,I3,W⟩;exact wpAny_release #v[f,H3,I3,W])) hs hw h1,λG B0 H0 E F f H D r F' S e q=>by
  obtain⟨⟨d,P⟩,e1,e⟩:=bS9 e;obtain⟨⟨n,F2⟩,e2,e⟩:=bS9 e;let(k,e3,e):=bS9 e;let(ds,e4,e):=bS9 e;let(j,e5,e):=bS9 e;cases e;let(B,s,T,I):=S.ex;have N:=aI e4;refine hv.ok G B E F f H _ d P I e1 λv A J f1 h1=>?_
  have o:=I.step J f1;let(w,C,a,R,rfl,hB,hf,hx,t):=o.loc i _ N;refine#v[_,C,hk.ok G B E P f A _ n _ o e2 λu O g M L=>?_];have:=V9 e3;simp only at this;subst this;simp only[c6]at L;subst L;have S2:=S.step (J.trans g) M;have l:=t.same<|g.hid I.fB;refine#v[a,R,k,j,rfl,rfl,g a _ hx hf,by rwa[l.length],q f _<|S2.write s T (o.step g M) N C<|b9.set j l<|h1.same<|g.hid I.fB]]
noncomputable def kI (i:Nat)(v:DE->M CD):DE->M Out:=λE F=>(v E F).bind λp=>(Y1 E i).bind λds=>if ds.length<QX then some (.nx<|E.set i<|some<|.own<|ds++[p.1],p.2) else none
def U3 (K:Qf)(G:GF)(B:List QN)(H:Hp):List DV->List V->Prop
 | [],vs=>vs=[]
 | x::xs,vs=>∃v r,vs=v::r/\x.ow=false/\DVr K G B H x v/\U3 K G B H xs r
def spD (K:Qf)(n:Nat)(f:List DV->M CD):Sp:=λe H Q _=>∃G B F a d g,e.length=n/\(∀b∈j6 K G,b∈B)/\BOk H B/\FAt K G H F/\U3 K G B H a e/\f a F=some (d,g) /\
 ∀v c,Kp (j6 K G) H c->FAt K G c g->c6 K (hid c B) d v->Q v c
def t9 (N:List Str)(args:List DV):DE:=args.map some++List.replicate (N.length-args.length) none
noncomputable def R6 (N:List Str)(m:DE->M Out):List DV->M CD:=λargs F=>(m (t9 N args) F).bind λp=>match p.1 with
 | .rt d=>some (d,p.2)
 | .nx _=>some (.none,p.2)
 | _=>none
theorem U3.length :∀{args} {vs},U3 K G B H args vs->vs.length=args.length
 | [],vs,h=>by cases h;rfl
 | x::xs,vs,#v[v,r,e,_,_,h]=>by subst e;rw[qN,qN,h.length]
theorem U3.get :∀{args} {vs} {i:Nat} {x},U3 K G B H args vs->args[i]? = some x->∃v,vs[i]? = some v/\x.ow=false/\DVr K G B H x v
 | [],vs,i,x,h,e=>by simp at e
 | y::xs,vs,i,x,#v[v,r,e1,h1,h2,h3],e=>by
  subst e1;cases i with
  | zero=>simp at e;subst e;exact#v[v,rfl,h1,h2]
  | succ i=>simpa using h3.get (by simpa using e)
def gu {i:Nat}(h:(t9 N args)[i]? = some (some x)):args[i]? = some x:=by
 unfold t9 at h;by_cases a:i<args.length
 .rw[EL (by simpa using a),sq]at h;let(y,c,b):=sA.1 h;cases b;exact c
 .rw[FL (by simpa using a),Ly]at h;split at h <;> simp at h
def Z8 (fB:∀b∈j6 K G,b∈B)(bk:BOk H B)(f:FAt K G H F)(h:U3 K G B H args vs):Sit K G B H (t9 N args) F (L2.P2 N vs) H:=by
 have d:∀i g,(t9 N args)[i]? ≠ some (some<|DV.own g):=λi g e=>by let(v,_,n,_):=h.get<|gu e;cases n
 refine#v[#v[B,λ_ z=>z,λb o=>.inl o,#v[f,fB,bk,by simp[t9,L2.P2,h.length],λi x e=>?_]],fB,Kp.refl,λi g a e _=>absurd e<|d i g,λi j g es a e _ _ _=>absurd e<|d i g,λi c p a e _=>by let(v,_,n,_):=h.get<|gu e;cases n];let(v,k,_,l):=h.get<|gu e;refine#v[v,?_,l];unfold L2.P2;rw[EL (by simpa using ((pG.1 k).1) ),sq,k];rfl

def E8 {m} (Fn:Fun K x qual st f fd)(S:FnScope N ps (c7 st))
  (hbody:∀dr A outer s H E,Room k (A.deeper<|envOfC qual (c7 st) (~~~s) f dr) ->
   ∃ts,Sss K (gB CX0 P w K mg base N qual (c7 st) f dr A outer s H E).nox (m4 st) ts m):FnOk P w K mg base CX0 (k+1) f fd ps (spD K ps.length<|R6 N m):=by
 refine Fn.ok S (λg H Q E h=>?_) (λdr A outer s H g Q E p h=>?_)
 .let(G,B,F,a,d,L,hl,_):=h;exact hl
 .let(G,B,F,a,d,L,hl,z,bk,y,t,r,q):=h;let(ts,b):=hbody dr A outer s H E p;refine#v[ts,b.ps,?_];obtain⟨⟨o,J⟩,D,e⟩:=bS9 r;refine b.ok G B H (t9 N a) F (L2.P2 N g) H _ o J (Z8 z bk y t) D ?_;cases o with
  | rt O=>cases e;exact λv c n C u=>q v c n C u
  | nx j=>cases e;exact λl c i=>q _ c i.kp (by let(B,_,_,I):=i.ex;exact I.fd) c6.non
  | bk j=>cases e
  | ct j=>cases e
def TVd (K:Qf)(ta:TA)(m:DE->M (List DV)):Prop:=∀G B E F b H Q d e,SitE K G B E F b H->m E F=some (d,e) ->
 (∀c a,Kp (j6 K G) H a->FAt K G a e->U3 K G B a d c->Q c a)->ta b H Q
structure Evs K X es ta m:Prop where
 pa:PA X es ta
 ok:TVd K ta m
def u8 :DE->M (List DV):=λ_ F=>some ([],F)
noncomputable def vD (a:DE->M CD)(r:DE->M (List DV)):DE->M (List DV):=λE F=>(a E F).bind λp=>(r E p.2).bind λq=>some (.dat p.1::q.1,q.2)
def vF (i:Nat)(r:DE->M (List DV)):DE->M (List DV):=λE F=>match E[i]? with
 | some (some .feed)=>(r E F).bind λq=>some (.feed::q.1,q.2)
 | _=>none
theorem U3.step (k:Kp (j6 K G) H H')(fB:∀b∈j6 K G,b∈B):∀{args} {vs},U3 K G B H args vs->U3 K G B H' args vs
 | [],vs,h=>h
 | x::xs,vs,#v[v,r,e,h1,h2,h3]=>#v[v,r,e,h1,h2.step k fB,U3.step k fB h3]
def l0 :Evs K X [] T7 u8:=#v[A3,λG B E F a H Q b c I e q=>by cases e;exact q [] H Kp.refl I.fd rfl]
def m5 (ha:Ev K X e te m)(hr:Evs K X es tl ms)(hs:‹QY (e::es) X.env=(false,eval e X.env)::QY es X.env›):Evs K X (e::es) (z9 te tl) (vD m ms) :=
 #v[r8 ha.pe hr.pa hs,λG B E F a H Q r t I e q=>by
  obtain⟨⟨x,d⟩,n,e⟩:=bS9 e;obtain⟨⟨f,s⟩,l,e⟩:=bS9 e;cases e;refine ha.ok G B E F a H _ x d I n λv p c k i=>hr.ok G B E d a p _ f _ (I.step c k) l λg o b j h=>q _ o (c.trans b) j #v[v,g,rfl,rfl,i.same<|b.hid I.fB,h]]
def aO (i)(hr:Evs K X es tl ms)(hN:‹X.N[i]? = some x›)(hv:autoParam (Vis X.env.scope x) kA)(hd:autoParam (nDb x) gC)
  (hcd:autoParam (nCd x) gC) (hs:‹QY (.Name x p::es) X.env=(false,eval (.Name x p) X.env)::QY es X.env›):Evs K X (.Name x p::es) (z9 (P4 i) tl) (vF i ms) :=
 #v[r8 (A9 hN hv hd hcd) hr.pa hs,λG B E F b H Q n r I e q=>by
  unfold vF at e;split at e
  .rename_i h;obtain⟨⟨c,o⟩,l,e⟩:=bS9 e;cases e;let(v,g,f):=I.loc i _ h;refine#v[v,g,hr.ok G B E F b H _ c _ I l λd m a k j=>q _ m a k #v[v,d,rfl,rfl,f.step a I.fB,j]]
  .cases e]
def l6 (f:List DV->M CD)(ms:DE->M (List DV)):DE->M CD:=λE F=>(ms E F).bind λp=>f p.1 p.2
def gO :∀E F args F',u8 E F=some (args,F')->args.length=0:=λE F args F' e=>by cases e;rfl
def rY (h:∀E F args F',ms E F=some (args,F')->args.length=n):∀E F args F',vD m ms E F=some (args,F')->args.length=n+1:=λE F args F' e=>by obtain⟨⟨x,f⟩,c,e⟩:=bS9 e;obtain⟨⟨b,d⟩,a,e⟩:=bS9 e;cases e;rw[qN,h _ _ _ _ a]
def MU (h:∀E F args F',ms E F=some (args,F')->args.length=n):∀E F args F',vF i ms E F=some (args,F')->args.length=n+1:=λE F args F' e=>by
 unfold vF at e;split at e
 .obtain⟨⟨b,c⟩,a,e⟩:=bS9 e;cases e;rw[qN,h _ _ _ _ a]
 .cases e
def nv (C:m7 X.prog X.w X.K X.mg X.base x k ps (spD K n f))(hr:Room k X.A)(ha:Evs K X (e::es) tl ms)(hn:∀E F args F',ms E F=some (args,F')->args.length=n)(hg:‹Gl X x›)
  (hdb:autoParam (nDb x) gC) (he:‹QY (e::es) X.env=(false,eval e X.env)::QY es X.env›) (hpl:‹(Rb pos<|QY es X.env).any (·.1)=false›) :
  Ev K X (.Call (.Name x p) (e::es) [] pos) (eY (spD K n f) [] E0 tl) (l6 f ms):=#v[cK C hr hg ha.pa hdb he hpl,(λG B E F i H Q d F' I e q=>by
   obtain⟨⟨args,h⟩,g,e⟩:=bS9 e;refine ha.ok G B E F i H _ args h I g λr s a c b=>?_
   rw[Am];exact#v[G,B,h,args,d,F',by rw[b.length];exact hn _ _ _ _ g,I.fB,m9 I.bk a c,c,b,e,λv o j m l=>q v o (a.trans j) m l])]
end
end
section
def n1 :¬(("cells":Str) = "at"):=by decide +kernel
def n2 :¬(("cells":Str) = "left"):=by decide +kernel
def n3 :¬(("cells":Str) = "turn"):=by decide +kernel
def n4 :¬(("at":Str) = "left"):=by decide +kernel
def n5 :¬(("at":Str) = "turn"):=by decide +kernel
def n6 :¬(("left":Str) = "turn"):=by decide +kernel
def M3 (a b):((Sum.inr a:Key)=Sum.inr b)=(a=b):=by
 apply propext;constructor
 .intro h;injection h
 .intro h;rw[h]
section

def Mr :W4 (u4 c a l t) (Sum.inr "at")=some (.int a):=by unfold u4;rw[A1 (by rw[M3];exact n1)];exact V6 rfl
def zx :W4 (u4 c a l t) (Sum.inr "left")=some (.int l):=by unfold u4;rw[A1 (by rw[M3];exact n2),A1 (by rw[M3];exact n4)];exact V6 rfl
def Ct :W4 (u4 c a l t) (Sum.inr "turn")=some (.int t):=by unfold u4;rw[A1 (by rw[M3];exact n3),A1 (by rw[M3];exact n5),A1 (by rw[M3];exact n6)];exact V6 rfl
def MJ (z):D8 (u4 c a l t) (Sum.inr "at") (.int z)=u4 c z l t:=by unfold D8;rw[Z6,Mr];simp only[Nr,Bc,u4,kX,Cq,M3,n1,yz,(show ¬(("left":Str) = "at") by decide +kernel),(show ¬(("turn":Str) = "at") by decide +kernel)]
def Jx (z):D8 (u4 c a l t) (Sum.inr "left") (.int z)=u4 c a z t:=by unfold D8;rw[Z6,zx];simp only[Nr,Bc,u4,kX,Cq,M3,n2,n4,yz,(show ¬(("turn":Str) = "left") by decide +kernel)]
def Kd (z):D8 (u4 c a l t) (Sum.inr "turn") (.int z)=u4 c a l z:=by unfold D8;rw[Z6,Ct];simp only[Nr,Bc,u4,kX,Cq,M3,n3,n5,n6,yz]
def FB (hd:H d=some (.dK<|u4 c a l t)):gb H d (.str "cells") (some<|.ref c):=by have:=gb.k (k:=Sum.inr "cells") hd;rwa [(show W4 (u4 c a l t) (Sum.inr "cells")=some (.ref c) by exact V6 rfl)]at this
def MS (hd:H d=some (.dK<|u4 c a l t)):gb H d (.str "at") (some<|.int a):=by have:=gb.k (k:=Sum.inr "at") hd;rwa [Mr]at this
def tE (hd:H d=some (.dK<|u4 c a l t)):gb H d (.str "left") (some<|.int l):=by have:=gb.k (k:=Sum.inr "left") hd;rwa [zx]at this
def Dq (hd:H d=some (.dK<|u4 c a l t)):gb H d (.str "turn") (some<|.int t):=by have:=gb.k (k:=Sum.inr "turn") hd;rwa [Ct]at this
def gR :(u4 c a l t).length<QX:=hV (by show 4<=1000;decide)
def Nh (z) (hd:H d=some (.dK<|u4 c a l t)):jt H d (.str "at") (.int z) (upd H d<|.dK<|u4 c z l t):=by have:=jt.k (k:=Sum.inr "at") (v:=.int z) hd gR;rwa [MJ]at this
def Ci (z) (hd:H d=some (.dK<|u4 c a l t)):jt H d (.str "left") (.int z) (upd H d<|.dK<|u4 c a z t):=by have:=jt.k (k:=Sum.inr "left") (v:=.int z) hd gR;rwa [Jx]at this
def JN (z) (hd:H d=some (.dK<|u4 c a l t)):jt H d (.str "turn") (.int z) (upd H d<|.dK<|u4 c a l z):=by have:=jt.k (k:=Sum.inr "turn") (v:=.int z) hd gR;rwa [Kd]at this
end
def FdS.cell (F:FdS):Int:=if F.ns=[] then 11 else(F.ns[(F.a % (F.ns.length:Int)).toNat]?).getD 0
def J6:List DV->M CD
 | [.feed,.dat<|.int m]=>λF=>(Fam.drawF m F).bind λp=>some (.int p.1,p.2)
 | _=>λ_=>none
def zo {m:Int} (h:0<m):0<=x % m/\x % m<m:=#v[PQ _ (by lia),OL _ h]
def KJ {t:Int}(h0:0<=t)(h1:t<=200000):0<=7919*t*t/\7919*t*t<=7919*200000*200000:=by refine#v[Int.mul_nonneg (by lia) h0,Int.mul_le_mul (by lia) h1 h0<|by lia]
def DB {F:FdS}(h0:¬F.ns=[]):atI (F.ns.map V.int) (F.a % ((F.ns.map V.int).length:Int))=some (.int F.cellL):=by
 have e:F.cellL=F.cell:=by unfold FdS.cellL FdS.cell;rw[oj h0,oj h0]
 rw[e];exact by
  have f:=NM.2 h0;rw[jI];let(d,c):=zo (x:=F.a) (m:=F.ns.length ) (by lia);obtain⟨j,b⟩:∃j:Nat,F.a % F.ns.length=j:=#v[(F.a % F.ns.length ).toNat,by lia];have a:j<F.ns.length:=by lia
  unfold FdS.cell;rw[oj h0,b];refine vd ?_;rw[sq];simp[a]
def qk (ns:List Int):FdS:=#v[ns,0,0,0]
end
section
def cC:Const->Option CD
 | .int i=>some<|.int i
 | .bool b=>some<|.bool b
 | .none=>some .none
 | .str x=>some<|.str x
 | _=>none
def cI:QV->Option Int
 | .Constant c _ _=>match c with
  | .int i=>some i
  | _=>none
 | _=>none
def cU:UnaryOp->Bool
 | .USub=>true
 | _=>false
def cP:Operator->Bool
 | .Pow=>true
 | _=>false
mutual
def dZ:QV->Option CD
 | .Constant c _ _=>cC c
 | .UnaryOp o e _=>if cU o=true then(cI e).map λi=>.int (-i) else none
 | .BinOp a o b _=>if cP o=true then(cI a).bind λi=>(cI b).bind λj=>if DZ i j then some (.int<|i ^ j.toNat) else none else none
 | .Tuple es _ _=>(cm es).bind λd=>if d.length<=10000 then some (.tuple d) else none
 | .List es _=>(cm es).bind λd=>if d.length<=10000 then some (.list d) else none
 | _=>none
def cm:List QV->Option (List CD)
 | []=>some []
 | e::es=>(dZ e).bind λd=>(cm es).bind λa=>some (d::a)
end
mutual
def S9:CD->TE
 | .int i=>tC<|.int i
 | .bool b=>tC<|.bl b
 | .none=>tC .non
 | .str x=>tC<|.str x
 | .tuple ds=>EJ<|cJ ds
 | .list ds=>DR<|cJ ds
 | .dict _=>λ_ _ _=>False
def cJ:List CD->TA
 | []=>T7
 | d::ds=>z9 (S9 d)<|cJ ds
end
def oq (h:cI e=some i):∃k p,e = .Constant (.int i) k p:=by
 unfold cI at h;split at h
 .split at h
  .cases h;exact#v[_,_,rfl]
  .cases h
 .cases h
section
variable {K:Qf}
def xx :∀n,(∀e d,sizeOf e<n->dZ e=some d->Ev K X e (S9 d) (sC d))/\(∀es ds,sizeOf es<n->cm es=some ds->Ea K X es (cJ ds) (λ_ F=>some (ds,F))):=by
 intro n;induction n with
 | zero=>exact#v[λ_ _ h=>absurd h<|Nx _,λ_ _ h=>absurd h<|Nx _]
 | succ n x =>
  refine#v[λe d r h=>?_,λes ds r h=>?_]
  .unfold dZ at h;split at h
   .unfold cC at h;split at h
    .cases h;simp only[S9];exact i9
    .cases h;simp only[S9];exact DD
    .cases h;simp only[S9];exact dO
    .cases h;simp only[S9];exact uW
    .cases h
   .rename_i o l z;split at h
    .rename_i A;let(i,w,y):=sA.1 h;let(k,p,rfl):=oq w;have:o = .USub:=by cases o <;> first | rfl | (exact absurd A<|by decide)
     subst this y;simp only[S9];exact#v[λc s g H Q I h=>(AG sF x9) c s g H Q I #v[i,rfl,h],λG B E F g H Q d D I e q=>by cases e;exact q _ H Kp.refl I.fd c6.int]
    .cases h
   .rename_i a o b z;split at h
    .rename_i A;let(i,w,y):=bS9 h;clear h;let(j,O,h):=bS9 y;let(k,p,rfl):=oq w;let(M,L,rfl):=oq O;have:o = .Pow:=by cases o <;> first | rfl | (exact absurd A<|by decide)
     subst this;split at h
     .rename_i N;cases h;simp only[S9];exact#v[λc s g H Q I h=>(F8 uh x9 x9) c s g H Q I #v[i,j,rfl,rfl,N,h],λG B E F g H Q d D I e q=>by cases e;exact q _ H Kp.refl I.fd c6.int]
     .cases h
    .cases h
   .rename_i es k p;let(ds,l,h):=bS9 h;split at h
    .rename_i hl;cases h;simp only[S9];have t:=x.2 es ds (by simp at r;lia) l;exact#v[sO t.pa,λG B E F g H Q d D I e q=>by
      cases e;refine t.ok G B E F g H _ ds _ I rfl λJ P m v u=>#v[?_,λp f=>q _ _ (m.trans<|Kp.upd f) (v.same<|i5.upd f)<|Q3 (m9 I.bk m v) f u]
      rw[u.length];exact uj hl (by rw[xD];decide)]
    .cases h
   .rename_i es p;let(ds,l,h):=bS9 h;split at h
    .rename_i hl;cases h;simp only[S9];have t:=x.2 es ds (by simp at r;lia) l;exact#v[oX t.pa,λG B E F g H Q d D I e q=>by
      cases e;refine t.ok G B E F g H _ ds _ I rfl λJ P m v u=>#v[?_,λp f=>q _ _ (m.trans<|Kp.upd f) (v.same<|i5.upd f)<|G3 (m9 I.bk m v) f u]
      rw[u.length];exact uj hl (by rw[xD];decide)]
    .cases h
   .cases h
  .cases es with
   | nil=>simp only[cm]at h;cases h;simp only[cJ];exact l3
   | cons e es =>
    simp only[cm]at h
    let(d,l,h):=bS9 h
    let(C,w,h):=bS9 h
    cases h
    simp only[cJ]
    exact e8 (x.1 e d (by simp at r;lia) l) (x.2 es C (by simp at r;lia) w) ((by
     unfold dZ at l;split at l
     .rfl
     .rfl
     .rfl
     .rfl
     .rfl
     .cases l))
def nG (d)(h:dZ e=some d):Ev K X e (S9 d) (sC d):=((xx<|sizeOf e+1).1 e d (Gs _) h)
end
end
end L3
namespace L3
open PySem
def aU:Ri "len" = some (.builtin "len"):=by decide +kernel
def kc:Ri "sum" = some (.builtin "sum"):=by decide +kernel
def oD:Ri "min" = some (.builtin "min"):=by decide +kernel
def uw:Ri "abs" = some (.builtin "abs"):=by decide +kernel
def nj:Ri "repr" = some (.builtin "repr"):=by decide +kernel
def U4:Ri "sorted" = some (.builtin "sorted"):=by decide +kernel
def Q5:Ri "tuple" = some (.type "tuple"):=by decide +kernel
def eJ:Ri "list" = some (.type "list"):=by decide +kernel
def Dk:Ri "int" = some (.type "int"):=by decide +kernel
end L3
namespace L3
open PySem PySem.Spec PyProof.Rows L2

section
section
variable {K:Qf}
def jY (i)(hK:X.K=K)(hv:Ev K X e te m)(hN:‹X.N[i]? = some x›)(hvis:autoParam (Vis X.env.scope x) kA)(hd:autoParam (nDb x) gC)(hcd:autoParam (nCd x) gC)
  (hbase:‹Rh (.Name x px) "append" X.env (eval (.Name x px) X.env)=eval (.Name x px) X.env›)
  (hfew:‹((Rb cp<|QY [e] X.env).all (λx=>!x.1)&&(Rp cp<|Rq [] X.env).all (λx=>x.1.isSome)
   && decide ([e].length+([]:List Rc).length+(if ([]:List Rc).isEmpty then 0 else 1)<30))=true›)
  (hline:‹(ap.endLine == cp.line)=true›) (hst:‹QY [e] X.env=(false,eval e X.env)::QY [] X.env›) (hplain:‹(Rb cp<|QY [] X.env).any (·.1)=false›)
  (hs:‹Rg (.Call (.Attribute (.Name x px) "append" ap) [e] [] cp) none pos.line X.env=pure false›) :
  Ss K X (.Expr (.Call (.Attribute (.Name x px) "append" ap) [e] [] cp) pos) (mM<|tBM K "list" iU (P4 i)<|z9 te T7) (kI i m):=by
 subst hK;exact#v[oO (Bn OV PySem.F.slot_list_append PySem.F.type_list_append cE (A9 hN hvis hd hcd) (r8 hv.pe A3 hst) hbase hfew hline hst hplain) hs,(λG N J E F g H D r M S e q=>by
  obtain⟨⟨d,L⟩,y,e⟩:=bS9 e;let(A,v,e):=bS9 e;split at e
  .rename_i hl;cases e;let(B,s,o,I):=S.ex;have n:=aI v;let(w,j,a,h,rfl,z,p,k,b):=I.loc i _ n;refine#v[_,j,.inl #v[rfl,h,SqL.of k],hv.ok G B E F g H _ d _ I y λu C c l t=>?_];have f:=b.same<|c.hid I.fB;exact#v[a,h,u,rfl,rfl,c a _ k p,by rwa[b.length],q g _<|(S.step c l).write s o (I.step c l) n j<|f.snoc t]
  .cases e)]
def AQ (i)(osc) (N){mt}
  (hN:X.N.Nodup) (hi:Eib K X tg iter wi mi)
  (hg:∀{cl C ex π s H},Eg K (cxC X N scope cl C ex π s H) tg g bd)
  (ht:∀{cl C ex π s H},Ets K (cxC X N scope cl C ex π s H) ifs tt mt)
  (he:∀{cl C ex π s H},Ev K (cxC X N scope cl C ex π s H) elt te me)
  (hc:‹X.calm=true›) (hosc:‹X.env.scope=osc›) (hcap:autoParam (Caps X.N osc N k cap scope) qAl)
  (hix:‹X.N[i]? = some y›) (hLy:autoParam (Loc X.env.scope y) gV)
  (hs:autoParam (∀x,Rj iter X.env x=pure x) qAk) (hfy:autoParam (X.fn y=true\/X.env.scope.names.lookup y=some .local) gV)
  (hsw:‹Rg (.ListComp elt [#v[tg,iter,ifs,0]] scope p) (some<|.Name y py) pos.line X.env=pure true›) :
  Ss K X (.Assign [.Name y py] (.ListComp elt [#v[tg,iter,ifs,0]] scope p) pos) (cf (tLC wi k cap g tt te)<|Q9 i) (kW i<|fLC mi k cap bd mt me) :=
 #v[rp hN hix hLy hc hosc hcap hi.pi (λ_ _ _ _ _ _=>hg.pg) (λ_ _ _ _ _ _=>ht.pts) (λ_ _ _ _ _ _=>he.pe) hs hfy hsw,
  GO (Bf hi.ok (@hg [] 0 [] [] X.s₀ X.H₀).ok (@ht [] 0 [] [] X.s₀ X.H₀).ok (@he [] 0 [] [] X.s₀ X.H₀).ok)]
end
end
variable {sl:Array (Option My)}
section
section
variable {K:Qf}
def GD (K:Qf)(mg:Str->Option My)(x:Str)(d:CD):Prop:=∃a,mg x=some (.ref a)/\∀H,c6 K H d<|.ref a
def LC (h:GD K X.mg x d)(hg:‹Gl X x›)(hd:autoParam (nDb x) gC):Ev K X (.Name x p) (tC<|.ref h.choose) (sC d) :=
 #v[wM hg h.choose_spec.1 rfl hd,λG B E F a H Q d b I e q=>by cases e;exact q _ H Kp.refl I.fd<|h.choose_spec.2 _]
def strsOf:List My->Option (List Str)
 | []=>some []
 | .str x _::r=>(strsOf r).map (x :: ·)
 | _=>none
theorem mG:∀{us} {ss},strsOf us=some ss->k8 (ss.map V.str) us/\∀H,b9 K H (ss.map .str) (ss.map V.str)
 | [],ss,h=>by cases h;exact#v[.nil,λH=>b9.nil]
 | u::r,ss,h=>by
  cases u with
  | str x t =>let(a,d,rfl):=sA.1 (h);let(c,b):=mG d;exact#v[.cons #v[t,rfl] c,λH=>#v[_,_,rfl,rfl,b H]]
  | _=>cases h
def gd_mk (X:K.In h)(G:h.Ns Rf mg)(hn:PySem.W.nsIn K Rf x=some (some<|.ref t))(hl:K.lookup t=some #v[.type "tuple",none,.seq its n,sl])(hs:strsOf its.toList=some ss)(hz:ss.length<=1000):GD K mg x (.tuple<|ss.map .str):=by
 let(a,b):=mG hs;refine#v[t,Oo X G hn,λH=>#v[t,ss.map V.str,rfl,.inr #v[_,its,n,hl,rfl,rfl,rfl,?_,a],b H]];have:=a.length;rw[jI]at this;have e:its.size=ss.length:=by rw[this];simp
 rw[e];exact uj hz (by rw[xD];decide)
end
end

section
section

def X8 {items}(hit:s.heap.IsTupleIter it l i)
  (hl:s.heap.IsTuple l items) (hx:items[i]? = some x)
  (hQ:∀h',h'.IsTupleIter it l (i+1)->QW.SameBut it s.heap h'->Q x { s with heap:=h' }) :
  Re (model prog w) A (Builtin.SmallTypes.nextOf<|.ref it) Q E s:=by
 let(o,b,e,a):=id hit;let(f,c,_,g,d):=hl;refine iD (xW hit.typeIs KZ
  (xw KZ hit.typeIs Pl ?_<|Pd _))
 show Re _ _ (field (.ref it) 0 >>= _) _ _ s;refine iD<|zF b a (x:=.ref l) rfl ?_;rw[oj<|show ¬((My.ref l == My.none)=true) from tN];refine iD<|zF b a rfl<|iD<|Ej c d ?_;simp only[yB,hx];refine iD (MH b a (by simp)<|iO #v[x,rfl,iO<|hQ _ (#v[_,FC _ b<|Py<|Nu a _,(QZ.cls_mapFields ..).trans e,by rw[Nu a];simp[rawInt]])<|DG ..])
def au {items}(hh:A.handled=none)
  (hit:s.heap.IsTupleIter it l i) (hl:s.heap.IsTuple l items) (hx:items[i]? = none)
  (hE:∀h' e,QW.ExtBut it s.heap h'->(∃o,h'.get? e=some o/\o.cls = .type "StopIteration")->E (.ref e) { s with heap:=h' }) :
  Re (model prog w) A (Builtin.SmallTypes.nextOf<|.ref it) Q E s:=by
 let(o,c,j,f):=id hit;let(g,b,_,h,d):=hl;refine iD (xW hit.typeIs KZ
  (xw KZ hit.typeIs Pl ?_<|Pd _))
 show Re _ _ (field (.ref it) 0 >>= _) _ _ s;refine iD<|zF c f (x:=.ref l) rfl ?_;rw[oj<|show ¬((My.ref l == My.none)=true) from tN];refine iD<|zF c f rfl<|iD<|Ej b d ?_;simp only[yB,hx];refine iD (JV<|iD<|MH c f (by simp) (iD ?_) );simp only[newExc];refine iD (xI (iD (Pj (by first | rfl | (simp only[firstArgMember];rfl)) ?_))<|by size_fits);refine xI ?_ (by size_fits);simp only[raiseNew];refine iD<|Pq ?_;first | rw[hh] | rw[hh]
 refine iD<|iO<|Qi<|hE _ _ (((DG ..).extBut.push _).push _) #v[_,ou _ rfl,rfl]
end
def y8 (b:Bool)(h:QW)(it l:QN)(i:Nat):Prop:=if b then h.IsListIter it l i else h.IsTupleIter it l i
def K5 (b:Bool)(h:QW)(l:QN)(items:Array My):Prop:=if b then h.IsList l items else h.IsTuple l items
def y8.at (x:y8 b h it l i)(k:∀o,h.get? it=some o->h'.get? it=some o):y8 b h' it l i:=by
 cases b
 .exact QW.IsTupleIter.at (x) k
 .exact QW.IsListIter.at (x) k
def K5.at (x:K5 b h l items)(k:∀o,h.get? l=some o->h'.get? l=some o):K5 b h' l items:=by
 cases b
 .let(o,a,r):=(x);exact#v[o,k o a,r]
 .exact QW.IsList.at (x) k
def y8.obj (x:y8 b h it l i):∃o,h.get? it=some o/\∀v,o.data ≠ .cell v:=by
 cases b
 .let(o,e,c,d):=(x);exact#v[o,e,λv z=>by rw[d]at z;cases z]
 .let(o,e,c,d):=(x);exact#v[o,e,λv z=>by rw[d]at z;cases z]
def pj (b) (hh:A.handled=none)(it l) (hne:l≠it)(items) :
  Draws prog w A it [it,l] items.size (λi v=>items[i]? = some v) (λi h=>y8 b h it l i/\K5 b h l items) where
 live:=λ_ _ st=>let #v[o,m,_]:=st.1.obj;#v[o,m]
 frame:=λ_ _ _ st g=>#v[st.1.at λo e=>g it (by simp) o e,st.2.at λo e=>g l (by simp) o e]
 item:=λi s Q E d st j=>by
  cases b
  .refine X8 (st.1) (st.2) (x:=items[i]) (by simp[d]) λf c a=>j _ f s.toks (by simp[d]) #v[c,st.2.at λo e=>a.extBut l o hne e] a
  .refine wpAny_nextOf_list_item (st.1) (st.2) (x:=items[i]) (by simp[d]) λf c a=>j _ f s.toks (by simp[d]) #v[c,st.2.at λo e=>a.extBut l o hne e] a
 done:=λs Q E st k=>by
  cases b
  .exact au hh (st.1) (st.2) (by simp) k
  .exact wpAny_nextOf_list_end hh (st.1) (st.2) (by simp) k
open AutoSeq1 (wpAny_loadPart') in
def cb (l:QN)(items:Array My)(n:Nat)(dct:Option QN)(sl:Array (Option My)) :
  Meets (Builtin.«enumerate.__new__» #v[[.type "enumerate",.ref l],[]]) (λ_ R s=>s.heap.get? l=some { cls:=.type "tuple",dict:=dct,data:=.seq items n,slots:=sl } /\
   R (.ok<|.ret<|.ref (s.heap.push { cls:=.type "tuple_iterator",data:=.fields #[.ref l,.int 0 0] }).objs.size)
    { s with heap:=(s.heap.push { cls:=.type "tuple_iterator",data:=.fields #[.ref l,.int 0 0] }).push { cls:=.type "enumerate",data:=.fields #[.none,.bool false,.ref (~~~s),rawInt 0,.none,.none] } }) :=
 .of_wp λprog w A R s h=>by
  let(i,g,d,e,f):=s;let(hl,h):=h;have b:=sub_enumerate;have a:QW.IsTuple (QO.heap #v[i,g,d,e,f]) l items:=#v[_,hl,rfl,n,rfl];wp_walk using wpAny_loadPart' hl;refine wpAny_stack_any λst=>iO ?_
  split
  .rename_i c _ _ _ _ _;cases(c == My.type "enumerate")
   .wp_walk using wpAny_loadPart' hl,Ld a;exact#v[_,rfl,h]
   .wp_walk using wpAny_loadPart' hl,Ld a;exact#v[_,rfl,h]
  .wp_walk using wpAny_loadPart' hl,Ld a;exact#v[_,rfl,h]
section
variable {s:QO}
def bh (hL:s.heap.IsTuple l items)
  (h:∀h',IsEnum h' (~~~s+1) (~~~s) 0 .none->h'.IsTupleIter (~~~s) l 0->h'.objs.size= ~~~s+2 ->
   (∀b o,s.heap.get? b=some o->h'.get? b=some o)->Q (.ref<|~~~s+1) { s with heap:=h' }) :
  Re (model prog w) A (call (.type "enumerate") [.ref l]) Q E s:=by
 obtain⟨⟨c,f,i,sl⟩,hl,e,n,d⟩:=hL;replace e:=e;replace d:=d;subst e d;refine callType_new PySem.F.called_enumerate (by decide) (PySem.F.typeCall_enumerate_1 _) (PySem.F.newCall_enumerate_1 _) (λobj=>PySem.F.args_object_init_2 obj _) PySem.F.entry_enumerate_new
  (cb l items n f sl) #v[hl,?_]
 have a:(s.heap.push { cls:=.type "tuple_iterator",data:=.fields #[.ref l,.int 0 0] }).objs.size= ~~~s+1:=AW ..;rw[a];have g:IsEnum ((s.heap.push { cls:=.type "tuple_iterator",data:=.fields #[.ref l,.int 0 0] }).push
   { cls:=.type "enumerate",data:=.fields #[.none,.bool false,.ref (~~~s),rawInt 0,.none,.none] }) (~~~s+1) (~~~s) 0 .none:=by
  have:=ou (s.heap.push { cls:=.type "tuple_iterator",data:=.fields #[.ref l,.int 0 0] })
   (o:={ cls:=.type "enumerate",data:=.fields #[.none,.bool false,.ref (~~~s),rawInt 0,.none,.none] }) rfl
  rwa[a]at this
 refine#v[#v[_,g,rfl],h _ g #v[_,jM _<|ou _ rfl,rfl,rfl] (by rw[AW,a]) λb o x=>jM _<|jM _ x]
def xm (hL:K5 b s.heap l items)
  (h:∀h',IsEnum h' (~~~s+1) (~~~s) 0 .none->y8 b h' (~~~s) l 0->h'.objs.size= ~~~s+2 ->
   (∀b o,s.heap.get? b=some o->h'.get? b=some o)->Q (.ref<|~~~s+1) { s with heap:=h' }) :
  Re (model prog w) A (call (.type "enumerate") [.ref l]) Q E s:=by
 cases b
 .exact bh (hL) h
 .exact call_enumerate_list (hL) h
end
def SqA (b:Bool)(K:Qf)(H:Hp)(a:QN)(xs:List V):Prop:=if b then SqL K H a xs else SqT K H a xs
def Ite (b:Bool)(K:Qf)(a:QN):It :=
 #v[λi H=>∃c x,SqA b K H a c/\c[i]? = some x,λi H v d=>∃t x,v = .ref t/\H t=none/\d=upd H t (.tup [.int i,x])/\∀c,SqA b K H a c->c[i]? = some x,λi H=>∃c,SqA b K H a c/\c.length=i]
def SqA.get {X}{σ:St}{H}{s}{a}{xs} (I:Inv X π σ H s)(h:SqA b X.K H a xs):∃its,k8 xs its/\K5 b s.heap a its.toArray:=by
 cases b
 .let(its,c,p,_):=I.tuple (h);exact#v[its,c,p]
 .let(its,c,p,_):=I.list (h);exact#v[its,c,p.isList]
def SqA.inj {X}{σ:St}{H}{s}{a}{xs ys} (I:Inv X π σ H s)(h:SqA b X.K H a xs)(h':SqA b X.K H a ys):ys=xs:=by
 cases b
 .exact I.tuple_inj (h') (h)
 .exact I.list_inj (h') (h)
end
section
def kF {h:QW}{c:QN}(hl:c<h.objs.size)(e:(h.push o).get? c=some o'):h.get? c=some o':=by let(b,a):=QW.get?_some_iff.1 e;refine QW.get?_some_iff.2 #v[?_,a];have:=uu hl;cases h;simpa [QW.push,Array.getElem?_push,this] using b
def J0 {σ:St}{fp:List QN}(I:Inv X π σ H s)(hf:∀b∈fp,bX X π H b)(k:∀b o,b ∉ fp->s.heap.get? b=some o->h'.get? b=some o):Inv X π σ H { s with heap:=h',toks:=t' }:=by
 have d:∀b u,H b=some u->b ∉ fp:=λb u e z=>by rw[(hf b z).1]at e;cases e
 refine I.step (λb h=>?_) (λb o _ _ a e _=>k b o a e) (λb o _ _ a e _=>#v[o.slots,k b o a e]) (λ_ _ _ _ n=>n)
  (λb o a e=>#v[o,k b o a e]) (λ_ _ e=>e) (λ_ _ _ e=>e) (λb w e=>#v[#[],by rw[e];simp]) (λm g=>?_) (λb u e=>?_) I.bare
 .let(_,p,x,l,j,i):=hf b h;exact#v[l,p,j,i]
 .let(o,es,t,f,r):=g;exact#v[o,es,t,k _ o (λz=>(hf _ z).2.1 rfl) f,r]
 .refine(I.hok b u e).stay (λc v a q=>k c v ?_ q) (λ_ q=>q) λ_ _ q=>q
  rcases a with z | z
  .rw[z];exact d b u e
  .exact d c _ z
def yt {K}(b) (a e it):Turn P w K (.Tuple es k pos) (Ite b K a) [e,it] e (λi h=>(e≠it/\a≠e/\a≠it)/\(∃old,IsEnum h e it i old)/\y8 b h it a i) where
 mem:=by simp
 obj:=λi h st c hb=>by
  obtain⟨_,⟨old,q⟩,d⟩:=st;rcases oZ.1 hb with rfl | hb
  .exact#v[_,q,λv z=>by cases(show Data.fields _=Data.cell v from z)]
  .rw[xp.1 hb];exact d.obj
 keep:=λi h h' st kk=>by obtain⟨n,⟨old,q⟩,d⟩:=st;exact#v[n,#v[old,kk e (by simp) _ q],d.at λo z=>kk it (by simp) o z]
 item:=by
  intro X hP R hK J i π s N H E I Z st W;subst hP R hK;obtain⟨⟨n1,n2,n3⟩,⟨old,q⟩,d⟩:=st;let(xs,x,M,L):=W;let(g,O,p):=SqA.get I M;let(u,hu,ru):=O.get L;have D:e<( ~~~s):=pz q;refine wpAny_pyNext_enum_itemD (pj b (A:=X.A.in1) (I.ok.hd J) it a n3 g.toArray) q #v[d,p] (by have:=(pG.1 hu).1;simpa using this) n1 (by simp[n1,DO n2]) λy h' l t ho B ht hz hk=>?_
  have Q:y=u:=by have t:=t;rw[Ny,hu]at t;exact(rn t).symm
  subst Q;refine#v[_,rfl,wpAny_letOwnedTupleGo_enum ho λh2 ab m=>?_];have m:=m;have I1:Inv X π N (upd H (~~~s)<|.tup [.int i,x]) { s with heap:=s.heap.push { cls:=.type "tuple",data:=.seq #[.int i l,y] },toks:=l }:=by refine I.laid (λb u e=>jM _ e) (qD _)<|#v[uj (show 2<=10000 by decide) (by rw[xD];decide),[.int i l,y],.cons #v[l,rfl]<|.cons ru .nil,#v[_,ou _ rfl,rfl,_,rfl],.mk (ou _ rfl) rfl]
  have C:∀c∈[e,it],bX X π (upd H (~~~s)<|.tup [.int i,x]) c:=λc j=>by
   let(f0,f):=Z c j;have S:c≠(~~~s):=by
    rcases oZ.1 j with rfl | j
    .exact uu D
    .rw[xp.1 j];exact uu (by let(o,z,_):=d.obj;exact pz z)
   exact#v[by rwa[h7 S],f]
  have I2:Inv X π N (upd H (~~~s)<|.tup [.int i,x]) { s with heap:=h2,toks:=l+1 }:=by
   refine J0 (s:={ s with heap:=s.heap.push { cls:=.type "tuple",data:=.seq #[.int i l,y] },toks:=l }) I1 C λc o F r=>?_
   have c1:c≠e:=λz=>F (by simp[z])
   by_cases G:c= ~~~s
   .subst G;have:=r;rw[ou _ rfl]at this;rwa[m.extBut _ _ (AS D) ht ]
   .have ad:s.heap.get? c=some o:=by exact kF (by have h1:=pz r;rw[AW]at h1;exact Qn (Qu h1) G) r
    exact m.extBut c o c1<|hk c o c1 (λz=>F (by simp[z])) ad
  refine#v[.ref (~~~s),upd H (~~~s)<|.tup [.int i,x],I2,rfl,#v[_,x,rfl,I.hok.fresh<|qD _,rfl,λys t=>by rwa[SqA.inj I M t]],#v[#v[n1,n2,n3],#v[y,by simpa using ab],B.1.at λo z=>m.extBut it o (DO n1) z],λc j=>(C c j).1]
 done:=by
  intro X hP R hK J i π s N H E I Z st W;subst hP R hK;obtain⟨⟨n1,n2,n3⟩,⟨old,q⟩,d⟩:=st;let(xs,M,L):=W;let(g,O,p):=SqA.get I M;have hl:g.toArray.size=i:=by rwa[tG,<-O.length]
  refine wpAny_pyNext_enum_endD (pj b (A:=X.A.in1) (I.ok.hd J) it a n3 g.toArray) q (by rw[hl];exact#v[d,p]) λh' eb=>#v[rfl,J0 I Z λc o J r=>eb c o (λz=>J<|by simp[z]) r]
 self:=λ_ _ _ _ _ st h=>by obtain⟨_,⟨old,q⟩,_⟩:=st;exact wpAny_pyIter_enum q h
section
variable {K:Qf}
def ak:Nat->List CD->List CD
 | _,[]=>[]
 | k,d::r=>.tuple [.int k,d]::ak (k+1) r
theorem lC:∀{ds} {k},(ak k ds).length=ds.length
 | [],k=>rfl
 | d::r,k=>by rw[ak,qN,qN,lC]
theorem mK:∀{ds} {k i} {z:CD},(ak k ds)[i]? = some z->∃d,ds[i]? = some d/\z = .tuple [.int<|(k+i:Nat),d]
 | [],k,i,z,h=>by simp[ak]at h
 | d::r,k,0,z,h=>by simp[ak]at h;exact#v[d,by simp,by simp[h]]
 | d::r,k,i+1,z,h=>by rw[ak,List.getElem?_cons_succ]at h;let(c,b,a):=mK h;refine#v[c,by simpa using b,?_];rw[a,show k+1+i=k+(i+1) by lia]
def vB (a:DE->M CD):DE->M (List CD):=λE F=>(a E F).bind λp=>(mn p.1).bind λb=>some (ak 0 b,p.2)
def GS (K:Qf)(tl:TA):TI:=λd H R=>tl d H λf c=>∃a,f=[.ref a]/\∃b e,SqA b K c a e/\R (Ite b K a) c
def Ed (hK:X.K=K)(hg:Gl X "enumerate")(hm:X.mg "enumerate" = none)(ha:PA X [l] tl)(hs:‹QY [l] X.env=[(false,eval l X.env)]›):PI X (.Tuple es tk tp) (.Call (.Name "enumerate" p) [l] [] pos) (GS K tl):=by
 subst hK;refine λπ s m H R I h=>Call_ (Z2 I hg hm boot_enumerate<|Fw (thn (ha pos π s m H _ I h) ?_ ) hs rfl);rintro us s1 ⟨D,t,i,v,w⟩;let(a,e,b,C,x,q):=w;subst e;cases v with
 | cons r u =>
  cases u;cases r;let(d,E,p):=SqA.get i x;refine xm p λA n j F y=>?_
  have g:a<( ~~~s1):=by
   cases b
   .let(o,z,_):=(p);exact pz z
   .let(o,z,_):=(p);exact pz z
  refine wpAny_pyIter_enum n #v[~~~s1+1,[~~~s1+1,~~~s1],_,_,t,rfl,i.kept y,yt b a _ _,#v[#v[Nat.succ_ne_self _,uu<|FJ g,uu g],#v[_,n],j],λc k=>?_,q];have f: ~~~s1<=c:=by
   rcases oZ.1 k with rfl | k
   .exact KD _
   .rw[xp.1 k];exact qD _
  exact i.fpOk f<|i.hok.fresh f
def xa (h:∀H B,P H B->SqA b K H a xs/\b9 K (hid H B) ds xs):ee K P (Ite b K a) (ak 0 ds):=λH B l=>by let(f,j):=h H B l;refine#v[λi d e=>?_,#v[xs,f,by rw[lC,j.length]]];let(o,c,rfl):=mK e;let(v,k,m):=b9.item j c;refine#v[#v[xs,v,f,k],λx p y=>?_];let(t,n,rfl,g,rfl,y):=y;have:=y xs f;rw[k]at this;cases this;refine#v[i5.upd g,λbk=>?_];rw[yo];exact Q3 bk g #v[_,_,rfl,c6.int,_,_,rfl,m,rfl]
def BZ (h:Eb K X e te m)(hm:X.mg "enumerate" = none)(hK:‹X.K=K›)(hg:‹Gl X "enumerate"›)(hs:‹QY [e] X.env=[(false,eval e X.env)]›):Eib K X (.Tuple es tk tp) (.Call (.Name "enumerate" p) [e] [] pos) (GS K<|z9 te T7) (vB m):=#v[Ed hK hg hm (r8 h.pe A3 hs) hs,λG B E F n H R w x I e q=>by
 obtain⟨⟨y,t⟩,r,e⟩:=bS9 e;let(z,f,e):=bS9 e;cases e;refine h.ok G B E F n H _ y t I r λv l g j i=>?_
 cases y with
 | list o =>cases f;let(a,c,rfl,b,d):=i;exact#v[a,rfl,true,c,SqL.of<|d9 _ _ b,q _ l g j<|xa λs u k=>#v[SqL.of<|d9 _ _<|k.1.hid (λ_ z=>z) _ _ b,d.same k.2]]
 | tuple o =>cases f;let(a,c,rfl,b,d):=i;exact#v[a,rfl,false,c,b.same d9,q _ l g j<|xa λs u k=>#v[(b.same k.2).same d9,d.same k.2]]
 | _=>cases f]
end
end
section
section
variable {K:Qf}{b c:QV}
noncomputable def fJ (c:DE->M Bool)(b:DE->M Out):Nat->DE->M Out
 | 0,_,_=>none
 | n+1,E,F=>(c E F).bind λp=>if p.1=true then(b E p.2).bind λq=>match q.1 with
  | .nx E2=>fJ c b n E2 q.2
  | .ct E2=>fJ c b n E2 q.2
  | .bk E2=>some (.nx E2,q.2)
  | .rt d=>some (.rt d,q.2)
  else some (.nx E,p.2)
theorem cH {c}{b}:∀{n m} {E} {F} {r},n<=m->fJ c b n E F=some r->fJ c b m E F=some r
 | 0,m,E,F,r,_,h=>by cases h
 | n+1,0,E,F,r,hl,h=>absurd hl (by lia)
 | n+1,m+1,E,F,r,hl,h=>by
  rw[fJ]at h ⊢;obtain⟨⟨x,i⟩,f,h⟩:=bS9 h;rw[f,tV];cases x with
  | false=>exact h
  | true =>
   rw[nY rfl]at h ⊢;obtain⟨⟨o,g⟩,e,h⟩:=bS9 h;rw[e,tV];cases o with
   | nx a=>exact cH (by lia) h
   | ct a=>exact cH (by lia) h
   | bk a=>exact h
   | rt d=>exact h
open Classical in
def mWh (c:DE->M Bool)(b:DE->M Out):DE->M Out:=λE F=>if h:∃n r,fJ c b n E F=some r then some (Classical.choose<|Nz h) else none
def JH {c}{b}(h:fJ c b n E F=some r):mWh c b E F=some r:=by unfold mWh;have a:∃n r,fJ c b n E F=some r:=#v[n,r,h];rw[dif_pos a];have d:=cH (Nat.le_max_right n<|Classical.choose a) (Nz<|Nz a);rw[cH (Nat.le_max_left n<|Classical.choose a) h ]at d;exact d.symm
def JB {c}{b}(h:mWh c b E F=some r):∃n,fJ c b n E F=some r:=by
 unfold mWh at h;split at h
 .rename_i a;cases h;exact#v[_,Nz<|Nz a]
 .cases h
def pX {tb}{mc}{mb} (hc:Et K X c tt mc)(hb:Sss K X body tb mb)(hp:PassesOwn (model X.prog X.w) X.A X.env X.xe:=by exact PassesOwn.never):Ss K X (.While c body [] pos) (sX tt tb) (mWh mc mb) :=
 #v[(by
  rintro π s z H D I ⟨W,⟨m0,w0⟩,t⟩;refine wpAny_While (codeAny_whileLoop (λn s'=>∃i y,Inv X π i y s'/\W n i y) ?_ m0 #v[z,H,I,w0]);rintro n s1 ⟨j,H1,I1,w1⟩;refine Nv hp (thn (hc.pt π s1 j H1 _ I1<|t n j H1 w1) ?_ );rintro b s2 ⟨J,I2,C⟩;cases b with
  | true =>
   let(N,Y,C):=C;rw[nY rfl];refine Nv hp (thn (hb.ps π s2 j J _ I2 C) λf s3 A=>?_);cases f with
   | next =>let(g,k,R,n3):=A;let(P,Q,O):=Y g k n3;exact#v[P,Q,g,k,R,O]
   | cont =>let(g,k,R,n3):=A;let(P,Q,O):=Y g k n3;exact#v[P,Q,g,k,R,O]
   | brk=>exact A
   | ret v=>exact A
  | false =>
   rw[oj tN];exact PB #v[j,J,I2,C]),(λG V T E F z H D r F' S e q=>by
    let(n,e):=JB e;refine#v[λm z H=>∃E F,Sit K G V T E F z H/\fJ mc mb m E F=some (r,F'),#v[n,E,F,S,e],?_];rintro m p J ⟨E2,F2,S2,a⟩;cases m with
    | zero=>cases a
    | succ m =>
     rw[fJ]at a;obtain⟨⟨x,F3⟩,e3,a⟩:=bS9 a;let(B,s,sn,I):=S2.ex;refine hc.ok G B E2 F2 p J _ x F3 I e3 λk k3 f3=>?_
     have Z:=S2.step k3 f3;cases x with
     | false =>rw[oj tN];cases a;exact q p k Z
     | true =>
      rw[nY rfl];rw[nY rfl]at a;obtain⟨⟨o,U⟩,e4,a⟩:=bS9 a;refine#v[λi y=>∃E F,Sit K G V T E F i y/\fJ mc mb m E F=some (r,F'),λi y h=>#v[m,Gs _,h],hb.ok G V T E2 F3 p k _ o U Z e4 ?_ ];cases o with
      | nx L=>exact λl w u=>#v[L,U,u,a]
      | ct L=>exact λl w u=>#v[L,U,u,a]
      | bk L=>cases a;exact λl w u=>q l w u
      | rt d=>cases a;exact λv w k6 f6 h6=>q v w k6 f6 h6)]
noncomputable def yL (f:Int->Int->Int)(i:Nat)(a:DE->M CD):DE->M Out:=λE F=>match E[i]? with
 | some (some<|.dat<|.int x)=>(a E F).bind λp=>(F0 p.1).bind λy=>(bN i (.int<|f x y) E).bind λE1=>some (.nx E1,p.2)
 | _=>none
def MA (he:TEd K te m):TSd K (JE i te<|ipI f) (yL f i m):=λG O M E F c H D r N S e q=>by
 unfold yL at e;split at e
 .rename_i x p;obtain⟨⟨d,l⟩,z,e⟩:=bS9 e;let(y,w,e):=bS9 e;let(L,u,e):=bS9 e;cases e;let(B,s,o,I):=S.ex;let(v,n,b):=I.loc i _ p;have b:c6 K (hid H B) (.int x) v:=b;simp only[c6]at b;subst b;refine#v[_,n,he G B E F c H _ d l I z λv k g j h=>?_];have:=V9 w;simp only at this;subst this;simp only[c6]at h;subst h;refine#v[x,y,rfl,rfl,?_];have A:=S.step g j;exact jE i G B E l c k (.int<|f x y) _ L (λa J=>D.nx a J) (I.step g j) c6.int u λa C t=>q a k<|A.bind s o C t
 .cases e
def Gi (i)(hN:X.N.Nodup)(he:Ev K X e te m)(hi:‹X.N[i]? = some x›)(hx:autoParam (Loc X.env.scope x) gV)(hf:autoParam (X.fn x=true\/X.env.scope.names.lookup x=some .local) gV) :
  Ss K X (.AugAssign (.Name x pos') .Add e pos) (JE i te<|ipI λi j=>i+j) (yL (λi j=>i+j) i m):=#v[(by
   intro π s n H D I h;let(v,F,h):=h;let(m,B,hl):=I.loc;let(u,r,l):=hl i x v hi F (by rcases hx with k | k;exact .inl k;exact .inr (.inl k));refine wpAny_AugAssign_Name ?_;have o:Re (model X.prog X.w) X.A (eval e X.env) (λw f=>Re (model X.prog X.w) X.A (inplaceOp Operator.Add u w) (λr d=>Re (model X.prog X.w) X.A (storeName X.env x r) (λ_=>SP X π D .next) X.xe d) X.xe f) X.xe s:=by
    refine thn (he.pe π s n H _ I h) ?_;rintro w s1 ⟨y,N,L,q,A⟩
    refine thn (Iz π s1 n N v y u w _ L r q A) ?_;rintro z s2 ⟨O,M,J,p,t⟩
    exact ae J hN hi hx p (λP G=>#v[_,M,G,t]) hf
   rcases l with ⟨a,C⟩ | ⟨a,c,E,b⟩
   .exact wpAny_loadName_local I.ok.kind a B C o
   .rcases a with a | a
    .exact wpAny_loadName_cell I.ok.kind a E b o
    .rcases hx with k | k
     .have:X.env.scope.names.lookup x=some .free:=a;rw[k]at this;cases this
     .have:X.env.scope.names.lookup x=some .free:=a;rw[k]at this;cases this),MA he.ok]
end
end
section
section
variable {K:Qf}
def Hw :List V->Hp->VK->Prop:=λa H Q=>∃(p:QN) (i j:Int),a=[.ref p]/\H p=some (.rng i j) /\ -(2 ^ 62)<=i/\i<2 ^ 62 /\ -(2 ^ 62)<=j/\j<2 ^ 62/\(j-i).toNat<=1000/\∀l,H l=none->Q (.ref l) (upd H l<|.lst<|(List.range (j-i).toNat).map λ(k:Nat)=>V.int<|i+(k:Int))
theorem rS {lo}:∀{ns:List Nat},b9 K H (ns.map λ(i:Nat)=>CD.int<|lo+i) (ns.map λ(k:Nat)=>V.int<|lo+(k:Int))
 | []=>b9.nil
 | n::r=>#v[_,_,rfl,c6.int,rS]
def mO (a:DE->M (List CD)):DE->M CD:=λE F=>(a E F).bind λp=>(aM p.1).bind λb=>if b.length<=1000 then some (.list b,p.2) else none
def Cb {ta}(h:Ea K X [a] ta ms)(hc:X.calm=true)(hm:X.mg "range" = none)(hml:X.mg "list" = none)(hbt:Ri "list" = some (.type "list"))(hg:‹Gl X "range"›)(hgl:‹Gl X "list"›)(hs:‹QY [a] X.env=[(false,eval a X.env)]›)
  (he:‹QY [.Call (.Name "range" p2) [a] [] pos2] X.env=(false,eval (.Call (.Name "range" p2) [a] [] pos2) X.env)::QY [] X.env›) (hpl:‹(Rb pos<|QY [] X.env).any (·.1)=false›) :
  Ev K X (.Call (.Name "list" p) [.Call (.Name "range" p2) [a] [] pos2] [] pos) (tCB Hw<|z9 (LR ta) T7) (mO ms) :=
 #v[ah ((by
  rintro π s A H xs us Q I r ⟨p,i,j,rfl,f,i0,i1,j0,j1,m,q⟩;let(u,rfl,U):=C5 r;cases U;let(t,u,v,Y):=(I.hok p _ f);have Z:Builtin.Range.rangeSize i j 1=((j-i).toNat):=by rw[rangeSize_one];split <;> lia
  refine call_list_range (I.ok.hd hc) Y (small_one (by lia) (by lia) (by lia)<|by lia) Z (by lia) λh' T L c' hk hS C=>?_
  have I1:Inv X π A (upd H (~~~s)<|.lst<|(List.range (j-i).toNat).map λ(k:Nat)=>V.int<|i+k ) { s with heap:=h',toks:=T } :=
   I.laid hk (qD _) #v[by rw[jI,xB];exact Ir<|hV<|by lia,L.toList,c',(by
    let(y,w):=C;refine M9 (by rw[jI,xB,zq,y]) λi x u P W=>?_
    rw[sq]at P;let(j,g,rfl):=sA.1 P;let(ab,e):=pG.1 g;rw[OH]at e;subst e;let(t,rfl):=w i u (by rwa[<-zS]);exact#v[t,by congr 1;lia]),by rw[hS]]
  exact#v[.ref (~~~s),_,I1,rfl,q _<|I.hok.fresh<|qD _])) hgl hml hbt (r8 (BE hg hm h.pa hs) A3 he) (by decide) (by decide) he hpl,λG B E F A H Q d F' I e q=>by
  obtain⟨⟨N,F1⟩,e1,e⟩:=bS9 e;let(z,c,e):=bS9 e;split at e
  .rename_i m;cases e;refine h.ok G B E F A H _ N F1 I e1 λvs H1 O R y=>?_
   unfold aM at c;split at c
   .rename_i j g;split at c
    .rename_i hc;cases c;subst g;simp only[b9]at y;let(x,r,rfl,w,rfl):=y;simp only[c6]at w;subst w;simp[iE]at m;refine#v[j,rfl,λp f=>#v[p,0,j,rfl,i3,by lia,by lia,hc.1,hc.2,by lia,λl hl=>?_]];have D:BOk (upd H1 p<|.rng 0 j) B:=λb hb=>by let(o,S):=(m9 I.bk O R) b hb;exact#v[o,by rwa[h7<|k9 S f]]
     rw[Int.sub_zero];exact q _ _ ((O.trans<|Kp.upd f).trans<|Kp.upd hl) ((R.same<|i5.upd f).same<|i5.upd hl) (G3 D hl rS)
    .cases c
   .cases c
  .cases e]
end
end
section
section

def KP (ho:s.heap.get? a=some o)(h:Q (some o) s):Re (model prog w) A (loadIfAlive a) Q E s:=by
 have b:Q (s.heap.get? a) s:=by rwa[ho]
 exact λ_ _ _=>b
end
section
def pZ (h:k8 xs us):us.length=xs.length:=by
 induction h with
 | nil=>rfl
 | cons _ _ a=>simp[a]
end
section

def mY (hh:A.handled=none)(hl:s.heap.IsTuple l (intItems xs))
  (h:∀h' tk t',(∀b o,s.heap.get? b=some o->h'.get? b=some o)->Q (.int (preSum (numAt xs) xs.size) t') { s with heap:=h',toks:=tk }) :
  Re (model prog w) A (call (.builtin "sum") [.ref l]) Q E s:=by
 have a:l<( ~~~s):=by let(_,e,_):=hl;exact pz e
 refine call_sum_walkG<|Ld hl<|#v[~~~s,[~~~s,l],[~~~s],_,_,_,numAt xs,rfl,Walks.tuple (A:=A.in1) hh _ l (uu a)<|intItems xs,#v[#v[_,ou _ rfl,rfl,rfl],hl.push _],λb c=>?_,(λ_ _=>Pm),λh' tk t' f=>?_]
 .rw[AW];rcases oZ.1 c with rfl | c
  .exact Gs _
  .rw[xp.1 c];exact FJ a
 .have:=h h' tk t' λb o e=>f b o (λd=>by rw[xp.1 d]at e;exact absurd (pz e)<|Bl _)<|jM _ e
  simpa [intItems] using this
end
section
variable {K:Qf}
def yf (hc:X.calm=true):w8 X (.builtin "sum") (λxs H Q=>∃(a:QN) (ns:List Int),xs=[.ref a]/\SqT X.K H a (ns.map V.int)/\Q (.int ns.sum) H):=by
 rintro π s n H xs us Q I r ⟨a,ns,rfl,k,q⟩;let(u,rfl,i):=C5 r;cases i;let(j,g,p,t):=I.tuple k;have d:=P5 g;let(c,b):=d.allInts.items;refine mY (I.ok.hd hc) (b▸p) λv o f m=>#v[.int ns.sum,H,I.kept m,#v[f,?_],q]
 have e:numsOf (intItems c).toList=ns:=by rw[<-b];exact d.numsOf
 rw[nums_intItems]at e;rw[preSum_eq,Ff (by simp),e]
def dh:List CD->Option CD
 | [.list ds]=>(G7 ds).map λa=>.int a.sum
 | [.tuple ds]=>(G7 ds).map λa=>.int a.sum
 | _=>none
def eX (hK:X.K=K)(hc:X.calm=true):w8 X (.builtin "sum") (rDN K dh):=by
 subst hK;rintro π s g H i us Q I r ⟨k,B,l,z,bk,j,b,q⟩;unfold dh at b;split at b <;> try cases b
 .let(c,e,rfl):=sA.1 b;cases B4 e;let(v,rfl,a,i,rfl,f,d):=cM j rfl;cases bY d;exact AM hc π s g H _ us Q I r #v[a,c,rfl,SqL.of<|d9 _ _ f,q _ H (i5.refl H) c6.int]
 .let(c,e,rfl):=sA.1 b;cases B4 e;let(v,rfl,a,i,rfl,f,d):=cM j rfl;cases bY d;exact yf hc π s g H _ us Q I r #v[a,c,rfl,f.same d9,q _ H (i5.refl H) c6.int]
end
end
section
section
variable {K:Qf}
def iN:List Int->Int
 | []=>0
 | [x]=>x
 | x::y::r=>max x<|iN (y::r)
theorem pf:∀{ns} {n},n∈ns->n<=iN ns
 | [],n,h=>by cases h
 | [x],n,h=>by simp at h;subst h;exact Fg _
 | x::y::r,n,h=>by
  rw[iN];rcases oZ.1 h with rfl | h
  .omega
  .have:=pf h;lia
theorem kE:∀{ns},ns≠[]->iN ns∈ns
 | [],h=>absurd rfl h
 | [x],_=>by simp[iN]
 | x::y::r,_=>by
  have:=kE (ns:=y::r) (by simp);rw[iN];rcases Int.le_total x (iN (y::r)) with z | z
  .rw[Int.max_eq_right z];exact kN _ this
  .rw[Int.max_eq_left z];exact ll

def intsV:List My->Option (List Int)
 | []=>some []
 | .int x _::r=>(intsV r).map (x :: ·)
 | _=>none
theorem kD:∀{us} {ss},intsV us=some ss->k8 (ss.map V.int) us/\∀H,b9 K H (ss.map .int) (ss.map V.int)
 | [],ss,h=>by cases h;exact#v[.nil,λH=>b9.nil]
 | u::r,ss,h=>by
  cases u with
  | int x t =>let(a,d,rfl):=sA.1 (h);let(c,b):=kD d;exact#v[.cons #v[t,rfl] c,λH=>#v[_,_,rfl,c6.int,b H]]
  | _=>cases h
def gd_mkI (X:K.In h)(G:h.Ns Rf mg)(hn:PySem.W.nsIn K Rf x=some (some<|.ref t))(hl:K.lookup t=some #v[.type "tuple",none,.seq its n,sl])(hs:intsV its.toList=some ss)(hz:ss.length<=1000):GD K mg x (.tuple<|ss.map .int):=by
 let(a,b):=kD hs;refine#v[t,Oo X G hn,λH=>#v[t,ss.map V.int,rfl,.inr #v[_,its,n,hl,rfl,rfl,rfl,?_,a],b H]];have:=a.length;rw[jI]at this;have e:its.size=ss.length:=by rw[this];simp
 rw[e];exact uj hz (by rw[xD];decide)
end
section
variable {K:Qf}
def DF (i:Nat)(m:DE->M Out):DE->M Out:=λE F=>(Y1 E i).bind λa=>m (E.set i<|some<|.dat<|.list a) F
def JZ (i){st}(h:Ss K X st ts m):Ss K X st ts (DF i m):=#v[h.ps,(λG B0 H0 E F σ H D r F' S e q=>by
 let(L,e4,e):=bS9 e;let(B,s,sn,I):=S.ex;have N:=aI e4;let(w,R,a,xs,rfl,hB,hf,Z,V):=I.loc i _ N;have ha:=S.own i L a N R;have u:∀b∈B.filter (λb=>decide (b≠a)),b∈B:=λb f=>(xM.1 f).1
 have t:∀b∈B,b≠a->b∈B.filter (λb=>decide (b≠a)):=λb f T=>xM.2 #v[f,xq T]
 have y:i5 (hid H B) (hid H<|B.filter<|λb=>decide (b≠a)):=C7 u;have get:∀j,j≠i->(E.set i<|some<|.dat<|.list L)[j]? = E[j]?:=λj o=>by rw[sv<|DO o]
 have l:(E.set i<|some<|.dat<|.list L)[i]? = some (some<|.dat<|.list L):=by rw[sP ((pG.1 N).1) ]
 refine h.ok G B0 H0 (E.set i<|some<|.dat<|.list L) F σ H D r F' #v[#v[_,λb f=>t b (s b f) λz=>ha.2<|z▸f,λb f=>sn b<|u b f,#v[I.fd,λb f=>t b (I.fB b f) λz=>hf<|z▸f,λb f=>I.bk b<|u b f,by rw[As];exact I.ln,λj x g=>?_]],S.fB,S.kp,λj es b g=>?_,λj k es fs b g O=>?_,S.dic.set1 nofun] e q
 .by_cases o:j=i
  .subst o;rw[l]at g;cases g;refine#v[_,R,c6.lst (by rwa[j5 (λf=>absurd rfl (xO (xM.1 f).2)) ])<|V.same y]
  .rw[get j o]at g;let(v,Y,n):=I.loc j x g;refine#v[v,Y,?_];cases x with
   | dat d=>exact c6.same n y
   | feed=>exact n
   | fn _=>exact n
   | adr _=>exact n
   | fv _ _=>exact#v[n.1,n.2.1,n.2.1 _ _ y n.2.2]
   | rdic _ _ =>let(a9,P,q1,q2,q4):=n;exact#v[a9,P,q1,y _ _ q2,q4.same y]
   | own es =>let(b,Q,W,J,C,p,A):=n;subst W;exact#v[b,Q,rfl,t b J λz=>o<|S.inj j i es L a g N (z▸Y) R,C,p,A.same y]
   | dic w c ps =>let(b,Q,W,J,C,p,T,A):=n;subst W;exact#v[b,Q,rfl,t b J λz=>(by rw[z,Z]at p;cases p),C,p,T,A.same y]
 .by_cases o:j=i
  .subst o;rw[l]at g;cases g
  .rw[get j o]at g;exact S.own j es b g
 .by_cases o:j=i
  .subst o;rw[l]at g;cases g
  .by_cases hk:k=i
   .subst hk;rw[l]at O;cases O
   .rw[get j o]at g;rw[get k hk]at O;exact S.inj j k es fs b g O)]
end
end
section
section
variable {K:Qf}
def HD :DE->M Out:=λ_ _=>none
def EB {st}:Ss K X st (λ_ _ _=>False) HD:=#v[λ_ _ _ _ _ _ h=>h.elim,λ_ _ _ _ _ _ _ _ _ _ _ e=>by cases e]
end
end
section
section
variable {K:Qf}
def mDo (m:DE->M CD):DE->M Out:=λE F=>(m E F).bind λp=>some (.nx E,p.2)
def KU (h:Ev K X e te m)(hs:‹Rg e none pos.line X.env=pure false›):Ss K X (.Expr e pos) (mM te) (mDo m):=#v[oO h.pe hs,(λG o l E F a H D r n S e q=>by obtain⟨⟨d,i⟩,f,e⟩:=bS9 e;cases e;let(B,s,j,I):=S.ex;exact h.ok G B E F a H _ d i I f λv g b c k=>q a g<|S.step b c)]
end
end
section
def xc {us:List My}(h:us.length=1):∃a,us=[a]:=List.length_eq_one_iff.1 h
def CL {us:List My}(h:us.length=n+1):∃a r,us=a::r/\r.length=n:=by
 cases us with
 | nil=>cases h
 | cons a r=>exact#v[a,r,rfl,Nat.succ.inj h]
def wU {us:List My}(h:us.length=2):∃a b,us=[a,b]:=by let(a,r,rfl,c):=CL h;let(b,rfl):=xc c;exact#v[a,b,rfl]
def wd {us:List My}(h:us.length=3):∃a b c,us=[a,b,c]:=by let(a,r,rfl,d):=CL h;let(b,c,rfl):=wU d;exact#v[a,b,c,rfl]
def zr {us:List My}(h:us.length=4):∃a b c d,us=[a,b,c,d]:=by let(a,r,rfl,e):=CL h;let(b,c,d,rfl):=wd e;exact#v[a,b,c,d,rfl]
def wo (B A:List QN):List QN:=B.filter λb=>decide (b ∉ A)
def Z3 :b∈wo B A↔b∈B/\b ∉ A:=by unfold wo;rw[xM];simp
section
variable {K:Qf}
theorem U3.less (less:∀b∈B',b∈B):∀{zs} {us},U3 K G B H zs us->U3 K G B' H zs us
 | [],us,h=>h
 | z::zs,us,#v[v,r,e,n1,n2,n3]=>#v[v,r,e,n1,by
   cases z with
   | dat d=>exact c6.same n2 (C7 less)
   | feed=>exact n2
   | fn _=>exact n2
   | adr _=>exact n2
   | fv _ _=>exact#v[n2.1,n2.2.1,n2.2.1 _ _ (C7 less) n2.2.2]
   | rdic _ _ =>let(i,a,g,f,c):=n2;exact#v[i,a,g,(C7 less) _ _ f,c.same<|C7 less]
   | own j=>exact(nomatch n1)
   | dic _ _ _=>exact(nomatch n1),U3.less less n3]
end
end
section
def iM?:CD->Option Int
 | .int i=>some i
 | _=>none
def CD?:CD->Option Int
 | .bool b=>some (if b then 1 else 0)
 | _=>none
def ik (ks:List CD):Option (List Int):=match ks.mapM iM? with
 | some r=>some r
 | none=>ks.mapM CD?
def vOf:CD->V
 | .int i=>.int i
 | .bool b=>.bl b
 | _=>.non
theorem qp:∀{ks} {ns:List Int},ks.mapM iM? = some ns->ks=ns.map .int
 | [],ns,h=>by simp at h;subst h;rfl
 | k::ks,ns,h=>by rw[Ka]at h;let(a,c,h):=bS9 h;let(r,b,h):=bS9 h;cases h;rw[qp b];cases k <;> cases c;rfl
theorem mD:∀{ks} {ns},ks.mapM CD? = some ns->∃bs:List Bool,ks=bs.map .bool/\ns=bs.map λb=>if b then 1 else 0
 | [],ns,h=>by simp at h;subst h;exact#v[[],rfl,rfl]
 | k::ks,ns,h=>by
  rw[Ka]at h;let(a,c,h):=bS9 h;let(r,d,h):=bS9 h;cases h;let(bs,rfl,rfl):=mD d;cases k with
  | bool b=>cases c;exact#v[b::bs,rfl,rfl]
  | _=>cases c
def Af (h:ik ks=some ns):iw (ks.map vOf)/\(ks.map vOf).map iH=ns/\∀k∈ks,∀K H v,c6 K H k v->v=vOf k:=by
 unfold ik at h;split at h
 .rename_i r e;cases h;rw[qp e];refine#v[.inl λk a=>?_,?_,λk a K H v b=>?_]
  .simp only[sJ,ue]at a;let(n,_,rfl):=a;exact#v[n,rfl]
  .rw[sJ,sJ];exact(Br λn _=>rfl).trans<|List.map_id _
  .let(n,_,rfl):=ue.1 a;simp only[c6]at b;exact b
 .let(bs,rfl,rfl):=mD h;refine#v[.inr λk a=>?_,?_,λk a K H v b=>?_]
  .simp only[sJ,ue]at a;let(n,_,rfl):=a;exact#v[n,rfl]
  .rw[sJ,sJ];exact Br λn _=>rfl
  .let(n,_,rfl):=ue.1 a;simp only[c6]at b;exact b
inductive Al (K:Qf) (H:Hp):List (Int×CD)->List (Int×V)->Prop
 | nil:Al K H [] []
 | cons {k:Int} {d:CD} {v:V} {l m}:c6 K H d v->Al K H l m->Al K H ((k,d)::l) ((k,v)::m)
theorem Al.ins {K}(h:c6 K H d v):∀{l m},Al K H l m->Al K H (Q7 (k,d) l) (Q7 (k,v) m)
 | _,_,.nil=>.cons h .nil
 | _,_,.cons h' r=>by
  simp only[Q7];split
  .exact .cons h<|.cons h' r
  .exact .cons h'<|Al.ins h r
theorem Al.sort {K}:∀{l m},Al K H l m->Al K H (v6 l) (v6 m)
 | _,_,.nil=>.nil
 | _,_,.cons h r=>Al.ins h r.sort
theorem Al.dats {K}:∀{l m},Al K H l m->b9 K H (l.map Prod.snd) (m.map Prod.snd)
 | _,_,.nil=>b9.nil
 | _,_,.cons h r=>b9.cons h r.dats
theorem jR {K}:∀{ns:List Int} {ds} {xs},b9 K H ds xs->Al K H (ns.zip ds) (ns.zip xs)
 | [],_,_,_=>.nil
 | n::ns,[],xs,h=>by
  have e:=Kf.1 (by rw[h.length];rfl);subst e;exact .nil
 | n::ns,d::ds,xs,h=>by
  cases xs with
  | nil=>have:=h.length;simp at this
  | cons x xs =>simp only[b9]at h;let(y,c,e,b,a):=h;cases e;exact .cons b<|jR a
section
variable {K:Qf}
structure LamB K mg base x (fd:QT) c P:Prop where
 mem:(x,c,P)∈tabsK Feeds.lam K
 code:fd.code = .ref c
 hd:PySem.W.CodeHd base c P
 bm:BMd base mg
 nd:(tabP K).Nodup
noncomputable def dq (me:DE->M CD)(E0:DE):List CD->M (List CD)
 | []=>λF=>some ([],F)
 | d::r=>λF=>(me (some (.dat d)::E0) F).bind λp=>(dq me E0 r p.2).bind λq=>some (p.1::q.1,q.2)
def qf:List CD->Option (List CD)
 | [.list ds]=>some ds
 | [.tuple ds]=>some ds
 | _=>none
def sSK (ma:DE->M (List CD))(cap:List Nat)(me:DE->M CD):DE->M CD:=λE F=>(ma E F).bind λp=>(qf p.1).bind λa=>if a.length<64 then(dq me (cap.map λj=>(E[j]?).join) a p.2).bind λq=>(ik q.1).bind λb=>some (.list<|(v6<|b.zip a).map Prod.snd,q.2) else none
def ki (h:SqE K H l xs)(s:i5 H H'):SqE K H' l xs:=h.imp (λh=>s.seq h) λh=>h.same s
theorem gv {E0}:∀{ds} {F} {ks} {F'},dq me E0 ds F=some (ks,F')->ks.length=ds.length
 | [],F,ks,F',h=>by cases h;rfl
 | d::r,F,ks,F',h=>by let(p,_,h):=bS9 h;let(q,e,h):=bS9 h;cases h;simp[gv e]
theorem cY {α β:Type}{f:α->β}:∀{l:List α},(l.map f).Nodup->∀{a b},a∈l->b∈l->f a=f b->a=b
 | [],_,_,_,h,_,_=>by simp at h
 | x::l,h,a,b,ha,hb,e=>by
  rw[kX,FY]at h;rcases oZ.1 ha with i | d
  .rcases oZ.1 hb with g | c
   .rw[i,g]
   .exact absurd (by rw[<-i,e];exact HM c) h.1
  .rcases oZ.1 hb with g | c
   .exact absurd (by rw[<-g,<-e];exact HM d) h.1
   .exact cY h.2 d c e
def vS (hm:(x,c,P)∈tabsK Feeds.lam K)(nd:(tabP K).Nodup)(f:FAt K G H F)(g:CU P (J8 x) H H2)(hT:eQ H2 P (J8 x)):Kp (j6 K G) H H2/\FAt K G H2 F:=by
 rcases g with rfl | ⟨A,more,v,u,j,B,rfl⟩
 .exact#v[Kp.refl,f]
 .have stay:∀b o,H b=some o->b≠P->upd (upd H P<|.tbl<|A++more) v (cdO v<|J8 x) b=some o:=λb o e k=>by rwa[h7<|k9 e j,h7 k]
  have r:∀{b o},H b=some o->NoT o->b≠P:=λ{b o} e h z=>by rw[z,u]at e;exact h.1 _ (rn e).symm
  refine#v[λb o e k=>stay b o e λz=>k<|z▸uX (HM hm),?_,λt s=>?_]
  .cases G with
   | none=>trivial
   | some p =>
    let(d,O):=p
    let(N,n,L):=Feeds.some1 f.1
    let(M,m,b2):=Feeds.some2 f.1
    exact Feeds.congr f.1 (by rw[n];exact stay _ _ n<|r n L) (by rw[m];exact stay _ _ m<|r m b2)
  .by_cases a:t.2.2=P
   . rwa[cY nd s hm a ]
   .let(y,E,D,C):=f.2 t s;refine#v[y,stay _ _ E a,D,λpos I q=>?_];let(J,w,i):=C pos I q;exact#v[J,w,stay _ _ i λz=>by rw[z,u]at i;cases i]
def rD (f:FAt K G H F)(h:H c=some (cdO c q)):c ∉ j6 K G:=λz=>by
 have b:c∈tabP K->False:=λz=>by let(t,i,e):=ue.1 z;let(j,g,_):=f.2 t i;rw[e,h]at g;cases g
 cases G with
 | none=>exact b z
 | some p =>
  let(d,k):=p;simp only[j6,oZ]at z;rcases z with rfl | rfl | z
  .let(o,e,a):=Feeds.some1 f.1;rw[h]at e;exact a.2 _ (rn e).symm
  .let(o,e,a):=Feeds.some2 f.1;rw[h]at e;exact a.2 _ (rn e).symm
  .exact b z
def SitE.lamS (I:SitE K G B E F σ H)(k:Kp (j6 K G) H H')(f:FAt K G H' F')(h:c6 K (hid H' B) d v)(cap) :
  SitE K G B (some (.dat d)::cap.map λj=>(E[j]?).join) F' (dM v cap σ) H':=by
 have J:=(I.step k f).cap 0 cap;refine#v[f,I.fB,J.bk,by simp[dM],λi x e=>?_];cases i with
 | zero =>cases e;exact#v[v,rfl,h]
 | succ i=>exact J.loc i x e
def vM {ta}
  (LB:LamB K X.mg X.base x fd c P) (hK:X.K=K) (hm:X.mg "sorted" = none) (hr:Room k X.A) (hc:X.calm=true) (ha:Ea K X [e] ta ma) (hosc:X.env.scope=osc) (L:LamOk X.N osc y N cap scope)
  (hcode:X.env.code = .ref c) (hq:X.env.qual ++ "<lambda>" = J8 x)
  (hE:∀cl f c' Y s H,Ev K (cxL X N (J8 x) scope cl f c' Y s H) body te me)
  (hdef:‹defaultsOf params X.env=([],[])›)
  (hbind:∀cl pm c' ctv u,bindArgs (PySem.W.kla_fn "<lambda>" (J8 x) params body scope cl pm (.ref c') ctv) #v[[u],[]]=pure [(y,u)]:=by intros;rfl)
  (hg:‹Gl X "sorted"›) (hs:‹QY [e] X.env=[(false,eval e X.env)]›) :
  Ev K X (.Call (.Name "sorted" p) [e] [#v[some "key",.Lambda params body scope lpos,kp]] pos) (tSK K P (J8 x) cap ta te) (sSK ma cap me):=by
 subst hK;refine#v[(by
  intro π s σ H Q I h;have S:∀y∈scope.names,y.2 = .free->∃c,X.env.cells.lookup y.1=some c:=λy hy hk=>I.ok.has y.1 (by show X.env.scope.names.lookup y.1=_\/X.env.scope.names.lookup y.1=_;rw[hosc];exact L.free y hy hk)
  let f:=λy=>(X.env.cells.lookup y).getD 0
  have hf:∀y∈scope.names,y.2 = .free->X.env.cells.lookup y.1=some (f y.1):=λy hy hk=>by let(c,e):=S y hy hk;show _=some ((X.env.cells.lookup y.1).getD 0);rw[e];rfl
  have t:=J9 λy hy hk=>by unfold cellOf;rw[hf y hy hk]
  have al:∀{y} {c},(G0 f scope.names []).lookup y=some c->X.env.cells.lookup y=some c:=λ{y c} e=>by
   rcases N6 _ _ e with ⟨D,U⟩ | D
   .rw[U];exact hf (y,.free) D rfl
   .simp at D
  have C:∀y,(y,Ro.free)∈scope.names->∃c,(G0 f scope.names []).lookup y=some c:=λy hx=>#v[_,aq _ _<|.inl hx]
  generalize G0 f scope.names []=cl at t al C;rw[show eval (.Call (.Name (Str.ofString "sorted") p) ([e]) ([{ arg := some<|Str.ofString "key", value := QV.Lambda params body scope lpos, pos := kp }]) pos) (Cx.env X)=(do callWith pos (<-eval (.Name (Str.ofString "sorted") p) (Cx.env X)) [] (Rb pos<|QY ([e])<|Cx.env X) (Rp pos<|Rq ([{ arg := some<|Str.ofString "key", value := QV.Lambda params body scope lpos, pos := kp }])<|Cx.env X)) from rfl];refine iD (Z2 I hg hm (by decide +kernel:Ri "sorted" = some (.builtin "sorted"))<|callWith_kw (thn (ha.pa pos π s σ H _ I h) ?_ ) (by rw[hs];rfl) (by rw[hs];rfl));rintro us s1 ⟨vs,H1,I1,r1,q1⟩;let(l,n,V,bg,ba,hT,q2):=q1;subst V;let(u,rfl,ru):=C5 r1;cases ru;refine kws_cons (qU I1 hdef t hcode LB.hd LB.bm hT hq λf c' ctv H2 s2 _ gr T a9 I2=>kws_nil ?_);let(J,ks,a0,R,ap,j0,jc,Z,fin):=q2 H2 gr T c' a9;let(an,rv,pl,hz):=I2.seqE ap;have xl:=rv.length;refine xF I2 pl rv a0 R (by lia) j0 (λi v u pn m s' hx r hJ I'=>?_) λa s' m ys hJ Ha o I'=>?_
  .exact Ck I' I.ok.frames (I.ok.hd hc) (by have:=hr.dp;lia) (uO _<|uO _<|.head _) (jc i m hJ) hosc L al C (hbind _ _ _ _ _) (λs H=>(λcl f c' Y s H=>(hE cl f c' Y s H).pe) _ _ _ _ s H) r (Z i v m hx hJ)
  .exact#v[.ref a,_,I'.pins_of<|λp hp=>I'.pin p<|uO _<|.tail _ hp,rfl,fin a m ys hJ Ha o]),λG B E F σ H Q d F' I e q=>?_]
 obtain⟨⟨as,F1⟩,e1,e⟩:=bS9 e;refine ha.ok G B E F σ H _ as F1 I e1 λvs H1 k1 f1 D=>?_
 dsimp only at e;let(ds,V,e):=bS9 e;walk_at "kb"
 rename_i ba;obtain⟨⟨z,F2⟩,e2,e⟩:=bS9 e;let(ns,e3,e):=bS9 e;cases e;let(R,ab,hv):=Af e3;let(l,n,rfl,hl,hd):=(show ∃l n,vs=[.ref l]/\SqE (Cx.K X) (hid H1 B) l n/\b9 (Cx.K X) (hid H1 B) ds n by
  unfold qf at V;split at V
  .cases V;simp only[b9]at D;let(v,r,rfl,U,rfl):=D;simp only[c6]at U;let(l,n,rfl,h3,h4):=U;exact#v[l,n,rfl,.inl<|SqL.of h3,h4]
  .cases V;simp only[b9]at D;let(v,r,rfl,U,rfl):=D;simp only[c6]at U;let(l,n,rfl,h3,h4):=U;exact#v[l,n,rfl,.inr h3,h4]
  .cases V)
 have xl:=hd.length;refine#v[l,n,rfl,ki hl d9,by lia,f1.2 _ LB.mem,λH2 gr T c' am=>?_];let(W,f2):=vS LB.mem LB.nd f1 gr T;refine#v[λi m=>∃O b,Kp (j6 X.K G) H2 m/\FAt X.K G m O/\dq me (cap.map λj=>(E[j]?).join) (ds.drop i) O=some (b,F2)/\z.drop i=b,z.map vOf,by rw[jI,gv e2,xl],R,
  ki (ki hl<|W.hid I.fB) d9,#v[F1,z,Kp.refl,f2,e2,rfl],λi m #v[O,b,A,a2,_]=>A _ _ am<|rD f2 am,λi v m hx #v[O,b,A,a2,a3,a4]=>?_,λa m ys #v[O,b,A,a2,a3,a4] Ha o=>?_]
 .have a8:=hd.same<|(W.trans A).hid I.fB;let(dd,a7,a6):=a8.get hx;have bd:ds.drop i=dd::ds.drop (i+1):=by have hi:=(pG.1 a7);let(hi,e):=hi;rw[Bi hi,e]
  rw[bd]at a3;obtain⟨⟨kk,Fk⟩,g1,g⟩:=bS9 a3;obtain⟨⟨kr,bi⟩,g2,g⟩:=bS9 g;cases g;have ac:z[i]? = some kk:=by have:=AZ (λl=>l[0]?) a4;simpa using this
  refine(hE [] 0 0 X.A X.s₀ m).ok G B _ O _ m _ kk Fk (I.lamS ((k1.trans W).trans A) a2 a6 cap) g1 λw H3 k3 f3 h3=>#v[?_,Fk,kr,A.trans k3,f3,g2,?_]
  .rw[sq,ac,hv kk (uP ac) _ _ _ h3];rfl
  .have:=AZ List.tail a4;simpa using this
 .have ad:dq me (cap.map λj=>(E[j]?).join) (ds.drop n.length) O=some ([],O):=by rw[xl,QA];rfl
  rw[ad]at a3;cases a3;have ey:=ff o (by rw[jI,gv e2,xl]);rw[ab]at ey;subst ey;exact q _ _ (((k1.trans W).trans A).trans<|Kp.upd Ha) (a2.same<|i5.upd Ha)<|G3 (m9 I.bk ((k1.trans W).trans A) a2) Ha ((jR (ns:=ns)<|hd.same<|(W.trans A).hid I.fB).sort.dats)
end
end
section
def ui (p:Int):List Int->List Int
 | []=>[p]
 | q::r=>if p<=q then p::q::r else q::ui p r
def jy:List Int->List Int
 | []=>[]
 | p::r=>ui p<|jy r
theorem gM (p):∀l,(ui p l).Perm (p::l)
 | []=>.refl _
 | q::r=>by
  rw[ui];split
  .exact .refl _
  .exact((gM p r).cons q).trans<|.swap p q r
theorem L9:∀l,(jy l).Perm l
 | []=>.refl _
 | p::r=>(gM p _).trans<|(L9 r).cons p
theorem wm :∀{l},l.Pairwise (· <= ·)->(ui p l).Pairwise (· <= ·)
 | [],_=>by simp[ui]
 | q::r,h=>by
  rw[xN]at h;rw[ui];split
  .rename_i b;refine xN.2 #v[λz a=>?_,xN.2 h];rcases oZ.1 a with rfl | a
   .exact b
   .have:=h.1 z a;lia
  .rename_i c;refine xN.2 #v[λz a=>?_,wm h.2];rcases oZ.1 ((gM p r).mem_iff.mp a) with rfl | a
   .omega
   .exact h.1 z a
theorem bT:∀l,(jy l).Pairwise (· <= ·)
 | []=>.nil
 | p::r=>wm<|bT r
theorem gP:∀{l₁ l₂:List Int},l₁.Perm l₂->l₁.Pairwise (· <= ·)->l₂.Pairwise (· <= ·)->l₁=l₂
 | [],l₂,p,_,_=>p.nil_eq
 | a::r,[],p,_,_=>by have:=p.length_eq;simp at this
 | a::r,b::t,p,h1,h2=>by
  rw[xN]at h1 h2;have d:a=b:=by
   rcases oZ.1 (p.mem_iff.1<|ll (l:=r)) with e | e
   .exact e
   .rcases oZ.1 (p.mem_iff.2<|ll (l:=t)) with c | c
    .exact c.symm
    .have g:=h2.1 a e;have f:=h1.1 b c;lia
  subst d;rw[gP (p.cons_inv) h1.2 h2.2]
def ny:CD->Option Int
 | .tuple (.int n::_)=>some n
 | _=>none
def bc:List CD->Option CD
 | [.list ds]=>match G7 ds with
  | some a=>if a.length<64 then some (.list<|(jy a).map .int) else none
  | none=>(ds.mapM ny).bind λa=>if a.Nodup/\a.length<64 then some (.list<|(v6<|a.zip ds).map Prod.snd) else none
 | _=>none
theorem wX {K}(s:i5 H H'):∀{ds} {ns} {zs},ds.mapM ny=some ns->b9 K H ds zs->rj K H' ns zs
 | [],ns,zs,e,h=>by
  simp at e;subst e;exact Kf.1 (by rw[h.length];rfl)
 | d::ds,ns,zs,e,h=>by
  rw[Ka]at e;let(n,a,e):=bS9 e;let(g,l,e):=bS9 e;cases e;simp only[b9]at h;let(z,b,rfl,k,j):=h;unfold ny at a;split at a
  .cases a;let(t,m,rfl,i,f):=k.ofTup;simp only[b9]at f;let(v,r,rfl,c,_):=f;simp only[c6]at c;subst c;exact#v[t,r,b,rfl,i.same s,wX s l j]
  .cases a
theorem rJ {α β:Type}{f}:∀{l:List α} {m:List β},l.mapM f=some m->m.length=l.length
 | [],m,e=>by simp at e;subst e;rfl
 | a::l,m,e=>by rw[Ka]at e;let(b,_,e):=bS9 e;let(d,c,e):=bS9 e;cases e;simp[rJ c]
theorem mx {K}:∀ns:List Int,b9 K H (ns.map .int) (ns.map V.int)
 | []=>b9.nil
 | n::ns=>b9.cons c6.int<|mx ns
section
variable {K:Qf}
def hU (hK:X.K=K):w8 X (.builtin "sorted") (rDN K bc):=by
 rintro π s j H f us Q I r ⟨x,B,y,z,bk,l,b,q⟩;unfold bc at b;split at b <;> try cases b
 split at b
 .rename_i ns e;split at b;case isFalse=>cases b
  rename_i i;cases b;cases B4 e;let(v,rfl,a,f,rfl,g,d):=cM l rfl;cases bY d;refine qP hK π s j H _ us Q I r #v[a,ns,rfl,SqL.of<|d9 _ _ g,i,λp u c t n=>?_];cases gP (t.trans (L9 ns).symm) n (bT ns);exact q _ _ (i5.upd c)<|G3 bk c<|mx _
 .let(ns,e,b):=bS9 b;split at b;case isFalse=>cases b
  rename_i k;cases b;let(v,rfl,a,f,rfl,g,d):=cM l rfl;refine sE hK π s j H _ us Q I r #v[a,f,ns,rfl,SqL.of<|d9 _ _ g,wX d9 e d,k.1,k.2,λp w c o=>?_];have m:=ff o (by rw[jI,rJ e,d.length]);rw[sJ,show(iH ∘ V.int)=id from rfl,List.map_id]at m;subst m;exact q _ _ (i5.upd c)<|G3 bk c (jR d).sort.dats
end
end
end L3
namespace L2
open PySem PySem.Spec PyProof.Rows
section
variable {K:Qf}
def Fun.okC {st}(F:Fun K x qual st f fd)(S:FnScope N ps (c7 st))(len:∀vs H Q E,sp vs H Q E->vs.length=ps.length)
  (hbody:∀dr A outer s H vs Q E,fd.code=dr->Room k (A.deeper<|envOfC qual (c7 st) (~~~s) f dr)->sp vs H Q E ->
   ∃t,PSs (gB CX0 P w K mg base N qual (c7 st) f dr A outer s H E).nox (m4 st) t/\t { nx:=λ_ H'=>Q .non H',rt:=Q } (P2 N vs) H):FnOk P w K mg base CX0 (k+1) f fd ps sp:=by
 let(j,i,kV,e,g,l,dr,ct,c,rfl,lk,b):=F.ex;refine Hd lk b S len λA outer s H vs Q E d a=>?_
 let(t,h,q):=hbody dr A outer s H vs Q E rfl d a;exact#v[t,h.nox,q]
end
end L2
namespace L3
open PySem PySem.Spec PyProof.Rows L2
section
section
variable {K:Qf}
def iY {st}(Fn:Fun K x qual st f fd)(S:FnScope N ps (c7 st))
  (hbody:∀dr A outer s H E,fd.code=dr->Room k (A.deeper<|envOfC qual (c7 st) (~~~s) f dr) ->
   ∃ts,Sss K (gB CX0 P w K mg base N qual (c7 st) f dr A outer s H E).nox (m4 st) ts m):FnOk P w K mg base CX0 (k+1) f fd ps (spD K ps.length<|R6 N m):=by
 refine Fn.okC S (λi H Q E h=>?_) (λdr A outer s H i Q E c r h=>?_)
 .let(G,B,F,a,d,O,hl,_):=h;exact hl
 .let(G,B,F,a,d,O,hl,C,bk,z,u,t,q):=h;let(ts,b):=hbody dr A outer s H E c r;refine#v[ts,b.ps,?_];obtain⟨⟨o,L⟩,J,e⟩:=bS9 t;refine b.ok G B H (t9 N a) F (L2.P2 N i) H _ o L (Z8 C bk z u) J ?_;cases o with
  | rt R=>cases e;exact λv g p D y=>q v g p D y
  | nx l=>cases e;exact λn g j=>q _ g j.kp (by let(B,_,_,I):=j.ex;exact I.fd) c6.non
  | bk l=>cases e
  | ct l=>cases e
end
end
section
abbrev Lk :=List<|Str×QN×QN
def Kc (ts:Lk)(h:QW):Prop:=∀t∈ts,PySem.W.CodeHd h t.2.1 t.2.2/\h.get? t.2.2=some (PySem.W.tabObj #[])
def yD {K:Qf}
  (KX:K.In s₁.heap) (hns:s₁.heap.Ns Rf mg) (hb:s₁.heap.Ns builtinsNs mb) (hbb:∀x:Str,x ≠ "__name__"->mb x=Ri x) (hlim:s₁.heap.NoLimit) (hg:s₁.gens = #[])
  (ha:s₁.heap.get? a=some { cls:=.type "list",data:=.seq vs.toArray }) (hi:IntsAre vs ns) (hl:ns.length<=QX) (hr:Room k callerA)
  (hT:Kc ts s₁.heap) (hnt:PySem.W.noTabs K=true) (BM:BMd s₁.heap mg)
  (F:∀base,K.In base->base.Ns Rf mg->BMd base mg->(∀t∈ts,PySem.W.CodeHd base t.2.1 t.2.2)->FnOk P w K mg base CX k fa fd [x] sp) (hbind:∀s u,BindsTo s fd #v[[u],[]] [(x,u)])
  (hsp:∀H,SqL K H a (ns.map V.int)->V7 ts H->sp [.ref a] H (λv _=>v = .bl true) λ_ _ _=>False)
  (hCX:∀H e s',CX [] H s₁ (λ_ _ _=>False) e s'->False) :
  codeAny (model P w) callerA (.call (.ref fa) #v[[.ref a],[]]) (λr s'=>r = .ok (.ret<|.bool true)/\OldK s₁.heap s'.heap/\s'.os=s₁.os/\AllBare s'.gens) s₁:=by
 have rv:=gY hi;have aP:∀t∈ts,t.2.2≠a:=λt g e=>by have:=(hT t g).2;rw[e,ha]at this;cases this
 have C:∀H:Hp,(∀b,H b=none\/(b=a/\H b=some (.frz { cls:=.type "list",data:=.seq vs.toArray }<|.lst<|ns.map V.int))\/(b∈ts.map (·.2.2)/\H b=some (.tbl #[])))->(∀t∈ts,H t.2.2=some (.tbl #[]))->SqL K H a (ns.map V.int)->(H a≠none->K.lookup a=none) ->
   codeAny (model P w) callerA (.call (.ref fa) #v[[.ref a],[]]) (λr s'=>r = .ok (.ret<|.bool true)/\OldK s₁.heap s'.heap/\s'.os=s₁.os/\AllBare s'.gens) s₁:=by
  intro H N Z hS hK;have j:∀{b:QN},b∈ts.map (·.2.2)->s₁.heap.get? b=some (PySem.W.tabObj #[]):=λ{b} hb=>by let(t,g,rfl):=ue.1 hb;exact(hT t g).2
  have M:HOk P w H s₁.heap:=λb u e=>by
   rcases N b with z | ⟨rfl,z⟩ | ⟨hb,z⟩
   .rw[z]at e;cases e
   .rw[z]at e;cases e;exact#v[ha,by rwa[jI],vs,_,rv,ha]
   .rw[z]at e;cases e;exact j hb
  have c:∀{b:QN} {o:QZ},s₁.heap.get? b=some o->H b=none->(jk s₁.heap H).get? b=some o:=λe n=>zD e n
  have i:∀{b:QN} {o:QZ},s₁.heap.get? b=some o->o≠{ cls:=.type "list",data:=.seq vs.toArray }->o≠PySem.W.tabObj #[]->H b=none:=λ{b o} e h1 Q=>by
   rcases N b with z | ⟨rfl,z⟩ | ⟨hb,z⟩
   .exact z
   .rw[ha]at e;exact absurd (rn e).symm h1
   .rw[j hb]at e;exact absurd (rn e).symm Q
  have p:∀{b:QN} {m:Str->Option My},s₁.heap.Ns b m->(jk s₁.heap H).Ns b m:=λ{b m} #v[o,es,ep,e,d,r]=>#v[o,es,ep,c e (i e (λz=>by rw[z]at d;cases d) λz=>by rw[z]at d;cases d),d,r]
  have O:K.In (jk s₁.heap H):=λb o e=>c (KX b o e) (by
   rcases N b with z | ⟨rfl,z⟩ | ⟨hb,z⟩
   .exact z
   .rw[hK (by rw[z];simp)]at e;cases e
   .have B:=KX b o e;rw[j hb]at B;cases B;exact absurd (show false=true from (JG.1 hnt _<|PySem.W.mem_of_lookupK e) ) tN)
  have e0:Env0 P w K mg (jk s₁.heap H) callerA [] s₁ H:=#v[rfl,#v[O,p hns,#v[mb,p hb,hbb],let #v[mc,h1,Q]:=hlim;#v[mc,p h1,Q]],λb o e=>Ga e,Nat.le_of_eq<|(PySem.W.hideAll_size _ _),trivial,λb hb=>absurd (show b∈([]:List QN) from hb) (by simp),M,.of_eq hg];refine OD ((F _ O (p hns) (by let(bm,ob,b1,b2,b3,y,b5,b6):=BM;exact#v[bm,ob,b1,b2,c b3 (i b3 (λz=>by rw[z]at y;have y:My.type "list" = My.type "module":=y;exact absurd y<|by decide) λz=>by rw[z]at y;have y:My.none=My.type "module":=y;exact absurd y<|by decide),y,b5,b6]) (λt g=>by let(o,U,R,tf,E,tg,W,G,tt,S,l,r2):=(hT t g).1;exact#v[o,U,R,tf,E,tg,W,G,tt,c S (i S (λz=>by rw[z]at l;have l:My.type "list" = My.type "code":=l;exact absurd l<|by decide) λz=>by rw[z]at l;have l:=l;exact absurd l<|by decide),l,r2]) ).run callerA [] s₁ H #v[[.ref a],[]] [.ref a] [.ref a] _ _ hr e0 (hbind s₁<|.ref a) (.cons rfl .nil)<|hsp H hS (λt g=>#v[#[],Z t g,trivial,λad cv e=>by cases e]) ) λr s' h=>?_
  cases r with
  | error e=>exact(hCX H e s' h).elim
  | ok fl =>
   cases fl with
   | next=>exact False.elim h
   | brk=>exact False.elim h
   | cont=>exact False.elim h
   | ret u =>
    let(v,H',os,bare,un,A,r',q):=h;subst q;obtain rfl:=r';have kept:=λb o e q=>un.keep b o e q (by intro z;exact absurd (show b∈([]:List QN) from z)<|by simp) (by simp)
    have J:∀b o,s₁.heap.get? b=some o->b=a->H b=some (.frz { cls:=.type "list",data:=.seq vs.toArray }<|.lst<|ns.map V.int)->s'.heap.get? b=some o:=λb o e hb z=>by let(S,_):=M b _ z;let(B,_):=A b _ (un.frzs b _ _ z);rw[e]at S;cases S;exact B
    have I:∀b,H b=some (.tbl #[])->∃more,s'.heap.get? b=some (PySem.W.tabObj more):=λb z=>by let(more,T):=un.tbls b _ z;exact#v[_,A b _ T]
    refine#v[rfl,#v[λb o e=>?_,λb o e=>?_],os,bare]
    .rcases N b with z | ⟨hb,z⟩ | ⟨hb,z⟩
     .exact .inl<|kept b o e z
     .exact .inl<|J b o e hb z
     .let(more,B):=I b z;have e3:=j hb;rw[e]at e3;cases e3;let(t,g,rfl):=ue.1 hb;refine .inr (.inl #v[((hT t g).1.tab (hT t g).2).isCodeTable,rfl,#[],more,rfl,by rwa[Array.empty_append]])
    .rcases N b with z | ⟨hb,z⟩ | ⟨hb,z⟩
     .exact#v[o,kept b o e z]
     .exact#v[o,J b o e hb z]
     .let(more,B):=I b z;exact#v[_,B]
 cases hk:K.lookup a with
 | some o =>
  have e:=KX a o hk;rw[ha]at e;cases e;refine C (λb=>if b∈ts.map (·.2.2) then some (.tbl #[]) else none) (λb=>?_) (λt g=>nY<|HM g) (.inr #v[_,vs.toArray,_,hk,rfl,rfl,rfl,by rwa[tG,hi.length ],by simpa using rv]) λz=>absurd (oj (λz=>by let(t,g,e):=ue.1 z;exact aP t g e) ) z
  by_cases hb:b∈ts.map (·.2.2)
  .exact .inr<|.inr #v[hb,nY hb]
  .exact .inl<|oj hb
 | none =>
  refine C (λb=>if b=a then some (.frz { cls:=.type "list",data:=.seq vs.toArray }<|.lst<|ns.map V.int) else if b∈ts.map (·.2.2) then some (.tbl #[]) else none) (λb=>?_) (λt g=>?_) (.inl<|.inr #v[{ cls:=.type "list",data:=.seq vs.toArray },nY rfl]) λ_=>hk
  .by_cases hb:b=a
   .exact .inr<|.inl #v[hb,nY hb]
   .by_cases D:b∈ts.map (·.2.2)
    .exact .inr (.inr #v[D,by rw[oj hb,nY D]])
    .exact .inl (by rw[oj hb,oj D])
  .rw[oj<|aP t g];exact nY (HM g)
def walk_ofT {l:PySem.W.OpenLaw}{K:Params->Qf}{CX:QQ->CXT}{sp:QQ->Sp}(lam)
  (hn:l.most=some n) (hn2:n<=QX) (hdf:d.params.defaults=[]) (hr:Room k callerA)
  (hrec:(lam.all λx=>((recsOf q).find? λe=>e.name == x).isSome)=true) (hnt:∀w:QQ,PySem.W.noTabs (K w.params)=true)
  (hY:∀w h,YP w h->(K w.params).In h)
  (F:∀w mg fa h,(K w.params).In h->h.Ns Rf mg->mg d.name=some (.ref fa) ->
   ∃fd,(∀s u,BindsTo s fd #v[[u],[]] [(x,u)]) /\
    ∀base,(K w.params).In base->base.Ns Rf mg->BMd base mg->(∀t∈tabsK lam (K w.params),PySem.W.CodeHd base t.2.1 t.2.2)->FnOk l.prog w (K w.params) mg base (CX w) k fa fd [x] (sp w))
  (hsp:∀w H a (ns:List Int),ns.length<=n->SqL (K w.params) H a (ns.map V.int)->V7 (tabsK lam<|K w.params) H->sp w [.ref a] H (λv _=>v = .bl true) λ_ _ _=>False)
  (hCX:∀w H s e s',CX w [] H s (λ_ _ _=>False) e s'->False) :
  PySem.W.WalkO q loose XP YP l.row.toRowW d [] (λf vs=>PySem.call f vs):=by
 refine Att.attach_call hn hdf λw y i mg Q fa o O U N a vs ns G Y R S C m j g b B=>?_
 have r:=hY w _ Y;let(fd,D,J):=F w mg fa _ r G.T.g m;refine yD r G.T.g G.T.b G.T.builtins G.T.nolimit B j g (uj b hn2) hr (λt A=>?_) (hnt w) G.T.bmain J D (λH I E=>hsp w H a ns b I E) λH e s'=>hCX w H i e s'
 let(x,z,e):=OA.1 A;obtain⟨⟨c,P⟩,M,L⟩:=sA.1 e;cases L;let(T,p):=Cc.1<|JG.1 hrec x z;exact PySem.W.tab_of G.T r p M
end

section
section
variable {K:Qf}
def iI (K:Qf)(B:List QN)(H H':Hp):DV->V->Prop
 | .dat d,v=>c6 K (hid H' B) d v
 | .own ds,v=>∃a e,v = .ref a/\H a=none/\H' a=some (.lst e)/\b9 K (hid H' (a::B)) ds e
 | .feed,_=>False
 | .fn _,_=>False
 | .adr _,_=>False
 | .fv _ _,_=>False
 | .rdic _ _,_=>False
 | .dic w c ps,v=>w=true/\∃a b,v = .ref a/\H a=none/\H' a=some (.ext b)/\gj a b/\eP K (hid H' (a::B)) c ps a b
def kU (B:List QN):DV->V->List QN
 | .own _,.ref a=>a::B
 | .dic _ _ _,.ref a=>a::B
 | _,_=>B
def TCd (K:Qf)(te:TE)(mc:DE->M DV):Prop:=∀G B E F b H Q c d,SitE K G B E F b H->mc E F=some (c,d) ->
 (∀v a,Kp (j6 K G) H a->FAt K G a d->iI K B H a c v->Q v a)->te b H Q
structure Ec K X e te m:Prop where
 pe:PE X e te
 ok:TCd K te m
def cD (m:DE->M CD):DE->M DV:=λE F=>(m E F).bind λp=>some (.dat p.1,p.2)
def cO (m:DE->M (List CD)):DE->M DV:=λE F=>(m E F).bind λp=>some (.own p.1,p.2)
def MP (h:Ev K X e te m):Ec K X e te (cD m):=#v[h.pe,λG B E F a H Q i j I e q=>by obtain⟨⟨d,g⟩,b,e⟩:=bS9 e;cases e;exact h.ok G B E F a H _ d g I b λv c k f r=>q v c k f r]
def Ki (h:Ef K X e te m):Ec K X e te (cO m):=#v[h.pe,λG B E F b H Q o p I e q=>by obtain⟨⟨d,n⟩,j,e⟩:=bS9 e;cases e;exact h.ok G B E F b H _ d n I j λa c l i g k f r=>q _ l k f #v[a,c,rfl,i,g,r]]
section

def fm :∀b∈B,b∈kU B dv v:=λb a=>by cases dv <;> cases v <;> first | exact a | exact kN _ a
def SitE.moreC (I:SitE K G B E F σ H)(k1:Kp (j6 K G) H H1)(f1:FAt K G H1 F1)(r:iI K B H H1 dv v):SitE K G (kU B dv v) E F1 σ H1:=by
 have q:=(show i5 (hid H B) (hid H1<|kU B dv v) by
  cases dv with
  | dat d=>exact k1.hid I.fB
  | feed=>exact r.elim
  | fn _=>exact r.elim
  | adr _=>exact r.elim
  | fv _ _=>exact r.elim
  | rdic _ _=>exact r.elim
  | own Q =>
   let(a,y,rfl,s,t,C):=r;intro b o h;by_cases e:b∈B
   .rw[A2 e]at h;cases h
   .rw[j5 e]at h;show hid H1 (a::B) b=some o;rw[j5<|by simp[k9 h s,e]];exact k1 b o h λz=>e (I.fB b z)
  | dic w c J =>
   let(_,a,y,rfl,s,t,_,C):=r;intro b o h;by_cases e:b∈B
   .rw[A2 e]at h;cases h
   .rw[j5 e]at h;show hid H1 (a::B) b=some o;rw[j5<|by simp[k9 h s,e]];exact k1 b o h λz=>e<|I.fB b z)
 refine#v[f1,λb e=>fm b<|I.fB b e,λb e=>?_,I.ln,λj x P=>?_]
 .have k:=λe=>(I.step k1 f1).bk b e
  cases dv with
  | dat d=>cases v <;> exact k e
  | feed=>exact r.elim
  | fn _=>exact r.elim
  | adr _=>exact r.elim
  | fv _ _=>exact r.elim
  | rdic _ _=>exact r.elim
  | own Q =>
   let(a,y,rfl,s,t,C):=r;rcases oZ.1 e with rfl | e
   .exact#v[_,t]
   .exact k e
  | dic w c J =>
   let(_,a,y,rfl,s,t,C):=r;rcases oZ.1 e with rfl | e
   .exact#v[_,t]
   .exact k e
 .let(w,L,f):=I.loc j x P;refine#v[w,L,?_];cases x with
  | dat d=>exact c6.same (f) q
  | feed=>exact f
  | fn _=>exact f
  | adr _=>exact f
  | fv _ _=>exact#v[f.1,f.2.1,f.2.1 _ _ q f.2.2]
  | rdic _ _ =>let(R,u,O,N,M):=f;exact#v[R,u,O,q _ _ N,M.same q]
  | own S =>let(D,i,rfl,p,g,n,m):=f;exact#v[D,i,rfl,fm _ p,g,k1 _ _ n g,m.same q]
  | dic w c J =>let(D,i,rfl,p,g,n,A,m):=f;exact#v[D,i,rfl,fm _ p,g,k1 _ _ n g,A,m.same q]
def Sit.putC (S:Sit K G B0 H0 E F σ H)(s:∀b∈B0,b∈B)(sn:∀b∈B,b∈B0\/H0 b=none)(I:SitE K G B E F σ H)(k1:Kp (j6 K G) H H1)(f1:FAt K G H1 F1)(r:iI K B H H1 dv v)(hl:i<E.length) :
  Sit K G B0 H0 (E.set i<|some dv) F1 (σ.set i<|some v) H1/\(∀b∈B0,b∈kU B dv v)/\(∀b∈kU B dv v,b∈B0\/H0 b=none)/\SitE K G (kU B dv v) (E.set i<|some dv) F1 (σ.set i<|some v) H1:=by
 have D:i < σ.length:=by rwa[<-I.ln]
 have s':∀b∈B0,b∈kU B dv v:=λb T=>fm b<|s b T
 have y:∀P,dv = .own P->∃a n,v = .ref a/\H1 a=some (.lst n)/\b9 K (hid H1 (a::B)) P n/\a ∉ B/\a ∉ j6 K G/\H0 a=none:=λP e=>by
  subst e;let(a,n,rfl,hn,J,C):=r;have f:=I.bk.nin hn;have g:=λz=>f<|I.fB a z
  exact#v[a,n,rfl,J,C,f,g,S.kp.none hn g]
 have u:∀w c q,dv = .dic w c q->∃a φ,v = .ref a/\H1 a=some (.ext φ)/\gj a φ/\eP K (hid H1 (a::B)) c q a φ/\a ∉ B/\a ∉ j6 K G/\H0 a=none:=λw c q e=>by
  subst e;let(_,a,n,rfl,hn,J,Y,C):=r;have f:=I.bk.nin hn;have g:=λz=>f<|I.fB a z
  exact#v[a,n,rfl,J,Y,C,f,g,S.kp.none hn g]
 have Z:∀b∈kU B dv v,b∈B0\/H0 b=none:=λb T=>by
  cases dv with
  | dat d=>cases v <;> exact sn b T
  | feed=>exact r.elim
  | fn _=>exact r.elim
  | adr _=>exact r.elim
  | fv _ _=>exact r.elim
  | rdic _ _=>exact r.elim
  | own P =>
   let(a,n,rfl,J,C,f,g,N):=y P rfl;rcases oZ.1 T with rfl | T
   .exact .inr N
   .exact sn b T
  | dic w c q =>
   let(a,n,rfl,J,Y,C,f,g,N):=u w c q rfl;rcases oZ.1 T with rfl | T
   .exact .inr N
   .exact sn b T
 have IC:=I.moreC k1 f1 r;have I':SitE K G (kU B dv v) (E.set i<|some dv) F1 (σ.set i<|some v) H1:=by
  refine#v[IC.fd,IC.fB,IC.bk,by rw[As,As];exact I.ln,λj x h=>?_];by_cases A:i=j
  .subst A;rw[sP hl]at h;cases h;refine#v[v,by rw[sP D],?_];cases dv with
   | dat d=>cases v <;> exact r
   | feed=>exact r.elim
   | fn _=>exact r.elim
   | adr _=>exact r.elim
   | fv _ _=>exact r.elim
   | rdic _ _=>exact r.elim
   | own P =>let(a,n,rfl,J,C,f,g,N):=y P rfl;exact#v[a,n,rfl,ll,g,J,C]
   | dic w c q =>let(a,n,rfl,J,Y,C,f,g,N):=u w c q rfl;exact#v[a,n,rfl,ll,g,J,Y,C]
  .rw[sv A]at h;let(w,v1,v2):=IC.loc j x h;exact#v[w,by rwa[sv A],v2]
 have L:∀P j O a,dv = .own P->v = .ref a->E[j]? = some (some<|DV.own O)->σ[j]? ≠ some (some<|V.ref a):=λP j O a e Q h z=>by let(a1,n,ab,J,C,f,g,N):=y P e;rw[Q]at ab;cases ab;let(w,v1,p,am,rfl,ad,_):=I.loc j _ h;rw[v1]at z;cases z;exact f ad
 refine#v[#v[#v[kU B dv v,s',Z,I'],S.fB,S.kp.trans k1,λj O p h m=>?_,λj k O U p h o m l=>?_,λj c q p h m=>?_],s',Z,I'];rotate_left 2
 .have t:∀k w c q,E[k]? = some (some<|DV.dic w c q)->σ[k]? = some (some<|V.ref p)->p∈B:=λk w c q o l=>by let(v9,w1,a9,al,rfl,ac,_):=I.loc k _ o;rw[w1]at l;cases l;exact ac
  by_cases A:i=j
  .subst A;rw[sP hl]at h;rw[sP D]at m;let(a,n,Q,J,Y,C,f,g,N):=u _ _ _ (rn<|rn h);rw[rn<|rn m ]at Q;cases Q;refine#v[#v[N,λz=>f<|s _ z],λk w' c' R o l=>?_];by_cases M:i=k
   .exact M
   .rw[sv M]at o l;exact absurd (t k w' c' R o l) f
  .rw[sv A]at h m;let(C,h2):=S.dic j c q p h m;refine#v[C,λk w' c' R o l=>?_];by_cases M:i=k
   .subst M;rw[sP hl]at o;rw[sP D]at l;let(a,n,Q,J,Y,h3,f,g,N):=u _ _ _ (rn<|rn o);rw[rn<|rn l ]at Q;cases Q;exact absurd (t j true c q h m) f
   .rw[sv M]at o l;exact h2 k w' c' R o l
 .by_cases A:i=j
  .subst A;rw[sP hl]at h;rw[sP D]at m;let(a,n,Q,J,C,f,g,N):=y O (rn<|rn h);rw[rn<|rn m ]at Q;cases Q;exact#v[N,λz=>f<|s _ z]
  .rw[sv A]at h m;exact S.own j O p h m
 .by_cases A:i=j
  .by_cases M:i=k
   .rw[<-A,<-M]
   .subst A;rw[sP hl]at h;rw[sP D]at m;rw[sv M]at o l;exact absurd l<|L O k U p (rn<|rn h) (rn<|rn m) o
  .by_cases M:i=k
   .subst M;rw[sP hl]at o;rw[sP D]at l;rw[sv A]at h m;exact absurd m<|L U j O p (rn<|rn o) (rn<|rn l) h
   .rw[sv A]at h m;rw[sv M]at o l;exact S.inj j k O U p h o m l
end
noncomputable def qE (i j:Nat)(c1 c2:DE->M DV):DE->M Out:=λE F=>(c1 E F).bind λp=>(c2 E p.2).bind λq=>if i<E.length/\j<E.length then some (.nx<|(E.set i<|some p.1).set j<|some q.1,q.2) else none
def xj (i j){kt k2 pt2}(hc:X.calm=true)(hN:X.N.Nodup)(h1:Ec K X a t1 c1)(h2:Ec K X b t2 c2)(hi:‹X.N[i]? = some x›)(hj:‹X.N[j]? = some y›)(hij:autoParam (i≠j) gC)
  (hx:‹X.env.scope.names.lookup x=some .local›) (hy:‹X.env.scope.names.lookup y=some .local›)
  (hw:‹swappedStores [.Tuple [.Name x px,.Name y py] kt pt] (.Tuple [a,b] k2 pt2) X.env=pure (some [x,y])›)
  (hs:‹swapsWithSole [.Tuple [.Name x px,.Name y py] kt pt] (.Tuple [a,b] k2 pt2) pos.line X.env=pure false›)
  (hs1:‹QY [a,b] X.env=(false,eval a X.env)::QY [b] X.env›) (hs2:‹QY [b] X.env=(false,eval b X.env)::QY [] X.env›) :
  Ss K X (.Assign [.Tuple [.Name x px,.Name y py] kt pt] (.Tuple [a,b] k2 pt2) pos) (IH i j<|z9 t1<|z9 t2 T7) (qE i j c1 c2):=#v[Ah hc hN hi hj hij hx hy (r8 h1.pe (r8 h2.pe A3 hs2) hs1) hw hs,λG R P E F f H D r Q S e q=>by
 obtain⟨⟨z,l⟩,t,e⟩:=bS9 e;obtain⟨⟨u,N⟩,p,e⟩:=bS9 e;walk_at "kb"
 rename_i hl;cases e;let(B,s,m,I):=S.ex;refine h1.ok G B E F f H _ z l I t λv L h k g=>?_
 let(C,s1,c,J):=S.putC s m I h k g hl.1;refine h2.ok G _ E l f L _ u N (I.moreC h k g) p λw O d o n=>?_
 let(A,_):=C.putC s1 c J d o n (by rw[As];exact hl.2);exact#v[v,w,rfl,q _ _ A]]
end
end
section
section
variable {K:Qf}
def Jj (K:Qf):List V->Hp->VK->Prop:=λc H Q=>∃(a:QN) (b:List Int),c=[.ref a]/\SqL K H a (b.map V.int)/\b≠[]/\Q (.int<|T3 b) H
def sT (hK:X.K=K)(hc:X.calm=true):w8 X (.builtin "min") (Jj K):=by
 subst hK;rintro A s S H T us Q I r ⟨a,c,rfl,J,m,q⟩;let(u,rfl,y):=C5 r;cases y;let(b,x,p,Y):=I.list J;have n:b.length=c.length:=by rw[<-x.length,jI]
 have C:=NM.2 m;have w:=P5 x;let(d,g):=w.allInts.items;have G:d.size=c.length:=by
  have:(intItems d).size=b.length:=by rw[<-g];simp
  rw[<-n,<-this];simp[intItems]
 have l:∀(i:Nat) v,b.toArray[i]? = some v->∃t,v = .int (c.getD i 0) t:=λi v k=>by
  have k:b[i]? = some v:=by simpa using k
  let(w,_):=pG.1 k;have M:(c.map V.int)[i]? = some (V.int<|c.getD i 0):=by rw[sq,qK<|by lia];simp[qK<|show i<c.length by lia]
  let(u,B,y):=x.get M;rw[k]at B;cases B;exact y
 have f:∀i,i<c.length->numAt d i=c.getD i 0:=λi w=>by
  have o:i<b.length:=by lia
  let(t,e):=l i b[i] (by simp[o]);have R:(intItems d)[i]? = some b[i]:=by rw[<-g];simp[o]
  have:=Pm R;let(W,D):=this;rw[e]at D;injection D with P _
  exact P.symm
 refine min_intList (I.ok.hd hc) (g▸p.isList) (by lia) λv h' U k L=>?_
 let(Z,N):=argBest_lt (numAt d)<|d.size-1;let(t,e):=Pm k;subst e;generalize argBest (λi j=>decide (numAt d i<numAt d j)) (d.size-1)=j at *;have z:j<c.length:=by lia
 let(F,E):=aw m;have O:numAt d j=T3 c:=by rw[f j z];refine QK ?_<|E _<|getD_mem z;let(i,w,e):=mem_getD F;have:=N i (by lia);rw[f i w,f j z]at this;rwa[<-e]
 rw[O];exact#v[.int<|T3 c,H,I.kept L,#v[t,rfl],q]
def lX:List CD->Option CD
 | [.list ds]=>(G7 ds).bind λa=>if a=[] then none else some (.int<|T3 a)
 | xs=>ye xs
def wc (hK:X.K=K)(hc:X.calm=true):w8 X (.builtin "min") (rDN K lX):=by
 rintro b s f H g us Q I r ⟨m,B,n,z,bk,i,c,q⟩;unfold lX at c;split at c
 .let(j,e,c):=bS9 c;split at c
  .cases c
  .rename_i d;cases c;cases B4 e;let(v,rfl,a,g,rfl,l,k):=cM i rfl;cases bY k;exact sT hK hc b s f H _ us Q I r #v[a,j,rfl,SqL.of<|d9 _ _ l,d,q _ H (i5.refl H) c6.int]
 .exact sQ hK hc b s f H g us Q I r #v[m,B,_,z,bk,i,c,q]
def yC:CD->CD->Option CD
 | .list ds,.int k=>(G7 ds).bind λa=>if (CD.list<|a.map .int).layable0=true/\k∈a then some (.int (a.idxOf k:Nat)) else none
 | _,_=>none
def Bh (h:Eb K X o to mo)(h2:Eb K X e te me)(hK:‹X.K=K›)
  (hbase:‹Rh o "index" X.env (eval o X.env)=eval o X.env›)
  (hfew:‹((Rb cpos<|QY [e] X.env).all (λx=>!x.1)&&(Rp cpos<|Rq [] X.env).all (λx=>x.1.isSome)
   && decide ([e].length+([]:List Rc).length+(if ([]:List Rc).isEmpty then 0 else 1)<30))=true›)
  (hline:‹(apos.endLine == cpos.line)=true›) (hst:‹QY [e] X.env=(false,eval e X.env)::QY [] X.env›) (hplain:‹(Rb cpos<|QY [] X.env).any (·.1)=false›) :
  Ev K X (.Call (.Attribute o "index" apos) [e] [] cpos) (tBM K "list" (λx xs H Q=>∃y,xs=[y]/\rD2 K yC x y H Q) to<|z9 te T7) (s2 yC mo me):=by
 subst hK;refine#v[Bn OV PySem.F.slot_list_index PySem.F.type_list_index ?_ h.pe (r8 h2.pe A3 hst) hbase hfew hline hst hplain,λG B E F f H Q d F' I e q=>?_]
 .intro m s f H x xs v us Q I L P T;let(y,rfl,fp,B,d,e,r,bk,c,h2,b,q):=T;let(u,rfl,O):=C5 P;unfold yC at b;split at b <;> try cases b
  rename_i W k;let(ns,l,b):=bS9 b;split at b
  .rename_i A;cases b;cases B4 l;cases(h2);let(a,vs,rfl,j,n):=c;cases bY n;cases L;let(t,rfl):=O;let(R,N,p,hz):=I.list<|SqL.of<|d9 _ _ j;exact index_list_ints p.isList (P5 N) A.1 A.2 #v[.int _,H,I.tok _,#v[_,rfl],q _ H (i5.refl H) c6.int]
  .cases b
 .obtain⟨⟨x,J⟩,l,e⟩:=bS9 e;obtain⟨⟨y,F2⟩,V,e⟩:=bS9 e;let(z,D,e):=bS9 e;cases e;refine h.ok G B E F f H _ x J I l λv Z i U c=>#v[?_,?_]
  .cases x with
   | list W =>
    let(a,xs,rfl,j,n):=c
    exact .inl #v[rfl,xs,SqL.of<|d9 _ _ j]
   | _=>cases D
  .refine h2.ok G B E J f Z _ y F2 (I.step i U) V λw H2 g C h2=>#v[_,rfl,j6 _ G,B,x,y,_,m9 I.bk (i.trans g) C,c.step g I.fB,h2,D,λu Y s S=>q u Y ((i.trans g).trans<|Kp.same s) (C.same s) S]
end
end
section
section
variable {K:Qf}
def LV (osc) (N){mt}
  (hi:Eib K X tg iter wi mi)
  (hg:∀{cl C ex π s H},Eg K (cxC X N scope cl C ex π s H) tg g bd)
  (ht:∀{cl C ex π s H},Ets K (cxC X N scope cl C ex π s H) ifs tt mt)
  (he:∀{cl C ex π s H},Ev K (cxC X N scope cl C ex π s H) elt te me)
  (hc:‹X.calm=true›) (hosc:‹X.env.scope=osc›) (hcap:autoParam (Caps X.N osc N k cap scope) qAl)
  (hs:autoParam (∀x,Rj iter X.env x=pure x) qAk) :
  Ef K X (.ListComp elt [#v[tg,iter,ifs,0]] scope pos) (tLC wi k cap g tt te) (fLC mi k cap bd mt me) :=
 #v[GU hc hosc hcap hi.pi (λ_ _ _ _ _ _=>hg.pg) (λ_ _ _ _ _ _=>ht.pts) (λ_ _ _ _ _ _=>he.pe) hs,
  Bf hi.ok (@hg [] 0 [] [] X.s₀ X.H₀).ok (@ht [] 0 [] [] X.s₀ X.H₀).ok (@he [] 0 [] [] X.s₀ X.H₀).ok]
end
end

section
section
variable {K:Qf}

def spG (K:Qf)(n:Nat)(f:List DV->M (List CD)):Sp:=λg H Q _=>∃G B F c h i,g.length=n/\(∀b∈j6 K G,b∈B)/\BOk H B/\FAt K G H F/\U3 K G B H c g/\f c F=some (h,i) /\
 ∀a e d,H a=none->d a=some (.lst e)->Kp (j6 K G) H d->FAt K G d i->b9 K (hid d (a::B)) h e->Q (.ref a) d
def JI (N:List Str)(mf:DE->M (List CD)):List DV->M (List CD):=λa F=>mf (t9 N a) F
def sd (f:List DV->M (List CD))(ms:DE->M (List DV)):DE->M (List CD):=λE F=>(ms E F).bind λp=>f p.1 p.2
def Ex (C:m7 X.prog X.w X.K X.mg X.base x k ps (spG K n f))(hr:Room k X.A)(ha:Evs K X (e::es) tl ms)(hn:∀E F args F',ms E F=some (args,F')->args.length=n)(hg:‹Gl X x›)
  (hdb:autoParam (nDb x) gC) (he:‹QY (e::es) X.env=(false,eval e X.env)::QY es X.env›) (hpl:‹(Rb pos<|QY es X.env).any (·.1)=false›) :
  Ef K X (.Call (.Name x p) (e::es) [] pos) (eY (spG K n f) [] E0 tl) (sd f ms):=#v[cK C hr hg ha.pa hdb he hpl,(λG B E F l H Q t F' I e q=>by
   obtain⟨⟨args,j⟩,i,e⟩:=bS9 e;refine ha.ok G B E F l H _ args j I i λv w c g h=>?_
   rw[Am];refine#v[G,B,j,args,t,F',by rw[h.length];exact hn _ _ _ _ i,I.fB,m9 I.bk c g,g,h,e,λa m u b d o s r=>q a m u (c.none b λz=>(m9 I.bk c g).nin b<|I.fB a z) d (c.trans o) s r])]
end
end
section
section

def fO (hi:y8 b s.heap it l i)(hl:K5 b s.heap l items)(hx:items[i]? = some x)
  (q:∀h',y8 b h' it l (i+1)->QW.SameBut it s.heap h'->Q x { s with heap:=h' }):Re (model prog w) A (Builtin.SmallTypes.nextOf<|.ref it) Q E s:=by
 cases b
 .exact X8 (hi) (hl) hx λh' a b=>q h' a b
 .exact wpAny_nextOf_list_item (hi) (hl) hx λh' a b=>q h' a b
def tI (hh:A.handled=none)(hi:y8 b s.heap it l i)(hl:K5 b s.heap l items)(hx:items[i]? = none)
  (q:∀h' e,QW.ExtBut it s.heap h'->(∃o,h'.get? e=some o/\o.cls = .type "StopIteration")->E (.ref e) { s with heap:=h' }):Re (model prog w) A (Builtin.SmallTypes.nextOf<|.ref it) Q E s:=by
 cases b
 .exact au hh (hi) (hl) hx q
 .exact wpAny_nextOf_list_end hh (hi) (hl) hx q
def y8.but (x:y8 b h it l i)(k:QW.ExtBut c h h')(n:it≠c):y8 b h' it l i:=x.at λo e=>k it o n e
def K5.but (x:K5 b h l items)(k:QW.ExtBut c h h')(n:l≠c):K5 b h' l items:=x.at λo e=>k l o n e
variable {TI TO i2:QN}
def wB {Q:My->QO->Prop}(D:ZipApart z TI TO i1 i2 l1 l2)(hz:IsZip s.heap z TI TO .none)(hTI:IsPair s.heap TI (.ref i1) (.ref i2))(hTO:IsPair s.heap TO a b)
  (h1:y8 b1 s.heap i1 l1 k) (h2:y8 b2 s.heap i2 l2 k) (hl1:K5 b1 s.heap l1 xs) (hl2:K5 b2 s.heap l2 ys) (hx:xs[k]? = some x) (hy:ys[k]? = some y)
  (q:∀h',IsZip h' z TI TO (rawInt (~~~s))->IsPair h' TO x y->y8 b1 h' i1 l1 (k+1)->y8 b2 h' i2 l2 (k+1)->IsPair h' (~~~s) x y->h'.objs.size= ~~~s+1 ->
   (∀c o,c≠z->c≠TO->c≠i1->c≠i2->s.heap.get? c=some o->h'.get? c=some o)->Q (.ref (~~~s)) { s with heap:=h' }) :
  Re (model prog w) A (Builtin.«zip.__next__» #v[[.ref z],[]]) (λfin s'=>∃v,fin = .done (.ret v)/\Q v s') E s:=by
 show Re _ _ (field (.ref z) 2 >>= _) _ _ _;refine iD<|zF hz rfl (x:=.bool false) rfl ?_;show Re _ _ (field (.ref z) 3 >>= _) _ _ _;refine iD<|zF hz rfl (x:=.ref TI) rfl<|iD<|Ej hTI rfl ?_;show Re _ _ (Builtin.SmallTypes.ownedTupleIsFree (.ref z) >>= _) _ _ _;refine iD ?_;unfold Builtin.SmallTypes.ownedTupleIsFree;refine iD<|zF hz rfl (x:=.none) rfl<|iO ?_;simp only[Bc];refine iD<|JV<|iD<|zF hz rfl (x:=.ref TO) rfl<|iD (Dg hz (by simp) λU B s1=>?_);replace B:IsZip U z TI TO .ellipsis:=B;refine iD ?_;simp only[List.zipIdx_cons,List.zipIdx_nil,Ox,OO];refine iD<|iD<|Qq<|iD (fO (h1.but s1.extBut D.i1z) (hl1.but s1.extBut D.l1z) hx λT Y s2=>iO ?_);have L:=s2.extBut _ _ D.TOi1<|s1.extBut _ _ D.TOz hTO;refine iD<|Ej L rfl<|iD (PR L λS G g=>?_);replace G:=G;refine iD<|Nj<|iO<|iD<|iD<|Qq<|iD (fO (((h2.but s1.extBut D.i2z).but s2.extBut D.i12.symm).but g.extBut D.TOi2.symm) (((hl2.but s1.extBut D.l2z).but s2.extBut D.l2i1).but g.extBut D.l2TO) hy λR X j=>iO ?_);have p4:=j.extBut _ _ D.TOi2 G;refine iD<|Ej p4 rfl<|iD (PR p4 λd r i=>?_);replace r:IsPair d TO x y:=r;refine iD<|Nj<|iO<|iO<|iD<|Ej r rfl<|iD<|Ob ?_;have l:d.objs.size=( ~~~s):=by rw[i.1,j.1,g.1,s2.1,s1.1]
 have J:=i.extBut _ _ D.TOz.symm<|j.extBut _ _ D.i2z.symm<|g.extBut _ _ D.TOz.symm<|s2.extBut _ _ D.i1z.symm B;have W:=((Y.but g.extBut D.TOi1.symm).but j.extBut D.i12).but i.extBut D.TOi1.symm;have V:=X.but i.extBut D.TOi2.symm;have h:=pz J;refine iD ?_;refine iD (Dg (jM _ J) (by simp) λP u F=>?_);replace u:=u;refine Dg u (by simp) λm n C=>?_
 replace n:=n;have p:∀c o,c≠z->d.get? c=some o->m.get? c=some o:=λc o f e=>C.extBut _ _ f<|F.extBut _ _ f<|jM _ e
 have K:=C.extBut _ _ (AS h)<|F.extBut _ _ (AS h)<|ou _ rfl;have M:m.objs.size=d.objs.size+1:=by rw[C.1,F.1,AW]
 rw[l]at n K M;refine iO #v[_,rfl,?_];rw[l];exact q m n (p _ _ D.TOz r) (W.at λo e=>p _ o D.i1z e) (V.at λo e=>p _ o D.i2z e) K M λc o f t I H e=>p c o f<|(λc o f t I H e=>i.extBut _ _ t<|j.extBut _ _ H<|g.extBut _ _ t<|s2.extBut _ _ I<|s1.extBut _ _ f e) c o f t I H e
def Ib (hh:A.handled=none)(D:ZipApart z TI TO i1 i2 l1 l2)(hz:IsZip s.heap z TI TO .none)(hTI:IsPair s.heap TI (.ref i1) (.ref i2))(hTO:IsPair s.heap TO a b)
  (h1:y8 b1 s.heap i1 l1 k) (h2:y8 b2 s.heap i2 l2 k) (hl1:K5 b1 s.heap l1 xs) (hl2:K5 b2 s.heap l2 ys) (he:xs[k]? = none\/ys[k]? = none)
  (q:∀h' e,(∀c o,c≠z->c≠TO->c≠i1->c≠i2->s.heap.get? c=some o->h'.get? c=some o)->(∃o,h'.get? e=some o/\o.cls = .type "StopIteration")->E (.ref e) { s with heap:=h' }) :
  Re (model prog w) A (Builtin.«zip.__next__» #v[[.ref z],[]]) Q E s:=by
 show Re _ _ (field (.ref z) 2 >>= _) _ _ _;refine iD<|zF hz rfl rfl<|iD<|zF hz rfl rfl<|iD<|Ej hTI rfl<|iD<|iD<|zF hz rfl rfl<|iO ?_;simp only[Bc];refine iD<|JV<|iD<|zF hz rfl rfl<|iD (Dg hz (by simp) λH j s1=>?_);replace j:=j;refine iD ?_;simp only[List.zipIdx_cons];refine iD<|iD<|Qq ?_;cases hx:xs[k]? with
 | none =>
  refine iD (tI hh (h1.but s1.extBut D.i1z) (hl1.but s1.extBut D.l1z) hx ?_ );rintro m e s2 ⟨l,f,g⟩;have t:=s2 _ _ D.i1z.symm j;exact Dg t (by simp) λB _ d=>q B e (λc o i _ p _ x=>d.extBut _ _ i<|s2 _ _ p<|s1.extBut _ _ i x) #v[l,d.extBut _ _ (λx=>by subst x;rw[t]at f;cases f;simp at g) f,g]
 | some x =>
  refine iD (fO (h1.but s1.extBut D.i1z) (hl1.but s1.extBut D.l1z) hx λm L s2=>iO ?_);have y:=s2.extBut _ _ D.TOi1<|s1.extBut _ _ D.TOz hTO;refine iD<|Ej y rfl<|iD (PR y λB K d=>?_);refine iD<|Nj<|iO<|iD<|iD<|Qq<|iD (tI hh (((h2.but s1.extBut D.i2z).but s2.extBut D.i12.symm).but d.extBut D.TOi2.symm) (((hl2.but s1.extBut D.l2z).but s2.extBut D.l2i1).but d.extBut D.l2TO) (by rcases he with h | h;rw[hx]at h;cases h;exact h) ?_ );rintro G e v ⟨l,f,g⟩;have r:=v _ _ D.i2z.symm<|d.extBut _ _ D.TOz.symm<|s2.extBut _ _ D.i1z.symm j;exact Dg r (by simp) λF _ u=>q F e (λc o i J p I x=>u.extBut _ _ i<|v _ _ I<|d.extBut _ _ J<|s2.extBut _ _ p<|s1.extBut _ _ i x) #v[l,u.extBut _ _ (λx=>by subst x;rw[r]at f;cases f;simp at g) f,g]
def EK (D:ZipApart z TI TO i1 i2 l1 l2)(hz:IsZip s.heap z TI TO .none)(hTI:IsPair s.heap TI (.ref i1) (.ref i2))(hTO:IsPair s.heap TO a b)
  (h1:y8 b1 s.heap i1 l1 k) (h2:y8 b2 s.heap i2 l2 k) (hl1:K5 b1 s.heap l1 xs) (hl2:K5 b2 s.heap l2 ys) (hx:xs[k]? = some x) (hy:ys[k]? = some y)
  (q:∀h',IsZip h' z TI TO (rawInt (~~~s))->IsPair h' TO x y->y8 b1 h' i1 l1 (k+1)->y8 b2 h' i2 l2 (k+1)->IsPair h' (~~~s) x y->h'.objs.size= ~~~s+1 ->
   (∀c o,c≠z->c≠TO->c≠i1->c≠i2->s.heap.get? c=some o->h'.get? c=some o)->Q (some<|.ref (~~~s)) { s with heap:=h' }):Re (model prog w) A (pyNext<|.ref z) Q E s:=by
 have d:s.TypeIs (.ref z) "zip":=#v[_,hz,rfl];exact iD (Fq (xW d Eu (xw Eu d Nm
  (wB D hz hTI hTO h1 h2 hl1 hl2 hx hy λh' l j i h g f e=>iO<|q h' l j i h g f e) (LG _))))
def CO (hh:A.handled=none)(D:ZipApart z TI TO i1 i2 l1 l2)(hz:IsZip s.heap z TI TO .none)(hTI:IsPair s.heap TI (.ref i1) (.ref i2))(hTO:IsPair s.heap TO a b)
  (h1:y8 b1 s.heap i1 l1 k) (h2:y8 b2 s.heap i2 l2 k) (hl1:K5 b1 s.heap l1 xs) (hl2:K5 b2 s.heap l2 ys) (he:xs[k]? = none\/ys[k]? = none)
  (q:∀h',(∀c o,c≠z->c≠TO->c≠i1->c≠i2->s.heap.get? c=some o->h'.get? c=some o)->Q none { s with heap:=h' }):Re (model prog w) A (pyNext<|.ref z) Q E s:=by have d:s.TypeIs (.ref z) "zip":=#v[_,hz,rfl];refine iD (Fq<|xW d Eu<|xw Eu d Nm (Ib hh D hz hTI hTO h1 h2 hl1 hl2 he ?_ )<|LG _);rintro h' e g ⟨o,f,h⟩;exact iD<|KY #v[o,f,h] Od<|iO<|q _ g
end
end
section
abbrev itO (b:Bool)(l:QN):QZ:={ cls:=.type (if b then "list_iterator" else "tuple_iterator"),data:=.fields #[.ref l,.int 0 0] }
abbrev zg1 (h:QW)(b1:Bool)(l1:QN):QW:=h.push<|itO b1 l1
abbrev zg2 (h:QW)(b1 b2:Bool)(l1 l2:QN):QW:=(zg1 h b1 l1).push<|itO b2 l2
abbrev zg3 (h:QW)(b1 b2:Bool)(l1 l2:QN):QW:=(zg2 h b1 b2 l1 l2).push { cls:=.type "tuple",data:=.seq #[.ref h.objs.size,.ref (zg1 h b1 l1).objs.size] }
abbrev zg4 (h:QW)(b1 b2:Bool)(l1 l2:QN):QW:=(zg3 h b1 b2 l1 l2).push { cls:=.type "tuple",data:=.seq #[.none,.none] }
abbrev zg5 (h:QW)(b1 b2:Bool)(l1 l2:QN):QW:=(zg4 h b1 b2 l1 l2).push { cls:=.type "zip",data:=.fields #[.none,.bool false,.bool false,.ref (zg2 h b1 b2 l1 l2).objs.size,.ref (zg3 h b1 b2 l1 l2).objs.size] }
def zf {a2:Nat} (l1:a1<N)(l2:a2<N):ZipApart (N+4) (N+2) (N+3) N (N+1) a1 a2:=by constructor <;> show @Ne Nat _ _ <;> lia
def Itz (b1 b2:Bool)(K:Qf)(a1 a2:QN):It :=
 #v[λi H=>∃b a x y,SqA b1 K H a1 b/\SqA b2 K H a2 a/\b[i]? = some x/\a[i]? = some y,λi H v c=>∃t x y,v = .ref t/\H t=none/\c=upd H t (.tup [x,y])/\(∀b,SqA b1 K H a1 b->b[i]? = some x)/\∀a,SqA b2 K H a2 a->a[i]? = some y,
  λi H=>∃b a,SqA b1 K H a1 b/\SqA b2 K H a2 a/\(b[i]? = none\/a[i]? = none)]
def Dl {K}(b1 b2) (a1 a2 z TI TO i1 i2):Turn P w K (.Tuple es k pos) (Itz b1 b2 K a1 a2) [z,TI,TO,i1,i2] z
  (λi h=>ZipApart z TI TO i1 i2 a1 a2/\IsZip h z TI TO .none/\IsPair h TI (.ref i1) (.ref i2)/\(∃a b,IsPair h TO a b)/\y8 b1 h i1 a1 i/\y8 b2 h i2 a2 i) where
 mem:=by simp
 obj:=λi h st c V=>by
  obtain⟨_,n,d,⟨a,b,j⟩,m,C⟩:=st;simp only[oZ,MK,Qc]at V;rcases V with rfl | rfl | rfl | rfl | rfl
  .exact#v[_,n,λv z=>by cases(show Data.fields _=Data.cell v from z)]
  .exact#v[_,d,λv z=>by cases(show Data.seq _ _=Data.cell v from z)]
  .exact#v[_,j,λv z=>by cases(show Data.seq _ _=Data.cell v from z)]
  .exact m.obj
  .exact C.obj
 keep:=λi h h' st Q=>by obtain⟨D,n,d,⟨a,b,j⟩,m,C⟩:=st;exact#v[D,Q z (by simp) _ n,Q TI (by simp) _ d,#v[a,b,Q TO (by simp) _ j],m.at λo e=>Q i1 (by simp) o e,C.at λo e=>Q i2 (by simp) o e]
 item:=by
  intro X hP hw hK L i l s Y H E I hf st hg;subst hP hw hK;obtain⟨D,n,d,⟨a,b,j⟩,m,C⟩:=st;let(xs,ys,x,y,q,p,hx,W):=hg;let(B,J,p1):=SqA.get I q;let(A,G,p2):=SqA.get I p;let(O,ad,ab):=J.get hx;let(N,ac,Z):=G.get W;have S:∀c∈[z,TI,TO,i1,i2],c<( ~~~s):=λc V=>by
   simp only[oZ,MK,Qc]at V;rcases V with rfl | rfl | rfl | rfl | rfl
   .exact pz n
   .exact pz d
   .exact pz j
   .let(o,e,_):=m.obj;exact pz e
   .let(o,e,_):=C.obj;exact pz e
  refine EK D n d j m C p1 p2 (by rwa[Ny]) (by rwa[Ny]) λg g1 g2 g3 g4 g5 g6 gk=>#v[_,rfl,wpAny_letOwnedTupleGo_zip g1 λM z2 s2=>?_];have s2:=s2;have I1:Inv X l Y (upd H (~~~s)<|.tup [x,y]) { s with heap:=s.heap.push { cls:=.type "tuple",data:=.seq #[O,N] } }:=by refine I.laid (λb u e=>jM _ e) (qD _)<|#v[uj (show 2<=10000 by decide) (by rw[xD];decide),[O,N],.cons ab<|.cons Z .nil,#v[_,ou _ rfl,rfl,_,rfl],.mk (ou _ rfl) rfl]
  have R:∀c∈[z,TI,TO,i1,i2],bX X l (upd H (~~~s)<|.tup [x,y]) c:=λc t=>by let(f0,f):=hf c t;exact#v[by rwa[h7<|uu<|S c t],f]
  have ap:=s2.extBut _ _ (AS (S z (by simp)) ) g5;have I2:Inv X l Y (upd H (~~~s)<|.tup [x,y]) { s with heap:=M }:=by
   refine J0 (s:={ s with heap:=s.heap.push { cls:=.type "tuple",data:=.seq #[O,N] } }) I1 R λc o r F=>?_
   have c1:c≠z:=λz=>r (by simp[z])
   have F:=F;by_cases U:c= ~~~s
   .subst U;rw[ou _ rfl]at F;rwa[ap]
   .exact s2.extBut c o c1<|gk c o c1 (λz=>r (by simp[z])) (λz=>r (by simp[z])) (λz=>r (by simp[z]))<|kF (by have m:=pz F;rw[AW]at m;exact Qn (Qu m) U) F
  refine#v[.ref (~~~s),upd H (~~~s)<|.tup [x,y],I2,rfl,#v[_,x,y,rfl,I.hok.fresh<|qD _,rfl,λzs W=>by rwa[SqA.inj I q W],λzs n=>by rwa[SqA.inj I p n]],#v[D,z2,s2.extBut _ _ D.TIz<|gk _ _ D.TIz D.TITO D.TIi1 D.TIi2 d,#v[_,_,s2.extBut _ _ D.TOz g2],g3.but s2.extBut D.i1z,g4.but s2.extBut D.i2z],λc t=>(R c t).1]
 done:=by
  intro X hP hw hK L i l s Y H E I hf st hg;subst hP hw hK;obtain⟨D,n,d,⟨a,b,j⟩,m,C⟩:=st;let(xs,ys,q,p,T):=hg;let(B,J,p1):=SqA.get I q;let(A,G,p2):=SqA.get I p;have an:B.toArray[i]? = none\/A.toArray[i]? = none:=by
   rcases T with T | T
   .left;rw[Ny,EF,<-J.length];exact EF.1 T
   .right;rw[Ny,EF,<-G.length];exact EF.1 T
  refine CO (I.ok.hd L) D n d j m C p1 p2 an λh' eb=>#v[rfl,J0 I hf λc o L F=>eb c o (λz=>L<|by simp[z]) (λz=>L<|by simp[z]) (λz=>L<|by simp[z]) (λz=>L<|by simp[z]) F]
 self:=λ_ _ _ _ _ st h=>wpAny_pyIter_zip st.2.1 h
section
variable {K:Qf}
def kT (a b:List CD):List CD:=List.zipWith (λx y=>.tuple [x,y]) a b
def Jc {es}(h:∀H B,P H B->(SqA b1 K H a1 xs/\b9 K (hid H B) ds xs)/\SqA b2 K H a2 ys/\b9 K (hid H B) es ys):ee K P (Itz b1 b2 K a1 a2) (kT ds es):=λH B r=>by
 obtain⟨⟨b,k⟩,a,j⟩:=h H B r;refine#v[λi d e=>?_,#v[xs,ys,b,a,?_]]
 .let(x,y,q,p,rfl):=(show ∃x y,ds[i]? = some x/\es[i]? = some y/\d = .tuple [x,y] by
  unfold kT at e;rw[List.getElem?_zipWith]at e;cases e1:ds[i]? with
  | none=>rw[e1]at e;cases e
  | some x =>
   cases e2:es[i]? with
   | none=>rw[e1,e2]at e;cases e
   | some y=>rw[e1,e2]at e;exact#v[x,y,rfl,rfl,(rn e).symm])
  let(v,e1,e2):=b9.item k q;let(u,l,w):=b9.item j p;refine#v[#v[xs,ys,v,u,b,a,e1,l],λC D m=>?_];let(t,A,z,rfl,g,rfl,o,n):=m;have f:=o xs b;have c:=n ys a;rw[e1]at f;cases f;rw[l]at c;cases c;exact#v[i5.upd g,λbk=>Q3 bk g #v[_,_,rfl,e2,_,_,rfl,w,rfl]]
 .have s:(kT ds es).length=min ds.length es.length:=by unfold kT;rw[List.length_zipWith]
  rw[s,EF,EF,k.length,j.length];lia
end
end
end L3
namespace L3
open PySem PySem.Spec PyProof.Rows L2
section
section
variable {K:Qf}{st:QU}{mt:DE->M Out}

def GI (mg:Str->Option My)(x:Str)(i:Int):Prop:=∃t,mg x=some (My.int i t)
def Mo (h:GI X.mg x i)(hg:‹Gl X x›)(hd:autoParam (nDb x) gC):Ev K X (.Name x p) (tC<|.int i) (sC<|.int i) :=
 #v[wM hg h.choose_spec #v[_,rfl] hd,BR λ_=>c6.int]
def gSq (a:DE->M Out)(b:DE->M (List CD)):DE->M (List CD):=λE F=>(a E F).bind λp=>match p.1 with
 | .nx E1=>b E1 p.2
 | _=>none
structure SsG K X sts ts (m:DE->M (List CD)):Prop where
 ps:PSs X sts ts
 ok:∀G B0 H0 E F σ H D ds F',Sit K G B0 H0 E F σ H->m E F=some (ds,F') ->
  (∀a ws H',H0 a=none->H' a=some (.lst ws)->Kp (j6 K G) H0 H'->FAt K G H' F'->b9 K (hid H' (a::B0)) ds ws->D.rt (.ref a) H')->ts D σ H
def wF (h1:Ss K X st t mt)(h2:SsG K X rest u mu):SsG K X (st::rest) (qZ t u) (gSq mt mu):=#v[u9 h1.ps h2.ps,λG g c E F h H D j m S e q=>by
 obtain⟨⟨o,f⟩,i,e⟩:=bS9 e;refine h1.ok G g c E F h H _ o f S i ?_;cases o with
 | nx b=>exact λa l k=>h2.ok G g c b f a l D j m k e q
 | rt d=>cases e
 | bk b=>cases e
 | ct b=>cases e]
def Fs (Fn:Fun K x qual st f fd)(S:FnScope N ps (c7 st))
  (hbody:∀dr A outer s H E,Room k (A.deeper<|envOfC qual (c7 st) (~~~s) f dr) ->
   ∃ts,SsG K (gB CX0 P w K mg base N qual (c7 st) f dr A outer s H E).nox (m4 st) ts mf):FnOk P w K mg base CX0 (k+1) f fd ps (spG K ps.length<|JI N mf):=by
 refine Fn.ok S (λc H Q E h=>?_) (λdr A outer s H c Q E g h=>?_)
 .let(G,B,F,a,d,e,hl,_):=h;exact hl
 .let(G,B,F,a,n,e,hl,l,bk,j,i,m,q):=h;let(ts,b):=hbody dr A outer s H E g;exact#v[ts,b.ps,b.ok G B H (t9 N a) F (L2.P2 N c) H _ n e (Z8 l bk j i) m q]
end
end
end L3
namespace L3
open PySem PySem.Spec PyProof.Rows L2 PySem.SeqAt
def Jq (A:QR)(s:QO)(y x:My)(r:Bool):Prop:=∀P w E Q,Q (.bool r) s->Re (model P w) A (richCompare .Lt y x) Q E s
def ql (l b) (xs ys) (n k) (dd de) (sl sm) (T:Nat->Prop)(r) :
  Meets (Builtin.«tuple.__lt__» #v[[.ref l,.ref b],[]])
   (λA R s=>s.heap.get? l=some #v[.type "tuple",dd,.seq xs n,sl]/\s.heap.get? b=some #v[.type "tuple",de,.seq ys k,sm]/\T 0 /\
    (∀j h1 (h2:j<ys.size),T j->∃e,EqAt A.in1 s xs[j] ys[j] e/\(e=true->T (j+1))/\(e=false->Jq A.in1 s xs[j] ys[j] r)) /\
    (∀j,T j->min xs.size ys.size<=j->r=decide (xs.size<ys.size))/\R (.ok<|.ret<|.bool r) s) :=
 .of_wp λP w A R s h=>by
  let(u,g,B,o,t):=s;let(hl,I,J,st,L,h):=h;have V:=NJ;have C:(xs.toList.zip ys.toList).length=min xs.size ys.size:=by simp
  wp_walk using AutoSeq1.wpAny_loadPart' hl,AutoSeq1.wpAny_loadPart' I,Pt _ (λa z p=>z.1=none/\p=#v[u,g,B,o,t]/\∃i,a=(xs.toList.zip ys.toList).drop i/\T i) _;case turn =>
   rintro ⟨y,x⟩ a z p ⟨c,rfl,i,f,v⟩
   have lt:i<(xs.toList.zip ys.toList).length:=by
    rcases QB i (xs.toList.zip ys.toList).length with q | q
    .exact q
    .rw[Nn q]at f;cases f
   rw[Bi lt]at f
   injection f with m d
   obtain rfl:=by simpa using AZ Prod.fst m
   obtain rfl:=by simpa using AZ Prod.snd m
   let(e,H,O,N):=st i (by lia) (by lia) v
   refine iD<|H P w _ _ ?_
   cases e with
   | true =>
    wp_walk
    exact#v[rfl,rfl,i+1,d,O rfl]
   | false =>
    have G:=λ{E Q} z=>N rfl P w E Q z
    wp_walk using G
    exact#v[_,rfl,h]
  case fin =>
   rintro ⟨U,S⟩ p ⟨c,rfl,i,f,v⟩
   simp only at c
   subst c
   have K:min xs.size ys.size<=i:=by
    rcases QB i (xs.toList.zip ys.toList).length with q | q
    .rw[Bi q]at f;cases f
    .exact C▸q
   wp_walk
   exact#v[_,rfl,by rw[L i v K ]at h;simpa [Builtin.Tuple.tupleCompareSizes] using h]
  case h =>
   exact#v[rfl,rfl,0,rfl,J]
theorem N9 :∀{vs} {xs} {as},ReadsAll h vs xs as->vs.length=xs.length
 | _,_,_,.nil=>rfl
 | _,_,_,.cons _ r=>by rw[qN,qN,N9 r]
theorem R1 :∀{vs} {xs} {as},ReadsAll h vs xs as->∀j h1 (h2:j<xs.length),∃bs,Reads h vs[j] xs[j] bs
 | _,_,_,.nil,j,h1,_=>absurd h1<|Nx _
 | _,_,_,.cons r rs,0,_,_=>#v[_,r]
 | _,_,_,.cons r rs,j+1,h1,h2=>R1 rs j (Nat.lt_of_succ_lt_succ h1)<|Nat.lt_of_succ_lt_succ h2
theorem kg:∀{xs},CD.canLayAll0 xs=true->∀x∈xs,x.canLay0=true/\x.depth<=CD.depthAll xs
 | [],_,x,c=>by cases c
 | y::ys,h,x,c=>by
  have d:y.canLay0=true/\CD.canLayAll0 ys=true:=by simpa [CD.canLayAll0] using h
  rcases oZ.1 c with rfl | c
  .exact#v[d.1,Nat.le_max_left _ _]
  .let(a,b):=kg d.2 x c;exact#v[a,uj b<|Nat.le_max_right _ _]
end L3
namespace L3
open PySem PySem.Spec PyProof.Rows L2

section
abbrev bW (h:QW)(z TI TO T:QN)(f:Bool):Prop :=
 h.get? z=some #v[.type "zip",none,.fields #[rawInt T,.bool f,.bool false,.ref TI,.ref TO],#[]]
section

variable {TI TO i2:QN}
def vC (hz:bW s.heap z TI TO T0 f)(hT:s.heap.get? T0=some oT):Re (model prog w) A (Builtin.SmallTypes.ownedTupleIsFree<|.ref z) (λr s'=>r=false/\∃g1,s'={ s with heap:=g1 }/\bW g1 z TI TO T0 true/\QW.SameBut z s.heap g1) E s:=by
 refine iD<|zF hz rfl rfl ?_;show Re _ _ (loadIfAlive ((T0:Int).toNat) >>= _) _ _ _;rw[yB];refine iD<|KP hT<|iD<|zF hz rfl rfl ?_;cases f with
 | true=>exact iO #v[rfl,s.heap,rfl,hz,QW.SameBut.refl _ _]
 | false =>exact iD (Dg hz (by simp) λg1 a s1=>iO #v[rfl,g1,rfl,a,s1])
def FH {Q:My->QO->Prop}(D:ZipApart z TI TO i1 i2 l1 l2)(hz:bW s.heap z TI TO T0 f)(hT:s.heap.get? T0=some oT)(hTI:IsPair s.heap TI (.ref i1) (.ref i2))
  (h1:y8 b1 s.heap i1 l1 k) (h2:y8 b2 s.heap i2 l2 k) (hl1:K5 b1 s.heap l1 xs) (hl2:K5 b2 s.heap l2 ys) (hx:xs[k]? = some x) (hy:ys[k]? = some y)
  (q:∀h',bW h' z TI TO T0 true->y8 b1 h' i1 l1 (k+1)->y8 b2 h' i2 l2 (k+1)->IsPair h' (~~~s) x y->h'.objs.size= ~~~s+1 ->
   (∀c o,c≠z->c≠i1->c≠i2->s.heap.get? c=some o->h'.get? c=some o)->Q (.ref (~~~s)) { s with heap:=h' }) :
  Re (model prog w) A (Builtin.«zip.__next__» #v[[.ref z],[]]) (λfin s'=>∃v,fin = .done (.ret v)/\Q v s') E s:=by
 show Re _ _ (field (.ref z) 2 >>= _) _ _ _;refine iD<|zF hz rfl rfl<|iD<|zF hz rfl rfl<|iD<|Ej hTI rfl<|iD (Dp (vC hz hT) (λr s' h=>?_)<|λ_ _ h=>h);let(rfl,B,rfl,m,s1):=h;simp only[yz];rw[<-Nt];refine iD ?_;simp only[OO];refine iD<|iD<|Ak<|iD (fO (h1.but s1.extBut D.i1z) (hl1.but s1.extBut D.l1z) hx λu t s2=>iO<|iO ?_);refine iD<|iD<|Ak<|iD (fO ((h2.but s1.extBut D.i2z).but s2.extBut D.i12.symm) ((hl2.but s1.extBut D.l2z).but s2.extBut D.l2i1) hy λa p d=>iO<|iO<|iO ?_);show Re _ _ (newTuple [x,y] >>= _) _ _ #v[a,s.gens,s.drawn,s.toks,s.os];refine iD<|Ob ?_;have b:a.objs.size=( ~~~s):=by rw[d.1,s2.1,s1.1]
 refine iO #v[_,rfl,?_];have p4:(a.push { cls:=.type "tuple",data:=.seq #[x,y] }).get? a.objs.size=some _:=ou _ rfl;rw[b]at p4 ⊢;exact q _ (jM _ (d.extBut _ _ D.i2z.symm<|s2.extBut _ _ D.i1z.symm m) ) ((t.but d.extBut D.i12).at λo e=>jM _ e) (p.at λo e=>jM _ e) p4 (by rw[AW,b]) λc o j i g e=>jM _<|(λc o j i g e=>d.extBut _ _ g<|s2.extBut _ _ i<|s1.extBut _ _ j e) c o j i g e
def Jw (hh:A.handled=none)(D:ZipApart z TI TO i1 i2 l1 l2)(hz:bW s.heap z TI TO T0 f)(hT:s.heap.get? T0=some oT)(hTI:IsPair s.heap TI (.ref i1) (.ref i2))
  (h1:y8 b1 s.heap i1 l1 k) (hl1:K5 b1 s.heap l1 xs) (hx:xs[k]? = none)
  (q:∀h' e,(∀c o,c≠z->c≠i1->c≠i2->s.heap.get? c=some o->h'.get? c=some o)->(∃o,h'.get? e=some o/\o.cls = .type "StopIteration")->E (.ref e) { s with heap:=h' }) :
  Re (model prog w) A (Builtin.«zip.__next__» #v[[.ref z],[]]) Q E s:=by show Re _ _ (field (.ref z) 2 >>= _) _ _ _;refine iD<|zF hz rfl rfl<|iD<|zF hz rfl rfl<|iD<|Ej hTI rfl<|iD (Dp (vC hz hT) (λr b h=>?_)<|λ_ _ h=>h);let(rfl,a,rfl,l,s1):=h;simp only[yz];rw[<-Nt];refine iD ?_;simp only[OO];refine iD<|iD<|Ak<|iD (tI hh (h1.but s1.extBut D.i1z) (hl1.but s1.extBut D.l1z) hx λg e s2 d=>q g e (λc o j i _ x=>s2 _ _ i<|s1.extBut _ _ j x) d)
def ZSt (h:QW)(z TI TO i1 i2:QN):Prop:=(IsZip h z TI TO .none/\∃a b,IsPair h TO a b)\/∃T o f,bW h z TI TO T f/\(h.get? T=some o/\o.cls = .type "tuple")/\T≠z/\T≠i1/\T≠i2
def ZSt.ty (x:ZSt h z TI TO i1 i2):∃o,h.get? z=some o/\o.cls = .type "zip":=by
 rcases x with ⟨h,_⟩ | ⟨T,o,f,h,_⟩
 .exact#v[_,h,rfl]
 .exact#v[_,h,rfl]
def ZSt.at (x:ZSt h z TI TO i1 i2)(k:∀b o,(b=z\/o.cls = .type "tuple")->h.get? b=some o->h'.get? b=some o):ZSt h' z TI TO i1 i2:=by
 rcases x with ⟨h,a,b,p⟩ | ⟨T,o,f,h,⟨d,c⟩,r⟩
 .exact .inl #v[k z _ (.inl rfl) h,a,b,k TO _ (.inr rfl) p]
 .exact .inr #v[T,o,f,k z _ (.inl rfl) h,#v[k T o (.inr c) d,c],r]
def Ez (D:ZipApart z TI TO i1 i2 l1 l2)(hs:ZSt s.heap z TI TO i1 i2)(hTI:IsPair s.heap TI (.ref i1) (.ref i2))
  (h1:y8 b1 s.heap i1 l1 k) (h2:y8 b2 s.heap i2 l2 k) (hl1:K5 b1 s.heap l1 xs) (hl2:K5 b2 s.heap l2 ys) (hx:xs[k]? = some x) (hy:ys[k]? = some y)
  (q:∀h',ZSt h' z TI TO i1 i2->y8 b1 h' i1 l1 (k+1)->y8 b2 h' i2 l2 (k+1)->IsPair h' (~~~s) x y->h'.objs.size= ~~~s+1 ->
   (∀c o,c≠z->c≠TO->c≠i1->c≠i2->s.heap.get? c=some o->h'.get? c=some o)->Q (some<|.ref (~~~s)) { s with heap:=h' }):Re (model prog w) A (pyNext<|.ref z) Q E s:=by
 have g:=hs.ty;have v:z<( ~~~s):=by let(o,e,_):=hs.ty;exact pz e
 rcases hs with ⟨m,a,b,n⟩ | ⟨T,o,f,m,⟨d,B⟩,n1,n2,n3⟩
 .exact iD (Fq (xW g Eu (xw Eu g Nm
   (wB D m hTI n h1 h2 hl1 hl2 hx hy λh' u H t r i p h=>iO<|q h' (.inr #v[_,_,false,u,#v[i,rfl],AS v,AS (by let(o,e,_):=h1.obj;exact pz e),AS (by let(o,e,_):=h2.obj;exact pz e) ]) t r i p h) (LG _))))
 .exact iD (Fq (xW g Eu (xw Eu g Nm
   (FH D m d hTI h1 h2 hl1 hl2 hx hy λh' u t r i p h=>iO<|q h' (.inr #v[T,o,true,u,#v[h T o n1 n2 n3 d,B],n1,n2,n3]) t r i p λc o G _ F C e=>h c o G F C e) (LG _))))
def Kn (hh:A.handled=none)(D:ZipApart z TI TO i1 i2 l1 l2)(hs:ZSt s.heap z TI TO i1 i2)(hTI:IsPair s.heap TI (.ref i1) (.ref i2))
  (h1:y8 b1 s.heap i1 l1 k) (h2:y8 b2 s.heap i2 l2 k) (hl1:K5 b1 s.heap l1 xs) (hl2:K5 b2 s.heap l2 ys) (hx:xs[k]? = none)
  (q:∀h',(∀c o,c≠z->c≠TO->c≠i1->c≠i2->s.heap.get? c=some o->h'.get? c=some o)->Q none { s with heap:=h' }):Re (model prog w) A (pyNext<|.ref z) Q E s:=by
 have j:=hs.ty;rcases hs with ⟨d,a,b,h⟩ | ⟨T,o,f,d,⟨g,i⟩,n1,n2,n3⟩
 .exact CO hh D d hTI h h1 h2 hl1 hl2 (.inl hx) q
 .refine iD (Fq<|xW j Eu<|xw Eu j Nm (Jw hh D d g hTI h1 hl1 hx ?_ )<|LG _);rintro h' e n ⟨l,m,i⟩;exact iD (KY #v[l,m,i] Od<|iO<|q _ λc o t _ r p e=>n c o t r p e)
structure Bel (S z TI TO i1 i2 l1 l2:Nat):Prop where
 a:z<S
 b:TI<S
 c:TO<S
 d:i1<S
 e:i2<S
 f:l1<S
 g:l2<S
end
end
section
def xS (l1 l2) (xs ys) :
  Meets (Builtin.«zip.__new__» #v[[.type "zip",.ref l1,.ref l2],[]]) (λ_ R s=>s.heap.IsTuple l1 xs/\s.heap.IsList l2 ys /\
   R (.ok<|.ret<|.ref (zg4 s.heap false true l1 l2).objs.size) { s with heap:=zg5 s.heap false true l1 l2 }) :=
 .of_wp λe w A R s h=>by
  let(j,g,d,c,f):=s;let(l,k,h):=h;have i:=sub_zip;have a:QW.IsList (QO.heap #v[j.push { cls:=.type "tuple_iterator",data:=.fields #[.ref l1,.int 0 0] },g,d,c,f]) l2 ys:=by let(o,m,r):=k;exact#v[o,jM _ m,r]
  wp_walk using Ld l,wpAny_pyIter_list a;exact#v[_,rfl,h]
section
variable {s:QO}
def rT (m1:s.heap.IsTuple l1 xs)(m2:s.heap.IsList l2 ys)
  (h:∀h',IsZip h' (~~~s+4) (~~~s+2) (~~~s+3) .none->IsPair h' (~~~s+2) (.ref (~~~s)) (.ref<|~~~s+1) ->
   IsPair h' (~~~s+3) .none .none->y8 false h' (~~~s) l1 0->y8 true h' (~~~s+1) l2 0->(∀c o,s.heap.get? c=some o->h'.get? c=some o)->Q (.ref<|~~~s+4) { s with heap:=h' }) :
  Re (model prog w) A (call (.type "zip") [.ref l1,.ref l2]) Q E s:=by
 refine callType_new PySem.F.called_zip (by decide) (PySem.F.typeCall_zip_2 _ _) (PySem.F.newCall_zip_2 _ _) (λobj=>PySem.F.args_object_init_3 obj _ _) PySem.F.entry_zip_new (xS l1 l2 xs ys) #v[m1,m2,?_];have n1:(zg1 s.heap false l1).objs.size= ~~~s+1:=AW ..;have n2:(zg2 s.heap false true l1 l2).objs.size= ~~~s+2:=by rw[AW,n1]
 have n3:(zg3 s.heap false true l1 l2).objs.size= ~~~s+3:=by rw[AW,n2]
 have n4:(zg4 s.heap false true l1 l2).objs.size= ~~~s+4:=by rw[AW,n3]
 have a:(zg5 s.heap false true l1 l2).get? (zg4 s.heap false true l1 l2).objs.size=some _:=ou _ rfl;have b:(zg5 s.heap false true l1 l2).get? (zg3 s.heap false true l1 l2).objs.size=some _:=jM _<|ou _ rfl;have d:(zg5 s.heap false true l1 l2).get? (zg2 s.heap false true l1 l2).objs.size=some _:=jM _<|jM _<|ou _ rfl;have e:(zg5 s.heap false true l1 l2).get? (zg1 s.heap false l1).objs.size=some _:=jM _<|jM _<|jM _<|ou _ rfl;rw[n2,n3,n4]at a;rw[n1,n2]at d;rw[n3]at b;rw[n1]at e;rw[n4];exact#v[#v[_,a,rfl],h _ a d b (#v[_,jM _<|jM _<|jM _<|jM _<|ou _ rfl,rfl,rfl]) (#v[_,e,rfl,rfl]) λc o x =>
  jM _ (jM _<|jM _<|jM _<|jM _ x)]
end
section
variable {K:Qf}
noncomputable def oG (a b:DE->M CD):DE->M (List CD):=λE F=>(a E F).bind λp=>(b E p.2).bind λr=>match p.1,r.1 with
 | .tuple xs,.list ys=>some (kT xs ys,r.2)
 | _,_=>none
def Bg (K:Qf)(tl:TA):TI:=λd H R=>tl d H λf c=>∃b a,f=[.ref b,.ref a]/\∃ys e,SqA false K c b ys/\SqA true K c a e/\R (Itz false true K b a) c
def BX (h1:Ev K X e1 te1 m1)(h2:Ev K X e2 te2 m2)(hm:X.mg "zip" = none)(hK:‹X.K=K›)(hg:‹Gl X "zip"›)(hs:‹QY [e1,e2] X.env=(false,eval e1 X.env)::QY [e2] X.env›)(hs2:‹QY [e2] X.env=[(false,eval e2 X.env)]›)(hp:‹(Rb pos<|QY [e2] X.env).any (·.1)=false›) :
  Ei K X (.Tuple es tk tp) (.Call (.Name "zip" p) [e1,e2] [] pos) (Bg K<|z9 te1<|z9 te2 T7) (oG m1 m2):=#v[(by
   subst hK;refine λb s i H R I h=>Call_ (Z2 I hg hm boot_zip<|Fw (thn ((r8 h1.pe (r8 h2.pe A3 hs2) hs) pos b s i H _ I h) ?_ ) hs hp);rintro us s1 ⟨vs,w,n,g,q1⟩;let(m,l,e,ys,zs,J,C,q):=q1;subst e;cases g with
   | cons r A =>
    cases A with
    | cons r' A =>
     cases A;cases r;cases r';let(f,ac,U):=SqA.get n J;let(d,ab,T):=SqA.get n C;have e1:m<( ~~~s1):=by let(o,z,_):=(U);exact pz z
     have e2:l<( ~~~s1):=by let(o,z,_):=(T);exact pz z
     refine rT (U) (T) λh' Y Q P M L hk=>?_
     refine wpAny_pyIter_zip Y #v[~~~s1+4,[~~~s1+4,~~~s1+2,~~~s1+3,~~~s1,~~~s1+1],_,_,w,rfl,n.kept hk,Dl false true m l _ _ _ _ _,#v[(by generalize (~~~s1)=N at e1 e2;exact zf e1 e2),Y,Q,#v[_,_,P],M,L],λc t=>?_,q];have j: ~~~s1<=c:=by simp only[oZ,MK]at t;generalize (~~~s1)=N at t;have t:=t;lia
     exact n.fpOk j<|n.hok.fresh j),λG B E F i H R ds F' I e q=>by
 obtain⟨⟨y,F1⟩,e1,e⟩:=bS9 e;obtain⟨⟨z,F2⟩,e2,e⟩:=bS9 e;refine h1.ok G B E F i H _ y F1 I e1 λv w W f1 g=>h2.ok G B E F1 i w _ z F2 (I.step W f1) e2 λu H2 V f2 S=>?_
 have g:=g.same<|V.hid I.fB;cases y with
 | tuple ys =>
  cases z with
  | list zs =>cases e;simp only[c6]at g S;let(a,xs,rfl,Z,hd):=g;let(a',x,rfl,k,O):=S;exact#v[a,a',rfl,xs,x,Z.same d9,SqL.of<|d9 _ _ k,q _ H2 (W.trans V) f2<|Jc λH3 B3 s=>#v[#v[(Z.same s).same d9,hd.same s],SqL.of<|d9 _ _<|s _ _ k,O.same s]]
  | _=>cases e
 | _=>cases e]
end
end
end L3
namespace L3
open PySem PySem.Spec PyProof.Rows L2 PySem.SeqAt
mutual
def ltW:CD->CD->Option Bool
 | .int i,.int j=>some<|decide (i<j)
 | .bool a,.bool b=>some (!a&&b)
 | .tuple xs,.tuple ys=>ltM xs ys
 | _,_=>none
def ltM:List CD->List CD->Option Bool
 | [],[]=>some false
 | [],_::_=>some true
 | _::_,[]=>some false
 | x::xs,y::ys=>if CD.eqv x y=true then ltM xs ys else ltW x y
end
def Lh (q:Q (.bool (!a&&b)) s):Re (model P w) A (richCompare .Lt (.bool a)<|.bool b) Q E s:=by
 refine lt_bool ?_;have e:decide (b2i a<b2i b)=(!a&&b):=by cases a <;> cases b <;> rfl
 rwa[e]
def cF:∀m da db A s a b as bs r,sizeOf da<m->Reads s.heap a da as->Reads s.heap b db bs->da.canLay0=true->db.canLay0=true ->
  A.units+min da.depth db.depth<Rl->ltW da db=some r->Jq A s a b r
 | 0,_,_,_,_,_,_,_,_,_,hm,_,_,_,_,_,_=>absurd hm<|Nx _
 | m+1,da,db,A,s,a,b,as,bs,r,hm,ra,rb,ha,hb,hu,hr=>by
  cases ra with
  | int i t =>
   cases rb with
   | int j u =>rw[ltW]at hr;cases hr;exact λP w E Q q=>lt_int q
   | _=>simp[ltW]at hr
  | bool a1 =>
   cases rb with
   | bool b1 =>rw[ltW]at hr;cases hr;exact λP w E Q q=>Lh q
   | _=>simp[ltW]at hr
  | tuple U T S I =>
   rename_i la oa B na c;cases rb with
   | tuple R O N D =>
    rename_i lb ob y nb d;rw[ltW]at hr;let(oc,od,dt,G):=oa;let(ab,H,ad,k):=ob;subst T S O N;have lx:=N9 I;have ly:=N9 D;rw[zq]at lx ly;have v:=ha;have p:=hb;have o:=hu;refine λP w E Q q=>richCompare_meets_room #v[_,U,rfl] #v[_,R,rfl] F.slot_tuple_lt F.entry_tuple_lt (F.args_tuple_lt_2 _ _)
     (ql la lb B y na nb od H G k (λj=>j<=min B.size y.size/\ltM (c.drop j) (d.drop j)=some r) r)
     #v[U,R,#v[CW _,hr],λj Y X K=>?_,λj K hj=>?_,#v[(λz=>nomatch z),q]] (room_here hu)
    .have n:j<c.length:=by lia
     have g:j<d.length:=by lia
     have e:=K.2;rw[Bi n,Bi g,ltM]at e;have W:=eqAt_readsAll c d A.in1 s B.toList y.toList _ _ I D v p (room_in o) j (by simpa using Y) (by simpa using X);have ep:pairEq c d j=CD.eqv c[j] d[j]:=by simp[pairEq,n,g]
     rw[ep]at W;refine#v[_,by simpa using W,λz=>#v[by lia,?_],λz=>?_]
     . rwa[nY z]at e
     .rw[oj (by rw[z];decide)]at e;let(M,r1):=R1 I j (by simpa using Y) n;let(L,Z):=R1 D j (by simpa using X) g;let(c1,d1):=kg v c[j]<|Ii n;let(c2,d2):=kg p d[j]<|Ii g;have ac:=NA<|Ii n;have V:sizeOf (CD.tuple c)=1+sizeOf c:=by simp
      have:=cF m c[j] d[j] A.in1 s _ _ M L r (by lia) (by simpa using r1) (by simpa using Z) c1 c2 (by have:=room_in o;have C:A.in1.units=A.units+1:=rfl;lia) e;simpa using this
    .let(t1,f):=K;rcases QB B.size y.size with z | z
     .rw[Nn (by lia),Bi (by lia),ltM]at f;cases f;exact(xq z).symm
     .have C:d.drop j=[]:=Nn (by lia);rw[C]at f;have er:r=false:=by
       cases h:c.drop j with
       | nil=>rw[h,ltM]at f;cases f;rfl
       | cons x l=>rw[h,ltM]at f;cases f;rfl
      rw[er];exact(yb<|by lia).symm
   | _=>simp[ltW]at hr
  | _=>simp[ltW]at hr
end L3
namespace L3
open PySem PySem.Spec PyProof.Rows L2 PySem.SeqAt PySem.W

section
section

def AI (l:Jq A s p q r)(h:Q r s):Re (model prog w) A (oneLt' false p q) Q E s :=
 kat_one p q (l prog w E _ h)
def qm :∀xs ys us vs as bs i fin,ReadsAll s.heap us xs as->ReadsAll s.heap vs ys bs->CD.canLayAll0 xs=true->CD.canLayAll0 ys=true ->
  A.units+min (CD.depthAll xs) (CD.depthAll ys)<Rl->ltM xs ys=some r->fin=decide (us.length<vs.length)->Q r s->KatLex prog w A false fin Q (us.zip vs) i s
 | [],[],us,vs,_,_,i,fin,b,a,_,_,_,hr,hf,q=>by
  cases b;cases a;rw[ltM]at hr;cases hr;subst hf;exact kat_nil (by simpa using q)
 | [],y::ys,us,vs,_,_,i,fin,b,a,_,_,_,hr,hf,q=>by
  cases b;cases a;rw[ltM]at hr;cases hr;subst hf;exact kat_nil (by simpa using q)
 | x::xs,[],us,vs,_,_,i,fin,b,a,_,_,_,hr,hf,q=>by
  cases b;cases a;rw[ltM]at hr;cases hr;subst hf;exact kat_nil (by simpa using q)
 | x::xs,y::ys,us,vs,_,_,i,fin,b,a,ha,hb,hu,hr,hf,q=>by
  cases b with
  | cons j b =>
   cases a with
   | cons h a =>
    have d:x.canLay0=true/\CD.canLayAll0 xs=true:=by simpa [CD.canLayAll0] using ha
    have c:y.canLay0=true/\CD.canLayAll0 ys=true:=by simpa [CD.canLayAll0] using hb
    have l:CD.depthAll (x::xs)=max x.depth (CD.depthAll xs):=rfl;have k:CD.depthAll (y::ys)=max y.depth (CD.depthAll ys):=rfl;rw[l,k]at hu;have f:A.units+min x.depth y.depth<Rl:=by lia
    rw[ltM]at hr;rw[Fo];refine kat_cons<|(eqAt_reads x y A s _ _ _ _ j h d.1 c.1 f) _ _ _ _<|kat_go (λe=>kat_yes ?_) (λe=>kat_no ?_)
    .rw[nY e]at hr;exact qm xs ys _ _ _ _ (i+1) fin b a d.2 c.2 (by lia) hr (by simpa using hf) q
    .rw[oj (by rw[e];decide)]at hr;exact AI (cF _ x y A s _ _ _ _ r (Gs _) j h d.1 c.1 f hr) q
def jW (ra:Reads s.heap u (.tuple xs) as)(rb:Reads s.heap v (.tuple ys) bs)(ha:CD.canLayAll0 xs=true)(hb:CD.canLayAll0 ys=true)
  (hu:A.units+min (CD.depthAll xs) (CD.depthAll ys)<Rl) (hr:ltM xs ys=some r) (q:Q r s):Re (model prog w) A (keyLt' (tuples' false) u v) Q E s:=by
 cases ra with
 | tuple f h e d =>
  cases rb with
  | tuple c g b a =>refine kat_lt f e c b<|qm xs ys _ _ _ _ 0 _ d a ha hb hu hr ?_ q;simp
def nF (ra:Reads s.heap u (.tuple xs) as)(rb:Reads s.heap v (.tuple ys) bs)(ha':CD.canLayAll0 xs=true)(hb':CD.canLayAll0 ys=true)
  (hu1:A.units+min (CD.depthAll xs+1) (CD.depthAll ys+1)<Rl) (hr:ltM xs ys=some r) (q:Q (.bool r) s):Re (model prog w) A (call (.builtin "tuple.__lt__") [u,v]) Q E s:=by
 cases ra with
 | tuple I H G o =>
  rename_i Z T f V;cases rb with
  | tuple O D C k =>
   rename_i Y S e U;let(oc,P,dt,m):=T;let(R,n,ab,d):=S;subst H G D C;have X:=N9 o;have W:=N9 k;rw[zq]at X W;refine NQ F.slot_tuple_lt #v[_,I,rfl] F.entry_tuple_lt (F.args_tuple_lt_2 _ _)
    (ql Z Y f e V U P n m d (λj=>j<=min f.size e.size/\ltM (xs.drop j) (ys.drop j)=some r) r)
    #v[I,O,#v[CW _,hr],λj L K t=>?_,λj t hj=>?_,q]
   .have g:j<xs.length:=by lia
    have c:j<ys.length:=by lia
    have a:=t.2;rw[Bi g,Bi c,ltM]at a;have J:=eqAt_readsAll xs ys A.in1 s f.toList e.toList _ _ o k ha' hb' (room_in hu1) j (by simpa using L) (by simpa using K);have ep:pairEq xs ys j=CD.eqv xs[j] ys[j]:=by simp[pairEq,g,c]
    rw[ep]at J;refine#v[_,by simpa using J,λz=>#v[by lia,?_],λz=>?_]
    . rwa[nY z]at a
    .rw[oj (by rw[z];decide)]at a;let(B,N):=R1 o j (by simpa using L) g;let(y,M):=R1 k j (by simpa using K) c;let(c1,d1):=kg ha' xs[j]<|Ii g;let(c2,d2):=kg hb' ys[j]<|Ii c;have:=cF _ xs[j] ys[j] A.in1 s _ _ B y r (Gs _) (by simpa using N) (by simpa using M) c1 c2 (by have:=room_in hu1;have i:A.in1.units=A.units+1:=rfl;lia) a;simpa using this
   .let(t1,b):=t;rcases QB f.size e.size with z | z
    .rw[Nn (by lia),Bi (by lia),ltM]at b;cases b;exact(xq z).symm
    .have i:ys.drop j=[]:=Nn (by lia);rw[i]at b;have er:r=false:=by
      cases h:xs.drop j with
      | nil=>rw[h,ltM]at b;cases b;rfl
      | cons x l=>rw[h,ltM]at b;cases b;rfl
     rw[er];exact(yb<|by lia).symm
def mr (ra:Reads s.heap u (.tuple xs) as)(rb:Reads s.heap v (.tuple ys) bs)(ha:CD.canLayAll0 xs=true)(hb:CD.canLayAll0 ys=true)
  (hu:A.units+min (CD.depthAll xs+1) (CD.depthAll ys+1)<Rl) (hr:ltM xs ys=some r) (q:Q r s):Re (model prog w) A (keyLt' oneType' u v) Q E s:=by
 rw[keyLt'_oneType,oneLt'_eq];simp only[Bc];refine iD (wpAny_cRoomFor_or (.inr<|by lia) ?_);refine iD (wpAny_callSpecialIfBound?_slot ((by
  cases ra with
  | tuple b a d c=>exact#v[_,b,a])) F.slot_tuple_lt<|nF ra rb ha hb hu hr ?_)
 exact Kl q
def my (ra:Reads s.heap u (.tuple xs) as)(rb:Reads s.heap v (.tuple ys) bs)(ha:CD.canLayAll0 xs=true)(hb:CD.canLayAll0 ys=true)
  (hu:A.units+min (CD.depthAll xs+1) (CD.depthAll ys+1)<Rl) (hr:ltM xs ys=some r) (q:Q r s):Re (model prog w) A (keyLt' general' u v) Q E s :=
 AI (cF _ (.tuple xs) (.tuple ys) A s _ _ _ _ r (Gs _) ra rb ha hb hu (by rwa[ltW])) q
end
end
section
def T4 (h:QW):List My->List (Option My)->Prop
 | [],[]=>True
 | v::vs,f::fs=>(∃a o b n,v = .ref a/\h.get? a=some o/\o.cls = .type "tuple" /\ o.data = .seq b n/\b[0]? = f)/\T4 h vs fs
 | _,_=>False
theorem T4.len :∀{vs} {fs},T4 h vs fs->vs.length=fs.length
 | [],[],_=>rfl
 | [],_::_,t=>t.elim
 | _::_,[],t=>t.elim
 | _::_,_::_,t=>by rw[qN,qN,T4.len t.2]
section
variable {M:Model}{s:QO}
theorem qH:∀vs fs {Q},T4 s.heap vs fs->Q fs s->Re M A (vs.mapM firstOfTuple') Q E s
 | [],[],_,_,h=>by rw[List.mapM_nil];exact iO h
 | [],_::_,_,t,_=>t.elim
 | _::_,[],_,t,_=>t.elim
 | v::vs,f::fs,Q,t,h=>by obtain⟨⟨a,o,i,n,rfl,b,g,e,d⟩,t⟩:=t;rw[Ka];refine iD ?_;rw[kas_first_eq];refine iD (Looks.here ((Looks.ld b).andThen .now) ?_);rw[g,oj (by first | decide | simp)];refine iD<|OG b e<|iO ?_;rw[d];exact iD (qH vs fs t<|iO h)
theorem mJ:∀{vs} {fs},T4 s.heap vs fs->∀v∈vs,Looks M s.heap (typeOf v) (.type "tuple")
 | [],[],_,v,hv=>by cases hv
 | [],_::_,t,_,_=>t.elim
 | _::_,[],t,_,_=>t.elim
 | v::vs,f::fs,t,u,b=>by
  rcases oZ.1 b with rfl | b
  .obtain⟨⟨a,o,e,n,rfl,c,d,h,g⟩,_⟩:=t;rw[<-d];exact(Looks.ld c).andThen .now
  .exact mJ t.2 u b
def lO (fs:List (Option My)):SortKind:=if fs.all (·.isSome) then tuples' false else if (fs.head?.bind id).isSome then general' else oneType'
def Ao (t:T4 s.heap vs fs)(hne:0<fs.length)(hT:∀f,some f∈fs->Looks M s.heap (typeOf f) (.type "tuple"))(h:Q (lO fs) s):Re M A (keyKind' vs.toArray) Q E s:=by
 unfold lO at h;rw[kat_kind_eq,Oa,QC];refine iD<|iD<|qH vs _ t<|iO ?_;by_cases b:fs.all (·.isSome)=true
 .rw[nY b]at h;rw[nY<|by simpa using b];refine iD<|JV ?_;obtain⟨d,rfl⟩:∃d:List My,fs=d.map some:=by
   refine#v[fs.filterMap id,?_];clear h t hT hne;induction fs with
   | nil=>rfl
   | cons f fs m =>rw[List.all_cons,Jz]at b;let(g,rfl):=Cc.1 b.1;simp only[List.filterMap_cons_some (f:=id) (a:=some g) rfl,kX];rw[<-m b.2]
  have j:((d.map some).toArray.filterMap id)=d.toArray:=by simp
  rw[j,oneTypeOnly'_eq,Oa,QC];refine iD (iD<|iD<|kas_mapM _ (λv e o i=>(hT v<|HM e).here i)<|iO ?_);have c:((List.map (λ_=>My.type "tuple") d).toArray.all λx=>x == My.type "tuple")=true:=by simp only[Qz,List.all_map,JG];intro _ _;rfl
  rw[jI]at hne;have k:(List.map (λ_=>My.type "tuple") d).toArray[0]? = some (.type "tuple"):=by
   match d,hne with
   | g::d,_=>simp
  rw[k];simp only[c];exact iO<|iO h
 .rw[oj b]at h;rw[oj<|by simpa using b];have n:fs.toArray[0]? = fs.head?:=by cases fs <;> simp
  rw[n];by_cases l:(fs.head?.bind id).isSome=true
  .rw[nY l]at h ⊢;exact iO h
  .rw[oj l]at h ⊢;have hl:=t.len;rw[oneTypeOnly'_eq,Oa,QC];refine iD (iD<|iD<|kas_mapM _ (λv e o i=>(mJ t v e).here i)<|iO ?_);have c:((List.map (λ_=>My.type "tuple") vs).toArray.all λx=>x == My.type "tuple")=true:=by simp only[Qz,List.all_map,JG];intro _ _;rfl
   have k:(List.map (λ_=>My.type "tuple") vs).toArray[0]? = some (.type "tuple"):=by
    match vs,(show 0<vs.length by lia) with
    | g::d,_=>simp
   rw[k];simp only[c];exact iO<|iO h
end
end
section
def ir (d:List CD):Prop:=CD.canLayAll0 d=true/\CD.depthAll d<=20/\∀x,d.head? = some x->∃e,x = .tuple e
def StK (κ:Nat->Int)(xs ys:List V):Prop:=ys.length=xs.length/\∃p,SoS κ p xs.length/\∀i,i<xs.length->ys[i]? = xs[p i]?
def IK (K:Frag):List V->Hp->VK->Prop:=λh H Q=>∃(a:QN) (c:List V) (b:List (List CD)) (e:Nat->Int),h=[.ref a]/\SqL K H a c/\c.length=b.length/\(∀(i:Nat) z d,c[i]? = some z->b[i]? = some d->c6 K H (.tuple d) z)/\(∀d∈b,ir d) /\
 (∀i j g f,i≠j->b[i]? = some g->b[j]? = some f->ltM g f=some (decide (e i < e j)))/\(bS b.length/\b.length<=5000)/\∀p ys,H p=none->StK e c ys->Q (.ref p) (upd H p<|.lst ys)
def bF :∀{vs} {ds:List (List CD)},vs.length=ds.length->(∀(i:Nat) v d,vs[i]? = some v->ds[i]? = some d->∃as,Reads h v (.tuple d) as)->(∀d∈ds,ir d) ->
  ∃fs,T4 h vs fs/\∀M f,some f∈fs->Looks M h (typeOf f) (.type "tuple")
 | [],[],_,_,_=>#v[[],True.intro,λ_ f b=>by cases b]
 | [],_::_,hl,_,_=>by simp at hl
 | _::_,[],hl,_,_=>by simp at hl
 | v::vs,d::ds,hl,hr,hg=>by
  let(fs,t,w):=bF (by simpa using hl) (λi v d y x=>hr (i+1) v d (by simpa using y)<|by simpa using x) λd u=>hg d<|kN _ u
  let(as,r):=hr 0 v d rfl rfl;cases r with
  | tuple s q p j =>
   rename_i a o c n;refine#v[c[0]? :: fs,#v[#v[a,o,c,n,rfl,s,q,p,rfl],t],λM f b=>?_];rcases oZ.1 b with e | b
   .have g:=(hg d ll).2.2;rw[<-zS]at e;generalize c.toList=us at j e;cases j with
    | nil=>simp at e
    | cons k A =>
     simp at e;subst e;let(z,rfl):=g _ rfl;cases k with
     | tuple m l C B =>rw[<-l];exact(Looks.ld m).andThen .now
   .exact w M f b
section
variable {K:Qf}
def sI (hK:X.K=K)(hu:X.A.units+64<Rl):w8 X (.builtin "sorted") (IK K):=by
 subst hK;intro T s σ H Z us Q I r h;let(a,C,m,κ,rfl,hq,a0,hD,Y,hK,am,q):=h;let(u,rfl,ru):=C5 r;cases ru;let(c,rv,p,hz):=I.list hq;have ac:c.length=C.length:=rv.length.symm;have item:∀(i:Nat) (v:My) (d:List CD),c[i]? = some v->m[i]? = some d->∃as,Reads s.heap v (.tuple d) as:=λi v d J M=>by
  have w:i<C.length:=by have:=(pG.1 J).1;lia
  let(u,W,e4):=rv.get<|qK w;rw[J]at W;cases W;exact E3 I _ _ _ (hD i _ d (qK w) M) e4
 let(fs,tF,hT):=bF (h:=s.heap) (by lia) item Y;have tK:∀{k:QW},(∀b o,s.heap.get? b=some o->k.get? b=some o)->∀{l} {fs},T4 s.heap l fs->T4 k l fs:=by
  intro k F l;induction l with
  | nil=>intro fs t;cases fs with | nil=>exact t | cons _ _=>exact t.elim
  | cons v l ih =>
   intro fs t;cases fs with
   | nil=>exact t.elim
   | cons f fs =>obtain⟨⟨a,o,Z,n,J,M,W⟩,t⟩:=t;exact#v[#v[a,o,Z,n,J,F _ _ M,W],ih t]
 refine lL (kd:=lO fs) (κ:=κ) p.isList (by lia) (by rw[show c.length=m.length by lia];exact am.1) (λh2 k Q' F V=>?_) (λk F=>?_) λA O a1 a2 a3=>?_
 .refine Ao (tK F tF) (by have:=tF.len;lia) (λf hf=>?_) V;let(g,ab,al):=bF (by lia) (λi v d J M=>let #v[as,r]:=item i v d J M;#v[as,JP F r]) Y;have:∀{l} {fs g},T4 k l fs->T4 k l g->fs=g:=by
   intro l;induction l with
   | nil =>
    intro fs g t N;cases fs with
    | cons _ _=>exact t.elim
    | nil =>
     cases g with
     | nil=>rfl
     | cons _ _=>exact N.elim
   | cons v l ih =>
    intro fs g t N;cases fs with
    | nil=>exact t.elim
    | cons f fs =>
     cases g with
     | nil=>exact N.elim
     | cons f' g =>obtain⟨⟨a,o,Z,n,J,M,W,e4,e5⟩,t⟩:=t;obtain⟨⟨a',o',an,n',B,G,g3,g4,g5⟩,N⟩:=N;rw[J]at B;cases B;rw[M]at G;cases G;rw[e4]at g4;cases g4;rw[<-e5,<-g5,ih t N]
  rw[this (tK F tF) ab]at hf;exact al _ f hf
 .intro i j x y ad ex ey E Q' V;rw[<-zS,pairsOf_toList,EO]at ex ey;have w:=(pG.1 ex.1).1;have hj:j<c.length:=(pG.1 ey.1).1;have di:m[i]? = some (m[i]'(by lia)):=qK (by lia);have dj:m[j]? = some (m[j]'(by lia)):=qK (by lia);let(as,S):=item i _ _ ex.1 di;let(bs,R):=item j _ _ ey.1 dj;have S:=JP F S;have R:=JP F R;have B:=Y _ (Ii<|show i<m.length by lia);have G:=Y _ (Ii<|show j<m.length by lia);have lt:=hK i j _ _ ad di dj;have U:X.A.in1.in1.units+min (CD.depthAll m[i]+1) (CD.depthAll m[j]+1)<Rl:=by have e:X.A.in1.in1.units=X.A.units+1+1:=rfl;have:=B.2.1;lia
  unfold lO;split
  .exact jW S R B.1 G.1 (by lia) lt V
  .split
   .exact my S R B.1 G.1 U lt V
   .exact mr S R B.1 G.1 U lt V
 .have D:=ac.symm;let(e,he):=sortedAll_at s.heap c A;have z:((List.range c.length).map λi=>C.getD (O i) .non).length=c.length:=by rw[jI,xB]
  have P:∀i,i<c.length->((List.range c.length).map λi=>C.getD (O i) .non)[i]? = C[O i]?:=λi w=>by rw[sq,IE w];have ap:=a3.2.2 i w;show some (C.getD (O i) .non)=_;rw[uE,qK<|by lia];rfl
  have I1:Inv X T σ (upd H (~~~s+1)<|.lst<|(List.range c.length).map λi=>C.getD (O i) .non) { s with heap:=sortedAll s.heap c A,toks:=s.toks } :=
   I.laid (λb o ho=>sortedAll_old ho) (KD _) #v[by rw[z,xD];lia,A.toList,e,M9 (by rw[z,atl A,a1]) (λi x u hx hu=>by
    have w:i<c.length:=by have:=(pG.1 hx).1;rwa [z]at this
    rw[P i w]at hx;rw[a2 i w]at hu;let(u',B,G):=rv.get hx;rw[B]at hu;rwa[<-rn hu]),by rw[he]]
  exact#v[.ref<|~~~s+1,_,I1,rfl,q _ _ (I.hok.fresh<|KD _) #v[by rw[z,D],O,by rwa[D],λi w=>P i<|by lia]]
end
end
end L3
namespace L3
open PySem PySem.Spec PyProof.Rows L2
section
def Q4 (c:Nat)(ps:List (CD×CD))(d:CD):Option CD:=(ps.find? λp=>decide (N5 c p.1=N5 c d)).map (·.2)
def G2 (c:Nat)(ps:List (CD×CD))(d e:CD):List (CD×CD):=if (Q4 c ps d).isSome then ps.map (λp=>if N5 c p.1=N5 c d then(p.1,e) else p) else ps++[(d,e)]
section
variable {K:Qf}
theorem jL :∀{c} {k},N5 c d=some k->c6 K H d v->∃b,v = .ref b/\(m8 c).At K H k b
 | 0,_,e,h=>wD e h
 | 1,_,e,h=>za e h
 | _+2,_,e,h=>qe e h
theorem wQ:∀c,(m8 c).dp<=8
 | 0=>by decide
 | 1=>by decide
 | _+2=>by show ai.dp<=8;decide
theorem zt:∀{ps} {xs},KVs K H c ps xs->xs.length=ps.length
 | [],_,h=>by cases h;rfl
 | _::_,_,#v[k,b,v,r,e,h1,h2,h3,h4]=>by rw[e,qN,qN,zt h4]
theorem cG:∀{ps} {xs},KVs K H c ps xs->∀x∈xs,(m8 c).At K H x.1 x.2.1
 | [],_,h,x,a=>by cases h;cases a
 | _::_,_,#v[k,b,v,r,e,h1,h2,h3,h4],x,a=>by
  rw[e]at a;rcases oZ.1 a with rfl | a
  .let(g,f,d):=jL h1 h2;cases f;exact d
  .exact cG h4 x a
theorem nQ (hk:N5 c d=some k):∀{ps} {xs},KVs K H c ps xs->(∃e v,Q4 c ps d=some e/\oW xs k=some v/\c6 K H e v)\/(Q4 c ps d=none/\oW xs k=none)
 | [],_,h=>by cases h;exact .inr #v[rfl,rfl]
 | p::ps,_,#v[k',b,v,r,e,h1,h2,h3,h4]=>by
  subst e;unfold Q4 oW;by_cases a:k'=k
  .subst a;refine .inl #v[p.2,v,?_,?_,h3]
   .rw[yT (by rw[h1,hk];exact xq rfl)];rfl
   .rw[yT (p:=λx:(m8 c).K×QN×V=>decide (x.1=k'))<|xq rfl];rfl
  .rw[zb (by rw[h1,hk];exact λz=>a<|rn<|xO z),zb (p:=λx:(m8 c).K×QN×V=>decide (x.1=k))<|λz=>a<|xO z];exact nQ hk h4
def uK (hk:N5 c d=some k)(he:c6 K H e v):∀{ps} {xs},KVs K H c ps xs ->
  KVs K H c (ps.map λp=>if N5 c p.1=N5 c d then(p.1,e) else p) (xs.map λx=>if x.1=k then(x.1,x.2.1,v) else x)
 | [],_,h=>by cases h;rfl
 | p::ps,_,#v[k',b,v',r,ex,h1,h2,h3,h4]=>by
  subst ex;rw[kX,kX];by_cases a:k'=k
  .rw[nY (by rw[h1,hk,a]),nY a];exact#v[k',b,v,_,rfl,h1,h2,he,uK hk he h4]
  .rw[oj (by rw[h1,hk];exact λz=>a<|rn z),oj a];exact#v[k',b,v',_,rfl,h1,h2,h3,uK hk he h4]
theorem vv (hk:N5 c d=some k)(hd:c6 K H d (.ref b))(he:c6 K H e v):∀{ps} {xs},KVs K H c ps xs->KVs K H c (ps++[(d,e)]) (xs++[(k,b,v)])
 | [],_,h=>by cases h;exact#v[k,b,v,[],rfl,hk,hd,he,rfl]
 | p::ps,_,#v[k',b',v',r,ex,h1,h2,h3,h4]=>by subst ex;exact#v[k',b',v',_,rfl,h1,h2,h3,vv hk hd he h4]
def Dt (h:KVs K H c ps xs)(hk:N5 c d=some k)(hd:c6 K H d (.ref b))(he:c6 K H e v):KVs K H c (G2 c ps d e) (jH xs k b v):=by
 unfold G2 jH;rcases nQ hk h with ⟨i,g,f,a,_⟩ | ⟨f,a⟩
 .rw[f,a,nY (show(some i).isSome=true from rfl),nY<|show(some g).isSome=true from rfl];exact uK hk he h
 .rw[f,a,oj (nofun),oj<|nofun];exact vv hk hd he h
theorem zc:∀{ps} {xs},KVs K H c ps xs->b9 K H (ps.map (·.1)) (xs.map λx=>.ref x.2.1)
 | [],_,h=>by cases h;exact b9.nil
 | _::_,_,#v[k,b,v,r,e,h1,h2,h3,h4]=>by subst e;exact b9.cons h2<|zc h4
end
section
variable {K:Qf}
def FAt.dict {x:Nat}{o} (h:FAt K G H F)(hf:a ∉ j6 K G)(ha:H a=some (.ext φ))(hs:gj a φ):FAt K G (upd H a o) F:=by
 refine#v[?_,λt l=>?_]
 .cases G with
  | none=>trivial
  | some q =>let(d,E):=q;exact Feeds.congr h.1 (h7 λz=>hf (by rw[<-z];simp[j6])) (h7 λz=>hf (by rw[<-z];simp[j6]))
 .let(k,b,n,m):=h.2 t l;refine#v[k,?_,n,λpos u q=>?_]
  . rwa[h7 λz=>by rw[z,ha]at b;cases b]
  .let(v,j,c):=m pos u q;refine#v[v,j,?_];rw[h7 λz=>?_]
   .exact c
   .rw[z,ha]at c;have e:φ = λh=>h.CodeRec (.ref a) (J8 t.1):=by have:=rn c;injection this
    let(B,n2,y,C,D,p,s):=hs;rw[e]at n2;let(I,A,i,w,r,f,g,_):=n2;cases r;rw[p]at f;cases f;rw[s]at g;cases g
def Sit.writeD {i}(S:Sit K G B0 H0 E F σ H)(s:∀b∈B0,b∈B)(sn:∀b∈B,b∈B0\/H0 b=none)(I:SitE K G B E F σ H)
  (ei:E[i]? = some (some<|DV.dic true c ps)) (si:σ[i]? = some (some<|V.ref x)) (hs:gj x φ') (hd:eP K (hid H B) c ps' x φ') :
  Sit K G B0 H0 (E.set i<|some<|.dic true c ps') F σ (upd H x<|.ext φ'):=by
 have hl:=(pG.1 ei).1;let(v,v1,x',xs,rfl,hB,hf,hx,hn,_):=I.loc i _ ei;rw[si]at v1;cases v1;have A:hid (upd H x<|.ext φ') B=hid H B:=iZ hB;obtain⟨⟨n1,n2⟩,n3⟩:=S.dic i c ps x ei si;refine#v[#v[B,s,sn,#v[I.fd.dict (x:=0) hf hx hn,I.fB,λb hb=>?_,by rw[As];exact I.ln,λj y a=>?_]],S.fB,λb o W nb=>?_,λj J g a D=>?_,λj k J R g a C D M=>?_,λj c' ac g a D=>?_]
 .by_cases h:b=x
  .subst h;exact#v[_,i3]
  .rw[h7 h];exact I.bk b hb
 .by_cases e:i=j
  .subst e;rw[sP hl]at a;cases a;exact#v[.ref x,si,x,φ',rfl,hB,hf,i3,hs,by rwa[A]]
  .rw[sv e]at a;let(w,Z,l):=I.loc j y a;refine#v[w,Z,?_];cases y with
   | dat d=>show c6 K (hid (upd H x _) B) d w;rwa[A]
   | feed=>exact l
   | fn _=>exact l
   | adr _=>exact l
   | fv _ _=>exact#v[l.1,l.2.1,by rw[A];exact l.2.2]
   | rdic _ _ =>let(a9,L,O,N,q4):=l;exact#v[a9,L,O,by rwa[A],by rwa[A]]
   | own J =>
    let(g,n,rfl,u,r,f,t):=l;exact#v[g,n,rfl,u,r,by rwa[h7 (λz=>by rw[z,hx]at f;cases f) ],by rwa[A]]
   | dic w9 c9 P =>
    let(g,n,rfl,u,r,f,Q,t):=l;have p:g≠x:=λz=>e<|n3 j w9 c9 P a<|z▸Z
    exact#v[g,n,rfl,u,r,by rwa[h7 p],Q,by rwa[A]]
 .rw[h7]
  .exact S.kp b o W nb
  .intro z;subst z;rw[n1]at W;cases W
 .by_cases e:i=j
  .subst e;rw[sP hl]at a;cases a
  .rw[sv e]at a;exact S.own j J g a D
 .by_cases e:i=j
  .subst e;rw[sP hl]at a;cases a
  .by_cases hk:i=k
   .subst hk;rw[sP hl]at C;cases C
   .rw[sv e]at a;rw[sv hk]at C;exact S.inj j k J R g a C D M
 .have m:∀j w X q,(E.set i<|some<|.dic true c ps')[j]? = some (some<|DV.dic w X q)->∃q,E[j]? = some (some<|DV.dic w X q):=λj w X q a=>by
   by_cases e:i=j
   .subst e;rw[sP hl]at a;cases a;exact#v[ps,ei]
   .rw[sv e]at a;exact#v[q,a]
  let(O,U):=m j _ _ _ a;let(h1,h2):=S.dic j c' O g U D;refine#v[h1,λk w' Y ab C M=>?_];let(N,T):=m k _ _ _ C;exact h2 k w' Y N T M
def cZ (i c:Nat):DE->M Out:=λE F=>if i<E.length then some (.nx<|E.set i<|some<|.dic true c [],F) else none
def oz (i c)(hN:X.N.Nodup)(h9:autoParam (c≠9) gC)(hi:‹X.N[i]? = some x›)(hx:autoParam (Loc X.env.scope x) gV)(hs:‹Rg (.Dict [] [] p) (some<|.Name x pos') pos.line X.env=pure false›)(hf:autoParam (X.fn x=true\/X.env.scope.names.lookup x=some .local) gV) :
  Ss K X (.Assign [.Name x pos'] (.Dict [] [] p) pos) (cf (HH<|m8 c)<|Q9 i) (cZ i c) :=
 #v[L6 hN hi hx (λg s j H Q I h =>
  wpAny_Dict_empty #v[.ref (~~~s),_,I.laid (λ_ _ q=>jM _ q) (qD _) (by have d:NDi (m8 c) (~~~s) [] (s.heap.push { cls:=.type "dict",data:=.dict #[] }):=#v[CW _,Me.2<|DO<|uu I.big,[],.nil,_,#[],0,ou _ rfl,#v[rfl,rfl,rfl],rfl,rfl,OP];rw[dH (m8 c) X.prog X.w]at d ⊢;exact d.obj),rfl,h _ (I.hok.fresh<|qD _) #v[_,oh I]]) hs hf,λG t m E F j H D r n S e q=>by
  unfold cZ at e
  split at e
  .rename_i hl
   cases e
   let(B,s,k,I):=S.ex
   intro a b f
   have r:iI K B H (upd H a<|.ext<|NDi (m8 c) a []) (.dic true c []) (.ref a):=#v[rfl,a,_,rfl,b,i3,let #v[_,z]:=f;z.n,.inl #v[h9,[],rfl,rfl]]
   exact q _ _ (S.putC s k I (Kp.upd b) (I.fd.same<|i5.upd b) r hl).1
  .cases e]
def V0 (E:DE)(i:Nat):Option (Bool×Nat×List (CD×CD)):=match E[i]? with
 | some (some<|.dic w c ps)=>some (w,c,ps)
 | _=>none
def J1 {i}(h:V0 E i=some (w,c,ps)):E[i]? = some (some<|DV.dic w c ps):=by
 unfold V0 at h;split at h
 .rename_i e;cases h;exact e
 .cases h
noncomputable def lV (i c:Nat)(v k:DE->M CD):DE->M Out:=λE F=>(v E F).bind λp=>(k E p.2).bind λq=>(V0 E i).bind λd=>if d.1=true/\d.2.1=c/\(N5 c q.1).isSome=true/\d.2.2.length<QX then some (.nx<|E.set i<|some<|.dic true c<|G2 c d.2.2 q.1 p.1,q.2) else none
def nJ (i c)(hu:X.A.units+9<Rl)(hv:Ev K X value te m)(hk:Ev K X e ty mb)(hK:X.K=K)(h9:autoParam (c≠9) gC)(hN:‹X.N[i]? = some x›)(hvis:autoParam (Vis X.env.scope x) kA)(hd:autoParam (nDb x) gC)(hcd:autoParam (nCd x) gC)
  (hs:‹Rg value (some<|.Subscript (.Name x px) e pos') pos.line X.env=pure false›) :
  Ss K X (.Assign [.Subscript (.Name x px) e pos'] value pos) (Hh (m8 c) K (P4 i) ty te) (lV i c m mb):=by
 subst hK;refine#v[(by intro f s j H D I h;refine Pi (thn (hv.pe f s j H _ I h) λr s1 #v[v,T,A,rv,q1]=>thn ((A9 hN hvis hd hcd) f s1 j T _ A q1) λu s2 #v[x,C,R,rx,q2]=>thn (hk.pe f s2 j C _ R q2) ?_ ) hs;rintro iv s3 ⟨y,H3,I3,ry,a,H4,ex,g,q3⟩;subst ex;obtain rfl:=rx;exact sR hu (wQ c) I3 g ry rv λs4 I4=>#v[j,H4,I4,q3 λU e=>#v[_,(I4.hok a _ e).1]]),λG B0 H0 E F j H D r F' S e q=>?_]
 obtain⟨⟨d,F1⟩,e1,e⟩:=bS9 e;obtain⟨⟨n,F2⟩,e2,e⟩:=bS9 e;obtain⟨⟨w,c',ps⟩,e4,e⟩:=bS9 e;walk_at "kb"
 rename_i hc;let(rfl,rfl,L,t):=hc;cases e;let(B,s,sn,I):=S.ex;have eo:=J1 e4;refine hv.ok G B E F j H _ d F1 I e1 λv T Y f1 h1=>?_
 have A:=I.step Y f1;let(u,V,a,U,rfl,hB,hf,J,hn,P):=A.loc i _ eo;let(o,rfl,O):=P.not9 h9;refine#v[_,V,hk.ok G B E F1 j T _ n _ A e2 λy C p f2 Z=>?_];have S2:=S.step (Y.trans p) f2;have l:=O.same<|p.hid I.fB;let(k,ek):=Cc.1 L;let(b,rfl,hb):=jL ek Z;have W:∀Q o,SqT X.K (hid C B) Q o->SqT X.K C Q o:=λQ o z=>z.same d9
 refine#v[a,_,rfl,#v[o,k,b,p a _ J hf,λx J=>(m8 c').keeps (cG l x J) W,rfl,(m8 c').keeps hb W,by rwa[zt l],rfl],λN=>?_];exact q j _ (S2.writeD s sn (A.step p f2) eo V (let #v[_,z]:=N _ i3;z.n)<|.inl #v[h9,_,rfl,Dt l ek Z<|h1.same<|p.hid I.fB])
noncomputable def lW (i c:Nat)(k:DE->M CD):DE->M CD:=λE F=>(k E F).bind λq=>(V0 E i).bind λd=>if d.2.1=c/\(N5 c q.1).isSome=true then(Q4 c d.2.2 q.1).bind λz=>some (z,q.2) else none
def wW (i c)(hu:X.A.units+9<Rl)(hk:Ev K X e ty mb)(hK:X.K=K)(hsl:EN e)(h9:autoParam (c≠9) gC)(hN:‹X.N[i]? = some x›)(hvis:autoParam (Vis X.env.scope x) kA)(hd:autoParam (nDb x) gC)(hcd:autoParam (nCd x) gC) :
  Ev K X (.Subscript (.Name x px) e pos) (Ho (m8 c) K (P4 i) ty) (lW i c mb):=by
 subst hK;refine#v[(by
  intro d s o H Q I h;refine wC PySem.F.slot_dict_getitem.lookup hsl (thn ((A9 hN hvis hd hcd) d s o H _ I h) λu s1 #v[x,H1,I1,W,Z]=>thn (hk.pe d s1 o H1 _ I1 Z) ?_ );rintro iv s2 ⟨y,A,t,V,a,v,ex,g,Y⟩;subst ex;obtain rfl:=W;let(f,k,b,e,_):=id g;exact#v[(AO t e).1,(by let(f,k,b,e,hk,rfl,kb,l):=g;cases(V);rw[dH (m8 c) X.prog X.w]at e;exact xo (CK hu<|wQ c) t e (λx j=>(m8 c).ok t<|hk x j) ((m8 c).ok t kb) l.symm<|λw' s3 I3 C=>#v[v,A,I3,C,Y])]),λG B E F o H Q r F' I e q=>?_]
 obtain⟨⟨n,F2⟩,e2,e⟩:=bS9 e;obtain⟨⟨w,T,ps⟩,e4,e⟩:=bS9 e;walk_at "kb"
 rename_i hc;let(rfl,J):=hc;let(z,p,e):=bS9 e;cases e;let(u,U,a,φ,rfl,hB,hf,j,hn,N):=I.loc i _ (J1 e4);let(f,rfl,L):=N.not9 h9;refine#v[_,U,hk.ok G B E F o H _ n _ I e2 λy A D f2 h2=>?_];have m:=L.same<|D.hid I.fB;let(k,S):=Cc.1 J;let(b,rfl,hb):=jL S h2;have R:∀P f,SqT X.K (hid A B) P f->SqT X.K A P f:=λP f z=>z.same d9
 rcases nQ S m with ⟨z',v,O,g2,g3⟩ | ⟨O,_⟩
 .rw[O]at p;cases p;exact#v[a,v,rfl,#v[f,k,b,D a _ j hf,λx j=>(m8 T).keeps (cG m x j) R,rfl,(m8 T).keeps hb R,g2.symm],q _ _ D f2 g3]
 .rw[O]at p;cases p
noncomputable def kM (i c:Nat)(k z:DE->M CD):DE->M CD:=λE F=>(k E F).bind λq=>(z E q.2).bind λr=>(V0 E i).bind λd=>if d.2.1=c/\(N5 c q.1).isSome=true then some ((Q4 c d.2.2 q.1).getD r.1,r.2) else none
def pF (i c)(hu:X.A.units+9<Rl)(hk:Ev K X e ty mb)(hz:Ev K X f tx mz)(hK:X.K=K)(m2:M2 X (.Name x px) "get" apos e f cpos)(h9:autoParam (c≠9) gC)(hN:‹X.N[i]? = some x›)(hvis:autoParam (Vis X.env.scope x) kA)(hd:autoParam (nDb x) gC)(hcd:autoParam (nCd x) gC) :
  Ev K X (.Call (.Attribute (.Name x px) "get" apos) [e,f] [] cpos) (Aa (m8 c) K (P4 i) ty tx) (kM i c mb mz):=by
 subst hK;refine#v[(by
  intro j s p H Q I h;refine wpAny_Call_method m2.base m2.few m2.line LS Oc PySem.F.type_dict_get (thn ((A9 hN hvis hd hcd) j s p H _ I h) ?_ );rintro u s1 ⟨x,H1,I1,rx,a,l,ex,d,q1⟩;subst ex;obtain rfl:=rx;let(t1,t2,_):=AO I1 d;refine#v[t1,t2,?_];rw[m2.trees];refine KB rfl (Oh (Jg (thn (hk.pe j s1 p H1 _ I1 q1) λiv s2 #v[y,V,I2,ry,q2] =>
   Jg (thn (hz.pe j s2 p V _ I2 q2) λfv s3 #v[z,L,I3,rz,ov,g,q3]=>NY (DQ hu (wQ c) I3 g ry rz λw' s4 I4 N=>#v[_,L,I4,N,q3]) ))))),λG B E F p H Q r F' I e q=>?_]
 obtain⟨⟨n,F2⟩,e2,e⟩:=bS9 e;obtain⟨⟨z,F3⟩,e3,e⟩:=bS9 e;obtain⟨⟨w,J,ps⟩,e4,e⟩:=bS9 e;walk_at "kb"
 rename_i hc;let(rfl,O):=hc;cases e;let(u,w1,a,φ,rfl,hB,D,m,hn,R):=I.loc i _ (J1 e4);let(l,rfl,P):=R.not9 h9;refine#v[_,w1,a,l,rfl,m,hk.ok G B E F p H _ n _ I e2 λy V A f2 h2=>hz.ok G B E F2 p V _ z _ (I.step A f2) e3 λy3 L t Y h3=>?_];have o:=(P.same<|A.hid I.fB).same<|t.hid I.fB;let(k,Z):=Cc.1 O;let(b,rfl,W):=jL Z<|h2.same<|t.hid I.fB;have C:∀U l,SqT X.K (hid L B) U l->SqT X.K L U l:=λU l z=>z.same d9
 rcases nQ Z o with ⟨z',v,T,S,g3⟩ | ⟨T,S⟩
 .refine#v[some v,#v[l,k,b,t a _ (A a _ m D) D,λx m=>(m8 J).keeps (cG o x m) C,rfl,(m8 J).keeps W C,S.symm],q _ _ (A.trans t) Y ?_];rwa[T]
 .refine#v[none,#v[l,k,b,t a _ (A a _ m D) D,λx m=>(m8 J).keeps (cG o x m) C,rfl,(m8 J).keeps W C,S.symm],q _ _ (A.trans t) Y ?_];rwa[T]
def ie (i c:Nat):DE->M CD:=λE F=>(V0 E i).bind λd=>if d.2.1=c then some (.list (d.2.2.map (·.1)),F) else none
def Mc (c:Nat):List V->Hp->VK->Prop:=λb H Q=>∃p a,b=[.ref p]/\H p=some (.ext<|NDi (m8 c) p a)/\∀l,H l=none->Q (.ref l) (upd H l<|.lst<|a.map λx=>.ref x.2.1)
def vI (i c)(hh:X.A.handled=none)(hm:X.mg "list" = none)(h9:autoParam (c≠9) gC)(hN:‹X.N[i]? = some x›)(hvis:autoParam (Vis X.env.scope x) kA)(hd:autoParam (nDb x) gC)(hcd:autoParam (nCd x) gC)
  (hv:Ri "list" = some (.type "list")) (hg:‹Gl X "list"›) (hs:‹QY [.Name x px] X.env=(false,eval (.Name x px) X.env)::QY [] X.env›) (hpl:‹(Rb pos<|QY [] X.env).any (·.1)=false›) :
  Ev K X (.Call (.Name "list" p) [.Name x px] [] pos) (tCB (Mc c)<|z9 (P4 i) T7) (ie i c) :=
 #v[ah (qL hh) hg hm hv (r8 (A9 hN hvis hd hcd) A3 hs) (by decide) (by decide) hs hpl,λG B E F t H Q r C I e q=>by
  obtain⟨⟨w,o,v⟩,h,b⟩:=bS9 e;by_cases g:o=c;case neg=>rw[oj g]at b;cases b
  rw[nY g]at b;subst g;cases b;let(u,k,a,s,rfl,A,z,m,y,f):=I.loc i _ (J1 h);let(j,rfl,d):=f.not9 h9;refine#v[_,k,a,j,rfl,m,λl hl=>q _ _ (Kp.upd hl) (I.fd.same<|i5.upd hl)<|G3 I.bk hl<|zc d]]
end
end
variable {ts:List (List CD)}{κ:Nat->Int}
section
def rX (d:List CD):List (List CD)->List (List CD)
 | []=>[d]
 | e::r=>if ltM e d=some true then e::rX d r else d::e::r
def fu:List (List CD)->List (List CD)
 | []=>[]
 | d::r=>rX d<|fu r
def nt (ts:List (List CD))(κ:Nat->Int):Prop:=(bS ts.length/\ts.length<=5000)/\(∀d∈ts,ir d)/\∀i j b a,i≠j->ts[i]? = some b->ts[j]? = some a->ltM b a=some (decide (κ i < κ j))
def kK:List CD->List (List CD)
 | []=>[]
 | .tuple d::r=>d::kK r
 | _::r=>kK r
theorem ay:∀ts,kK (ts.map .tuple)=ts
 | []=>rfl
 | d::r=>by rw[kX,kK,ay r]
open Classical in
def aY:List CD->Option CD
 | [.list ds]=>if ∃ts κ,ds=ts.map .tuple/\nt ts κ then some (.list<|(fu<|kK ds).map .tuple) else none
 | _=>none
def wK (h:nt ts κ):aY [.list<|ts.map .tuple]=some (.list<|(fu ts).map .tuple):=by unfold aY;dsimp only;rw[nY #v[ts,κ,rfl,h],ay]
theorem vt :∀{l},(∀q∈l,ltM q.2 p.2=some (decide (q.1<p.1)))->(Q7 p l).map Prod.snd=rX p.2 (l.map Prod.snd)
 | [],_=>rfl
 | q::r,h=>by
  have b:=h q ll;rw[Q7,kX,rX];by_cases a:p.1<=q.1
  .rw[nY a,oj (by rw[b];intro z;have:=xO<|rn z;lia)];rfl
  .rw[oj a,nY (by rw[b,xq<|by lia]),kX,vt λq c=>h q<|kN _ c]
theorem wz:∀{l},l.Pairwise (λp q=>ltM q.2 p.2=some (decide (q.1<p.1)))->(v6 l).map Prod.snd=fu (l.map Prod.snd)
 | [],_=>rfl
 | p::r,h=>by rw[xN]at h;rw[v6,kX,fu,<-wz h.2];exact vt λq a=>h.1 q<|(A0 r).mem_iff.mp a
def lI (h:nt ts κ):(v6<|((List.range ts.length).map κ).zip<|ts.map CD.tuple).map Prod.snd=(fu ts).map .tuple:=by
 have e:((List.range ts.length).map κ).zip (ts.map CD.tuple)=(((List.range ts.length).map κ).zip ts).map λq=>(q.1,CD.tuple q.2):=by rw[List.zip_map_right];rfl
 rw[e,aC CD.tuple,sJ];have d:(((List.range ts.length).map κ).zip ts).map Prod.snd=ts:=by refine List.map_snd_zip ?_;simp
 rw[show(Prod.snd ∘ λq:Int×List CD=>(q.1,CD.tuple q.2))=CD.tuple ∘ Prod.snd from rfl,<-sJ,wz,d];rw[Le];intro i j f b c;have a:j<ts.length:=by simpa using b
 simp only[List.getElem_zip,Mx,OH];exact h.2.2 j i _ _ (by lia) (qK a) (qK<|by lia)
theorem rA {K}:∀{ts:List (List CD)} {zs},b9 K H (ts.map .tuple) zs->∀(i:Nat) z d,zs[i]? = some z->ts[i]? = some d->c6 K H (.tuple d) z
 | [],zs,h,i,z,d,_,e=>by simp at e
 | t::ts,zs,h,i,z,d,e1,e2=>by
  rw[kX]at h;simp only[b9]at h;let(x,r,rfl,b,a):=h;cases i with
  | zero=>cases e1;cases e2;exact b
  | succ i=>exact rA a i z d (by simpa using e1) (by simpa using e2)
section
variable {K:Qf}
def pK (hK:X.K=K)(hu:X.A.units+64<Rl):w8 X (.builtin "sorted") (rDN K aY):=by
 rintro f s y H e us Q I r ⟨P,B,R,z,bk,G,c,q⟩;unfold aY at c;split at c;case h_2=>cases c
 rename_i N;split at c;case isFalse=>cases c
 rename_i E;cases c;let(ts,κ,rfl,k):=E;let(v,rfl,a,e,rfl,F,n):=cM G rfl;have b:e.length=ts.length:=by rw[n.length,jI]
 refine sI hK hu f s y H _ us Q I r #v[a,e,ts,κ,rfl,SqL.of<|d9 _ _ F,b,λi z d M L=>(rA n i z d M L).same d9,k.2.1,k.2.2,k.1,λp A t o=>?_];have J:cT ((List.range ts.length).map λi=>V.int<|κ i) e A:=by
  let(D,C,g,l):=o;have x:∀i,i<e.length->T2 ((List.range ts.length).map λi=>V.int<|κ i) i = κ i:=λi O=>by unfold T2;rw[uE,sq,IE<|by lia];rfl
  refine#v[D,C,#v[λi j m u=>?_,g.2.1,g.2.2],l];have:=g.1 i j m u;unfold Lx at this ⊢;rwa[x _<|g.2.2 i<|by lia,x _<|g.2.2 j u]
 have w:=ff J (by rw[jI,xB,b]);rw[sJ,show(iH ∘ λi=>V.int<|κ i) = κ from rfl]at w;subst w;have:=(jR (ns:=(List.range ts.length).map κ) n).sort.dats;rw[lI k]at this;rw[ay]at q;exact q _ _ (i5.upd t)<|G3 bk t this
end
end
end L3
namespace L3
open PySem PySem.Spec PyProof.Rows L2
variable {γ:Type}
section
def wp {α σ:Type}(m:Option (α × σ))(Q:α->σ->Prop):Prop:=∃a b,m=some (a,b)/\Q a b
section
variable {α σ:Type}{Q:α->σ->Prop}
def d8 :wp (some (a,F)) Q↔Q a F:=#v[λ#v[_,_,e,q]=>by cases e;exact q,λq=>#v[_,_,rfl,q]]
def A5 :wp (none:Option (α × σ)) Q↔False:=#v[λ#v[_,_,e,_]=>(by cases e),False.elim]
def c8 {f:β × τ->Option (α × σ)}:wp (x.bind f) Q↔wp x λa F'=>wp (f (a,F')) Q:=by
 constructor
 .rintro ⟨a,F',e,q⟩;obtain⟨⟨b,g⟩,d,c⟩:=bS9 e;exact#v[b,g,d,a,F',c,q]
 .rintro ⟨b,g,d,a,F',c,q⟩;exact#v[a,F',by rwa[d],q]
def B8 {o}{f:γ->Option (α × σ)}:wp (o.bind f) Q↔∃z,o=some z/\wp (f z) Q:=by
 constructor
 .rintro ⟨a,d,e,q⟩;let(z,c,b):=bS9 e;exact#v[z,c,a,d,b,q]
 .rintro ⟨z,c,a,d,b,q⟩;exact#v[a,d,by rwa[c],q]
def jo [Decidable c]:wp (if c then a else b) Q↔if c then wp a Q else wp b Q:=by split <;> rfl
def i4 (h:wp m Q)(hq:∀a F,Q a F->Q' a F):wp m Q':=by let(a,F,e,q):=h;exact#v[a,F,e,hq a F q]
def C1 (h:∀a F,Q a F↔Q' a F):wp m Q↔wp m Q':=#v[λz=>i4 z λa F q=>(h a F).1 q,λz=>i4 z λa F q=>(h a F).2 q]
def wj {P:γ->Prop}:(∃y,some z=some y/\P y)↔P z:=#v[λ#v[_,e,p]=>by cases e;exact p,λp=>#v[_,rfl,p]]
def G1 {F:FdS}{Q:CD->FdS->Prop}(h0:0<m)(h1:m<1073741824)(h2:F.t<199999)(q:∀r F',0<=r->r<m->F'.t=F.t+1->Q (.int r) F'):wp (J6 [.feed,.dat<|.int m] F) Q:=by let(r,F',e,b,a,c):=Fam.draw_some h0 h1 h2;exact#v[.int r,F',by show(Fam.drawF m F).bind _=_;rw[e];rfl,q r F' b a c]
end
def gD (o:Option (Option DV))(P:CD->Prop):Prop:=match o with
 | some (some<|.dat d)=>P d
 | _=>False
def gW (o:Option (Option DV))(P:CD->Prop):Prop:=match o with
 | some (some<|.dat d)=>P d
 | some (some<|.own ds)=>P<|.list ds
 | _=>False
def gF (o:Option (Option DV))(P:Prop):Prop:=match o with
 | some (some .feed)=>P
 | _=>False
def oB (o:Option γ)(P:γ->Prop):Prop:=∃z,o=some z/\P z
def cIf (c:Bool)(A B:Prop):Prop:=if c=true then A else B
def BN :cIf true A B↔A:=by simp[cIf]
def Bu :cIf false A B↔B:=by simp[cIf]
def X3 (h1:c=true->A)(h2:c=false->B):cIf c A B:=by
 cases c
 .exact Bu.2<|h2 rfl
 .exact BN.2<|h1 rfl
section
def l8 :wp (sC d E F) Q↔Q d F:=d8
def M5 :wp (sV i E F) Q↔gD E[i]? λd=>Q d F:=by
 unfold sV gD;generalize E[i]? = o;rcases o with _ | _ | x
 .exact A5
 .exact A5
 .cases x <;> first | exact d8 | exact A5
def x4 :wp (sW i E F) Q↔gW E[i]? λd=>Q d F:=by
 unfold sW gW;generalize E[i]? = o;rcases o with _ | _ | x
 .exact A5
 .exact A5
 .cases x <;> first | exact d8 | exact A5
def Gx :wp (s1 f a E F) Q↔wp (a E F) λx F1=>oB (f x) λz=>Q z F1:=by unfold s1;rw[c8];simp only[B8,d8,oB]
def v4 :wp (s2 f a b E F) Q↔wp (a E F) λx F1=>wp (b E F1) λy F2=>oB (f x y) λz=>Q z F2:=by unfold s2;rw[c8];refine C1 λx F1=>?_;rw[c8];refine C1 λy F2=>?_;simp only[B8,d8,oB]
def E5 :wp (sN f a E F) Q↔wp (a E F) λx F1=>oB (f x) λz=>Q z F1:=by unfold sN;rw[c8];simp only[B8,d8,oB]
def h8 :wp (j3 E F) Q↔Q [] F:=d8
def d6 :wp (d4 a r E F) Q↔wp (a E F) λx F1=>wp (r E F1) λxs F2=>Q (x::xs) F2:=by unfold d4;rw[c8];simp only[c8,d8]
def A8 :wp (K0 a E F) Q↔wp (a E F) λxs F1=>xs.length<=QX/\Q (.tuple xs) F1:=by
 unfold K0;rw[c8];constructor
 .exact λh=>i4 h λxs F1 h=>by
   split at h
   .rename_i hl;exact#v[hl,d8.1 h]
   .exact(A5.1 h).elim
 .exact λh=>i4 h λxs F1 h=>by rw[nY h.1];exact d8.2 h.2
def Bk :wp (FO a E F) Q↔wp (a E F) λxs F1=>xs.length<=QX/\Q (.list xs) F1:=by
 unfold FO;rw[c8];constructor
 .exact λh=>i4 h λxs F1 h=>by
   split at h
   .rename_i hl;exact#v[hl,d8.1 h]
   .exact(A5.1 h).elim
 .exact λh=>i4 h λxs F1 h=>by rw[nY h.1];exact d8.2 h.2
def l9 :wp (u8 E F) Q↔Q [] F:=d8
def O7 :wp (vD a r E F) Q↔wp (a E F) λx F1=>wp (r E F1) λxs F2=>Q (.dat x::xs) F2:=by unfold vD;rw[c8];simp only[c8,d8]
def dN :wp (vF i r E F) Q↔gF E[i]? (wp (r E F) λxs F2=>Q (.feed::xs) F2):=by
 unfold vF gF;generalize E[i]? = o;rcases o with _ | _ | x
 .exact A5
 .exact A5
 .cases x with
  | feed=>exact c8.trans (C1 λ_ _=>d8)
  | _=>exact A5
def l5 :wp (l6 f ms E F) Q↔wp (ms E F) λxs F1=>wp (f xs F1) Q:=by unfold l6;rw[c8]
def lH :wp (kY a l u E F) Q↔wp (a E F) λx F1=>wp (l E F1) λlo F2=>wp (u E F2) λhi F3=>oB (tJ lo hi x) λz=>Q z F3:=by unfold kY;rw[c8];refine C1 λx F1=>?_;rw[c8];refine C1 λy F2=>?_;rw[c8];refine C1 λy F2=>?_;simp only[B8,d8,oB]
def lY :wp (oNo E F) Q↔Q none F:=d8
def yK :wp (oI a E F) Q↔wp (a E F) λx F1=>oB (F0 x) λi=>Q (some i) F1:=by unfold oI;rw[c8];simp only[B8,d8,oB]
def AB :wp (Ap a b E F) Q↔wp (a E F) λx F1=>oB (dE x) λc=>cIf c (wp (b E F1) Q) (Q (.bool false) F1):=by unfold Ap;rw[c8];simp only[B8,jo,d8,oB,cIf]
def zN :wp (sIf c a b E F) Q↔wp (c E F) λx F1=>cIf x (wp (a E F1) Q) (wp (b E F1) Q):=by unfold sIf;rw[c8];simp only[jo,cIf]
def cj :wp (uB a E F) Q↔wp (a E F) λx F1=>oB (dE x) λc=>Q c F1:=by unfold uB;rw[c8];simp only[B8,d8,oB]
def EV :wp (uT a E F) Q↔wp (a E F) λx F1=>oB (FQ x) λc=>Q c F1:=by unfold uT;rw[c8];simp only[B8,d8,oB]
def Ay :wp (EY a b E F) Q↔wp (a E F) λx F1=>cIf x (wp (b E F1) Q) (Q false F1):=by unfold EY;rw[c8];simp only[jo,d8,cIf]
def GR :wp (uOr a b E F) Q↔wp (a E F) λx F1=>cIf x (Q true F1) (wp (b E F1) Q):=by unfold uOr;rw[c8];simp only[jo,d8,cIf]
def zV :wp (EU a E F) Q↔wp (a E F) λx F1=>Q (!x) F1:=by unfold EU;rw[c8];simp only[d8]
def jv :wp (R9 E F) Q↔Q true F:=d8
def cQ :wp (mNx E F) Q↔Q (.nx E) F:=d8
def sqK (b:DE->M Out)(Q:Out->FS->Prop)(o:Out)(F1:FS):Prop:=match o with
  | .nx E1=>wp (b E1 F1) Q
  | o=>Q o F1
def k7 (h:wp (b E1 F) Q):sqK b Q (.nx E1) F:=h
def Ae (h:Q (.rt d) F):sqK b Q (.rt d) F:=h
def r6 :wp (mSq a b E F) Q↔wp (a E F) (sqK b Q):=by
 unfold mSq;rw[c8];refine C1 λo c=>?_
 cases o with
 | nx e=>exact Iff.rfl
 | rt d=>exact d8
 | bk d=>exact d8
 | ct d=>exact d8
def O6 :wp (mRt a E F) Q↔wp (a E F) λx F1=>Q (.rt x) F1:=by unfold mRt;rw[c8];simp only[d8]
def y6 :wp (x6 i a E F) Q↔wp (a E F) λx F1=>i<E.length/\Q (.nx<|E.set i<|some<|.dat x) F1:=by
 unfold x6;rw[c8];refine C1 λx F1=>?_
 unfold bN;by_cases h:i<E.length
 .rw[nY h];simp only[B8,d8,wj,h,true_and]
 .rw[oj h];simp only[B8,h,false_and];exact#v[λ#v[_,e,_]=>(by cases e),False.elim]
def om :wp (oV bd a E F) Q↔wp (a E F) λx F1=>oB (bd x E) λE1=>Q (.nx E1) F1:=by unfold oV;rw[c8];simp only[B8,d8,oB]
def cV :wp (mIf c a b E F) Q↔wp (c E F) λx F1=>cIf x (wp (a E F1) Q) (wp (b E F1) Q):=by unfold mIf;rw[c8];simp only[jo,cIf]
def jG :wp (kW i a E F) Q↔wp (a E F) λx F1=>i<E.length/\Q (.nx<|E.set i<|some<|.own x) F1:=by
 unfold kW;rw[c8];refine C1 λx F1=>?_
 by_cases h:i<E.length
 .rw[nY h];simp only[d8,h,true_and]
 .rw[oj h];simp only[h,false_and];exact A5
def G8 :wp (Z0 mi bd body E F) Q↔wp (mi E F) λds F1=>wp (cS bd body ds E F1) Q:=by unfold Z0;rw[c8]
def U1 :wp (aZ a E F) Q↔wp (a E F) λx F1=>oB (aM x) λds=>Q ds F1:=by unfold aZ;rw[c8];simp only[B8,d8,oB]
def x8 :wp (M4 a E F) Q↔wp (a E F) λx F1=>oB (mn x) λds=>Q ds F1:=by unfold M4;rw[c8];simp only[B8,d8,oB]
def gZ :wp (oF a E F) Q↔wp (a E F) λx F1=>x.length<=QX/\Q x F1:=by
 unfold oF;rw[c8];constructor
 .exact λh=>i4 h λb F1 h=>by
   split at h
   .rename_i hl;exact#v[hl,d8.1 h]
   .exact(A5.1 h).elim
 .exact λh=>i4 h λb F1 h=>by rw[nY h.1];exact d8.2 h.2
def Di :wp (DS a b E F) Q↔wp (a E F) λx F1=>wp (b E F1) λy F2=>∃xs ys,x = .list xs/\y = .list ys/\xs.length+ys.length<=QX/\Q (xs++ys) F2:=by
 unfold DS;rw[c8];refine C1 λx F1=>?_;rw[c8];refine C1 λy F2=>?_
 constructor
 .intro h;dsimp only at h;split at h
  .rename_i xs ys;split at h
   .rename_i hl;exact#v[xs,ys,rfl,rfl,hl,d8.1 h]
   .exact(A5.1 h).elim
  .exact(A5.1 h).elim
 . rintro ⟨xs,ys,rfl,rfl,hl,q⟩;dsimp only;rw[nY hl];exact d8.2 q
def P1 {mt}:wp (sLC mi k cap bd mt me E F) Q↔wp (mi E F) λds F1=>ds.length<=QX/\wp (W1 bd mt me ds (lj k cap E) F1) λzs F2=>Q (.list zs) F2:=by
 unfold sLC;rw[c8];constructor
 .refine λh=>i4 h λds F1 h=>?_
  split at h
  .rename_i hl;rw[c8]at h;exact#v[hl,i4 h λzs F2 h=>d8.1 h]
  .exact(A5.1 h).elim
 .refine λh=>i4 h λds F1 h=>?_
  rw[nY h.1,c8];exact i4 h.2 λzs F2 h=>d8.2 h
def tZ (Q:CD->FS->Prop)(o:Out)(F1:FS):Prop:=match o with
  | .rt d=>Q d F1
  | .nx _=>Q .none F1
  | _=>False
def M0 (h:Q d F):tZ Q (.rt d) F:=h
def V2 :wp (R6 N m args F) Q↔wp (m (t9 N args) F) (tZ Q):=by
 unfold R6;rw[c8];refine C1 λo a=>?_
 cases o with
 | nx b=>exact d8
 | rt d=>exact d8
 | bk d=>exact A5
 | ct d=>exact A5
def M7 (h:o=some (some<|.dat d))(q:P d):gD o P:=by rwa[h]
def B9 (h:o=some (some<|.dat d))(q:P d):gW o P:=by rwa[h]
def du (h:o=some (some<|.own ds))(q:P (.list ds)):gW o P:=by rwa[h]
def dC (h:o=some (some .feed))(q:P):gF o P:=by rwa[h]
def d7 {o}{P:γ->Prop}(h:o=some z)(q:P z):oB o P:=#v[z,h,q]
def V8 (h:c=true)(q:A):cIf c A B:=by rw[h];exact BN.2 q
def w4 (h:c=false)(q:B):cIf c A B:=by rw[h];exact Bu.2 q
def v8 {n:Nat}(h:Nat.ble n 10000=true):n<=QX:=uj (Nat.le_of_ble_eq_true h) (by rw[xD];decide)
def i6 {n:Nat} (h:Nat.ble (i+1) n=true):i<n:=Nat.le_of_ble_eq_true h
end
def Tr (f:List DV->M CD)(args:List DV)(c:Int)(P:CD->Prop):Prop:=∀F:FdS,F.t+c<=199999->∃d a,f args F=some (d,a)/\a.t<=F.t+c/\P d
def Tr.wp {F:FdS}{Q:CD->FdS->Prop}(h:Tr f args c P)(hF:F.t+c<=199999)(q:∀d F',F'.t<=F.t+c->P d->Q d F'):wp (f args F) Q:=by let(d,F',e,a,p):=h F hF;exact#v[d,F',e,q d F' a p]
def Tr.of (h:∀F:FdS,F.t+c<=199999->L3.wp (f args F) λd F'=>F'.t<=F.t+c/\P d):Tr f args c P:=λF a=>by let(d,F',e,q):=h F a;exact#v[d,F',e,q]
mutual
def cnt:CD->Nat
 | .tuple ds=>1+gq ds
 | .list ds=>1+gq ds
 | _=>1
def gq:List CD->Nat
 | []=>0
 | d::ds=>cnt d+gq ds
end
def asc (x:Str):Prop:=∀c∈x.cps.toList,c<128
mutual
def scs (n:Nat):CD->Prop
 | .none=>True
 | .bool _=>True
 | .int i=>i.natAbs<10 ^ 300+n
 | .str x=>x.length<=600+n/\asc x
 | .tuple ds=>yM n ds
 | .list ds=>yM n ds
 | .dict _=>False
def yM (n:Nat):List CD->Prop
 | []=>True
 | d::ds=>scs n d/\yM n ds
end
theorem Z9 :∀{ds},yM n ds↔∀d∈ds,scs n d
 | []=>by simp[yM]
 | d::ds=>by simp[yM,Z9]
structure Gd n N k d:Prop where
 sc:scs n d
 dp:d.depth<=k
 ct:cnt d<=N
def Gd.mono (h:Gd n N k d)(h1:n=n'\/n<=n')(h2:N<=N')(h3:k<=k'):Gd n' N' k' d:=by
 refine#v[?_,uj h.dp h3,uj h.ct h2];have o:n<=n':=by rcases h1 with h | h <;> lia
 have e:∀m,∀d,sizeOf d<m->scs n d->scs n' d:=by
  intro m;induction m with
  | zero=>intro d h;exact absurd h<|Nx _
  | succ m f =>
   intro d g a;cases d with
   | none=>trivial
   | bool b=>trivial
   | int i=>simp only[scs]at a ⊢;lia
   | str x=>simp only[scs]at a ⊢;exact#v[by lia,a.2]
   | tuple l =>simp only[scs]at a ⊢;rw[Z9]at a ⊢;exact λd c=>f d (by have:=NA c;simp at g;lia)<|a d c
   | list l =>simp only[scs]at a ⊢;rw[Z9]at a ⊢;exact λd c=>f d (by have:=NA c;simp at g;lia)<|a d c
   | dict j=>simp only[scs]at a
 exact e _ d (Gs _) h.sc
theorem Y3 :∀{ds},CD.depthAll ds<=k↔∀d∈ds,d.depth<=k
 | []=>by simp[CD.depthAll]
 | d::ds=>by have:=Y3 (k:=k) (ds:=ds);simp only[CD.depthAll,oZ,forall_eq_or_imp];rw[<-this];lia
def Gd.tup {M}(h:∀d∈ds,Gd n M k d)(hc:1+gq ds<=N):Gd n N (k+1) (.tuple ds):=by
 refine#v[?_,?_,?_]
 .simp only[scs];rw[Z9];exact λd a=>(h d a).sc
 .simp only[CD.depth];have:=Y3.2 λd a=>(h d a).dp
  lia
 .simp only[cnt];exact hc
def Gd.lst {M}(h:∀d∈ds,Gd n M k d)(hc:1+gq ds<=N):Gd n N (k+1) (.list ds):=by let(a,b,c):=Gd.tup h hc;exact#v[a,b,c]
def w9c{F}{r}{Q} (h:E[i]? = some (some<|.dat d))(q:wp (r E F) λxs F2=>Q (d::xs) F2):wp (d4 (sV i) r E F) Q:=d6.2<|M5.2<|M7 h q
def w9d{F}{f}{Q} (h:E[i]? = some (some .feed))(q:wp (f [.feed,.dat d] F) Q):wp (l6 f (vF i<|vD (sC d) u8) E F) Q:=l5.2<|dN.2<|dC h<|O7.2<|l8.2<|l9.2 q
def w9g{F}{Q} (h:E[i]? = some (some<|.dat d))(q:Q d F):wp (sV i E F) Q:=M5.2<|M7 h q
def w9i{F}{c}{a b r}{Q} (q:wp (c E F) λx F1=>cIf x (wp (a E F1)<|sqK r Q)<|wp (b E F1)<|sqK r Q):wp (mSq (mIf c a b) r E F) Q:=r6.2<|cV.2 q
def w9l{F}{f}{a}{r}{Q} (q:wp (a E F) λx F1=>wp (r E F1) λxs F2=>wp (f (.dat x::xs) F2) Q):wp (l6 f (vD a r) E F) Q:=l5.2<|O7.2 q
def w9q{F}{a}{b}{Q} (q:wp (a E F) λx F1=>i<E.length/\sqK b Q (.nx<|E.set i<|some<|.dat x) F1):wp (mSq (x6 i a) b E F) Q:=r6.2<|y6.2 q
def w9s{F}{b}{Q} (h:E[i]? = some (some<|.dat d))(q:wp (b E F) λy F2=>oB (f d y) λz=>Q z F2):wp (s2 f (sW i) b E F) Q:=v4.2<|x4.2<|B9 h q
def w9v{F}{r}{Q} (h:E[i]? = some (some<|.dat d))(q:wp (r E F) λxs F2=>Q (.dat d::xs) F2):wp (vD (sV i) r E F) Q:=O7.2<|M5.2<|M7 h q
def w9w{F}{Q} (h:E[i]? = some (some<|.dat d))(q:Q d F):wp (sW i E F) Q:=x4.2<|B9 h q
end
section
structure Nod (d:CD):Prop where
 sh:d.showable=true
 nd:d.hasDict=false
 cl:d.canLay0=true
 ln:d.shown.length+2<=7100*cnt d
def Mi :(∀d∈ds,Nod d)->CD.showableAll ds=true/\CD.hasDictAll ds=false/\CD.canLayAll0 ds=true/\((CD.shownAll ds).map (·.length)).sum+2*ds.length<=7100*gq ds:=by
 induction ds with
 | nil=>intro _;exact#v[by simp[CD.showableAll],by simp[CD.hasDictAll],by simp[CD.canLayAll0],by simp[CD.shownAll]]
 | cons d ds g =>
  intro h;let(a,b,c,e):=g λx i=>h x<|kN _ i
  have f:=h d ll;refine#v[by simp[CD.showableAll,f.sh,a],by simp[CD.hasDictAll,f.nd,b],by simp[CD.canLayAll0,f.cl,c],?_];simp only[CD.shownAll,kX,CP,qN,gq];have:=f.ln;lia
def IT (hn:n<=100):∀m,∀d,sizeOf d<m->scs n d->Nod d:=by
 intro m;induction m with
 | zero=>intro d h;exact absurd h<|Nx _
 | succ m l =>
  intro d o f;cases d with
  | none=>exact#v[rfl,rfl,rfl,by decide]
  | bool b=>exact#v[rfl,rfl,rfl,by cases b <;> decide]
  | int i =>
   simp only[scs]at f;have r:i.natAbs<2 ^ 1001:=uz f ((by
    have w:=(by have h:((10) ^ 3) ^ 100<=(2 ^ 10) ^ 100:=Nat.pow_le_pow_left (by decide) 100;rwa [<-Nat.pow_mul,<-Nat.pow_mul]at h)
    have p:(2) ^ 1001=2 ^ 1000+2 ^ 1000:=by rw[Nat.pow_succ,Nat.mul_two]
    have v:(2) ^ 7<=2 ^ 1000:=ES (by decide) (by decide);have u:(2) ^ 7=128:=by decide
    rw[p];generalize (10) ^ 300=A at *;generalize (2) ^ 1000=B at *;lia))
   have:=Shw.int r (by decide) (by decide);exact#v[this.sh,this.nd,rfl,by have:=this.ln;simp only[cnt];lia]
  | str x =>
   simp only[scs]at f;refine#v[rfl,rfl,?_,?_]
   .simp only[CD.canLay0,CD.strOk];rw[Array.all_eq_true'];intro c k;have:=f.2 c (by simpa using k);exact xq (by lia)
   .have p:=PySem.StrLaws.reprText_len x λc k=>uz (f.2 c k) (by decide)
    simp only[CD.shown,cnt];lia
  | tuple j =>
   simp only[scs]at f;rw[Z9]at f;let(a,b,c,e):=Mi λd g=>l d (by have:=NA g;simp at o;lia)<|f d g
   refine#v[by simpa only[CD.showable] using a,by simpa only[CD.hasDict] using b,by simpa only[CD.canLay0] using c,?_];have t:=tupleText_len_le<|CD.shownAll j;have s:=CD.shownAll_length j;simp only[CD.shown,cnt];lia
  | list j =>
   simp only[scs]at f;rw[Z9]at f;let(a,b,c,e):=Mi λd g=>l d (by have:=NA g;simp at o;lia)<|f d g
   refine#v[by simpa only[CD.showable] using a,by simpa only[CD.hasDict] using b,by simpa only[CD.canLay0] using c,?_];have t:=listText_len_le<|CD.shownAll j;have s:=CD.shownAll_length j;simp only[CD.shown,cnt];lia
  | dict q=>simp only[scs]at f
section

def Gd.nod (h:Gd n N k d)(hn:n<=100):Nod d:=IT hn _ d (Gs _) h.sc
def Gd.repr (h:Gd n N k d)(hn:n<=100)(hN:N<=2000)(hk:k<=50):dP d=true:=by have a:=h.nod hn;unfold dP;rw[a.sh,a.nd];have e:=a.ln;have c:=h.ct;have b:=h.dp;simp;constructor <;> lia
def Gd.shaped (h:Gd n N k d)(hn:n<=100)(hk:k<=50):PySem.SeqAt.shaped d=true:=by unfold PySem.SeqAt.shaped;rw[(h.nod hn).cl];have a:=h.dp;simp;lia
def mV (h:i.natAbs<10 ^ 300+n):Gd n 1 0 (.int i):=#v[h,by simp[CD.depth],by simp[cnt]]
end
end
section
section

def K3 :N4 (.int i) (.int j)=some (.int<|i+j):=rfl
def jX :lq (.int i) (.int j)=some (.int<|i-j):=rfl
def qR :gtD (.int i) (.int j)=some (.bool<|decide (j<i)):=rfl
def gN :dy [.tuple ds]=some (.int ds.length):=rfl
def Dc :dy [.list ds]=some (.int ds.length):=rfl
def gS :M6 [.list ds]=some (.tuple ds):=rfl
def xA :F0 (.int i)=some i:=rfl
def uR {lo}:tJ lo hi (.tuple ds)=some (.tuple<|bD ds lo hi):=rfl
def Ax {lo}:tJ lo hi (.list ds)=some (.list<|bD ds lo hi):=rfl
def S5 :mn (.tuple ds)=some ds:=rfl
def P6 :mn (.list ds)=some ds:=rfl
def BG :iM [.bool b]=some (.int<|if b then 1 else 0):=rfl
end
end
end L3
set_option hygiene false
local macro_rules | `(tactic| walk_at "st")=>`(tactic| first | (with_reducible first | refine L3.k7 ?_ | refine L3.Ae ?_ | refine L3.M0 ?_ | refine L3.r6.2 ?_ | refine L3.cV.2 ?_ | refine L3.y6.2 ?_ | refine L3.O6.2 ?_ | refine L3.cQ.2 ?_ | refine L3.Ay.2 ?_ | refine L3.GR.2 ?_ | refine L3.zV.2 ?_ | refine L3.cj.2 ?_ | refine L3.EV.2 ?_ | refine L3.jv.2 ?_ | refine L3.v4.2 ?_ | refine L3.Gx.2 ?_ | refine L3.E5.2 ?_ | refine L3.l8.2 ?_ | refine L3.M5.2 ?_ | refine L3.x4.2 ?_ | refine L3.h8.2 ?_ | refine L3.d6.2 ?_ | refine L3.A8.2 ?_ | refine L3.Bk.2 ?_ | refine L3.l9.2 ?_ | refine L3.O7.2 ?_ | refine L3.dN.2 ?_ | refine L3.l5.2 ?_ | refine L3.lH.2 ?_ | refine L3.lY.2 ?_ | refine L3.yK.2 ?_ | refine L3.AB.2 ?_ | refine r_sOr.2 ?_ | refine r_sNot.2 ?_ | refine L3.zN.2 ?_ | refine L3.om.2 ?_ | refine L3.jG.2 ?_ | refine L3.G8.2 ?_ | refine L3.U1.2 ?_ | refine L3.x8.2 ?_ | refine L3.gZ.2 ?_ | refine L3.Di.2 ?_ | refine L3.P1.2 ?_) | ((with_reducible refine L3.V2.2 ?_);try dsimp only[L3.t9,kX,Cq,qN,Ee,List.replicate,yS,zY,Nat.reduceAdd,Nat.reduceSub]) | ((with_reducible apply L3.M7);exact rfl) | ((with_reducible apply L3.B9);exact rfl) | ((with_reducible apply L3.du);exact rfl) | ((with_reducible apply L3.dC);exact rfl) | ((with_reducible apply L3.d7);first | exact e_isin | exact rfl) | ((with_reducible refine And.intro (L3.v8 ?_) ?_);exact rfl) | ((with_reducible refine And.intro (L3.i6 ?_) ?_);exact rfl;try dsimp only[List.set_cons_zero,Qm]))
local macro_rules | `(tactic| walk_at "rd")=>`(tactic| (repeat walk_at "st"))
local macro_rules | `(tactic| walk_at "ty")=>`(tactic| first | refine L3.w4 L3.gz ?_ | refine L3.w4 L3.iC ?_ | refine L3.w4 L3.jr ?_ | refine L3.w4 L3.jN ?_ | refine L3.w4 L3.iK ?_ | refine L3.w4 L3.mZ ?_ | refine L3.V8 L3.qG ?_ | refine L3.V8 L3.tH ?_ | refine L3.w4 L3.tj ?_ | refine L3.w4 L3.qx ?_ | refine L3.w4 L3.qy ?_ | refine L3.w4 L3.uH ?_ | refine L3.V8 L3.xX ?_ | refine L3.w4 L3.xk ?_ | refine L3.w4 L3.um ?_ | refine L3.w4 L3.rl ?_ | refine L3.w4 L3.ud ?_ | refine L3.w4 L3.yl ?_ | refine L3.V8 L3.xK ?_ | refine L3.w4 L3.tu ?_ | refine L3.w4 L3.nO ?_ | refine L3.w4 L3.rN ?_ | refine L3.w4 L3.tU ?_ | refine L3.w4 L3.tm ?_ | refine L3.V8 L3.qJ ?_ | refine L3.V8 L3.lg ?_ | refine L3.w4 L3.ox ?_ | refine L3.w4 L3.pR ?_ | refine L3.w4 L3.qj ?_ | refine L3.w4 L3.nc ?_)
local macro_rules | `(tactic| walk_at "go")=>`(tactic| (repeat first | walk_at "st" | walk_at "ty"))
namespace L3
open PySem PySem.Spec PyProof.Rows L2
def gz:isT "NoneType" "tuple" = false:=by decide +kernel
def iC:isT "NoneType" "bool" = false:=by decide +kernel
def jr:isT "NoneType" "int" = false:=by decide +kernel
def jN:isT "NoneType" "str" = false:=by decide +kernel
def iK:isT "NoneType" "list" = false:=by decide +kernel
def mZ:isT "bool" "tuple" = false:=by decide +kernel
def qG:isT "bool" "bool" = true:=by decide +kernel
def tH:isT "bool" "int" = true:=by decide +kernel
def tj:isT "bool" "str" = false:=by decide +kernel
def qx:isT "bool" "list" = false:=by decide +kernel
def qy:isT "int" "tuple" = false:=by decide +kernel
def uH:isT "int" "bool" = false:=by decide +kernel
def xX:isT "int" "int" = true:=by decide +kernel
def xk:isT "int" "str" = false:=by decide +kernel
def um:isT "int" "list" = false:=by decide +kernel
def rl:isT "str" "tuple" = false:=by decide +kernel
def ud:isT "str" "bool" = false:=by decide +kernel
def yl:isT "str" "int" = false:=by decide +kernel
def xK:isT "str" "str" = true:=by decide +kernel
def tu:isT "str" "list" = false:=by decide +kernel
def nO:isT "list" "tuple" = false:=by decide +kernel
def rN:isT "list" "bool" = false:=by decide +kernel
def tU:isT "list" "int" = false:=by decide +kernel
def tm:isT "list" "str" = false:=by decide +kernel
def qJ:isT "list" "list" = true:=by decide +kernel
def lg:isT "tuple" "tuple" = true:=by decide +kernel
def ox:isT "tuple" "bool" = false:=by decide +kernel
def pR:isT "tuple" "int" = false:=by decide +kernel
def qj:isT "tuple" "str" = false:=by decide +kernel
def nc:isT "tuple" "list" = false:=by decide +kernel
def sz (h:n<=100000):n<=QX:=uj h (by rw[xD];decide)
def B6 {body:DE->M Out}{Q:Out->FdS->Prop}(I:Nat->DE->FdS->Prop):∀items n E F,I n E F ->
  (∀i d,items[i]? = some d->∀E F,I (n+i) E F->∃E1,bd d E=some E1/\wp (body E1 F) λo F'=>∃E2,o = .nx E2/\I (n+i+1) E2 F')->(∀E F,I (n+items.length) E F->Q (.nx E) F)->wp (cS bd body items E F) Q
 | [],n,E,F,h,_,hq=>d8.2<|hq E F h
 | d::r,n,E,F,h,st,hq=>by
  let(E1,g,c):=st 0 d rfl E F h;rw[cS,g,tV,c8];refine i4 c ?_;rintro o j ⟨E2,f,b⟩
  subst f;refine B6 I r (n+1) E2 j b (λi d e E F a=>?_) (λE F a=>hq E F (by rw[qN];rwa[show n+(r.length+1)=n+1+r.length by lia]));have:=st (i+1) d (by simpa using e) E F (by rwa[show n+(i+1)=n+1+i by lia]);rwa[show n+(i+1)+1=n+1+i+1 by lia]at this
def FP {lo}:(iE lo n).length=n:=by simp[iE]
def Mu (h:yJ i j):Y2 (.int i) (.int j)=some (.int<|i*j):=nY<|.inl h
def qF (h1:i.natAbs<oA)(h2:j.natAbs<oA):Y2 (.int i) (.int j)=some (.int<|i*j):=nY<|.inr #v[h1,h2]
def BY (h1:j≠0)(h2:j.natAbs<2 ^ 9000):df (.int i) (.int j)=some (.int<|i.fdiv j):=nY #v[h1,h2]
def jO (h1:0<j)(h2:j.natAbs<2 ^ 9000):df (.int i) (.int j)=some (.int<|i / j):=by rw[BY (by lia) h2,Qp i<|by lia]
def Cz (h1:0<j):yR (.int i) (.int j)=some (.int<|i % j):=nY h1
section
variable {Q:CD->FdS->Prop}
def zO (h:dP d=true):lF [d]=some (.str d.shown):=nY h
def Jm (h:xs.length+ys.length<=100000):N4 (.list xs) (.list ys)=some (.list<|xs++ys):=nY<|sz h
def LX (h:xs.length+ys.length<=100000):N4 (.tuple xs) (.tuple ys)=some (.tuple<|xs++ys):=nY<|sz h
abbrev W8:List CD:=[.str "first",.str "last",.str "short",.str "front",.str "lastoff",.str "shortoff",.str "frontoff",.str "turns"]
def fb:List DV->M CD:=R6 ["rule"]<|mRt<|s2 (inD false) (sW 0)<|sC<|.tuple [.str "first",.str "last",.str "short",.str "front"]
def kb:CD->Bool
 | .str x=>(([.str "first",.str "last",.str "short",.str "front"]:List CD)).any λy=>CD.eqv y<|.str x
 | _=>false
def in4 (h:SeqAt.shaped (.str x)=true):inD false (.str x) (.tuple [.str "first",.str "last",.str "short",.str "front"])=some (.bool<|kb<|.str x):=by show(if SeqAt.shaped (.tuple [.str "first",.str "last",.str "short",.str "front"])=true/\SeqAt.shaped (.str x)=true then _ else none)=_;rw[nY #v[by decide +kernel,h],oj<|by decide];rfl
def U5 (h:r∈W8):∃x,r = .str x/\SeqAt.shaped (.str x)=true:=by simp only[oZ,MK,Qc]at h;rcases h with rfl | rfl | rfl | rfl | rfl | rfl | rfl | rfl <;> exact#v[_,rfl,by decide +kernel]
def vn (h:r∈W8)(q:Q (.bool<|kb r) F):wp (fb [.dat r] F) Q:=by let(x,rfl,a):=U5 h;unfold fb;walk_at "go";refine d7 (in4 a) ?_;walk_at "go";exact q
end
section
variable {F:FdS}{Q:Out->FdS->Prop}
def qc {v:DE->M CD}(he:Y1 E i=some ds)(hl:ds.length<=100000)(q:wp (v E F) λx F1=>Q (.nx<|E.set i<|some<|.own<|ds++[x]) F1):wp (kI i v E F) Q:=by
 unfold kI;rw[c8];refine i4 q λx F1 h=>?_
 rw[he,tV,nY<|xr hl (by rw[xD];decide)];exact d8.2 h
def JX {a:DE->M CD}{Q:List CD->FdS->Prop}(q:wp (a E F) λx F1=>oB (mn x) λds=>Q (ak 0 ds) F1):wp (vB a E F) Q:=by
 unfold vB;rw[c8];refine i4 q λx F1 h=>?_
 let(ds,e,q):=h;rw[e,tV];exact d8.2 q
def HE {mt}{Q:List CD->FdS->Prop}(h:wp (mi E F) λds F1=>ds.length<=QX/\wp (W1 bd mt me ds (lj k cap E) F1) λzs F2=>Q zs F2):wp (fLC mi k cap bd mt me E F) Q:=by
 unfold fLC;rw[c8];refine i4 h λds F1 h=>?_
 rw[nY h.1,c8];exact i4 h.2 λzs F2 h=>d8.2 h
end
def zW {Sh:DE->Prop}{P:CD->CD->Prop}(hc:0<=c):∀ds E (F:FdS) (Q:List CD->FdS->Prop),Sh E ->
  (∀d∈ds,∀E,Sh E->∃E1,bd d E=some E1/\Sh E1/\∀F:FdS,F.t+c<=199999->wp (me E1 F) λy F'=>F'.t<=F.t+c/\P d y)->F.t+c*ds.length<=199999 ->
  (∀zs F',zs.length=ds.length->(∀z∈zs,∃d∈ds,P d z)->F'.t<=F.t+c*ds.length->Q zs F')->wp (W1 bd R9 me ds E F) Q
 | [],E,F,Q,_,_,_,q=>d8.2 (q [] F rfl (λz a=>by cases a)<|by simp)
 | d::ds,E,F,Q,hE,st,hF,q=>by
  have l:c*((d::ds).length)=c*ds.length+c:=by rw[qN];push_cast;rw[Int.mul_add,Int.mul_one]
  have s:0<=c*ds.length:=Int.mul_nonneg hc (by lia);rw[l]at hF q;let(E1,k,j,i):=st d ll E hE;rw[W1,k,tV,c8];refine jv.2 ?_;rw[nY rfl,c8];refine i4 (i F<|by lia) ?_;rintro y o ⟨r,f⟩
  rw[c8];refine zW hc ds E1 o _ j (λd h=>st d<|kN _ h) (by lia) λzs n hl a p=>d8.2 (q _ n (by simp[hl]) (λz b=>?_)<|by lia)
  rcases oZ.1 b with rfl | b
  .exact#v[d,ll,f]
  .let(m,e,g):=a z b;exact#v[m,kN _ e,g]
def KW {P:CD->CD->Prop}{rest:DE}{F:FdS}{Q:List CD->FdS->Prop}(ds) (o) (hc:0<=c)
  (st:∀d∈ds,∀F:FdS,F.t+c<=199999->wp (me (some (.dat d)::rest) F) λy F'=>F'.t<=F.t+c/\P d y) (hF:F.t+c*ds.length<=199999)
  (q:∀zs F',zs.length=ds.length->(∀z∈zs,∃d∈ds,P d z)->F'.t<=F.t+c*ds.length->Q zs F'):wp (W1 (bN 0) R9 me ds (o::rest) F) Q :=
 zW (Sh:=λE=>∃o,E=o::rest) hc ds _ F Q #v[o,rfl] (λd a E #v[o,e]=>by subst e;exact#v[_,rfl,#v[_,rfl],st d a]) hF q
theorem fw :∀{ds},(∀d∈ds,cnt d<=c)->gq ds<=c*ds.length
 | [],_=>by simp[gq]
 | d::ds,h=>by
  have e:=h d ll;have b:=fw λd a=>h d<|kN _ a
  rw[gq,qN,Nat.mul_add,Nat.mul_one];lia
def BU {b:DE->M Out}{Q:Out->FdS->Prop}(I:DE->FdS->Prop)(μ:DE->Nat)
  (st:∀E F,I E F->wp (c E F) λt F1=>cIf t (wp (b E F1) λo F2=>∃E2,o = .nx E2/\I E2 F2 /\ μ E2 < μ E)<|Q (.nx E) F1):∀n E F,I E F->μ E<n->wp (fJ c b n E F) Q
 | 0,E,F,_,h=>absurd h<|Nx _
 | n+1,E,F,hI,h=>by
  rw[fJ,c8];refine i4 (st E F hI) λt F1 a=>?_
  cases t with
  | false=>rw[Bu]at a;rw[oj<|by simp];exact d8.2 a
  | true =>
   rw[BN]at a;rw[nY rfl,c8];refine i4 a ?_;rintro o F2 ⟨E2,e,d,f⟩
   subst e;exact BU I μ st n E2 F2 d (by lia)
def KH {b:DE->M Out}{Q:Out->FdS->Prop}(I:DE->FdS->Prop)(μ:DE->Nat)(h0:I E F)
  (st:∀E F,I E F->wp (c E F) λt F1=>cIf t (wp (b E F1) λo F2=>∃E2,o = .nx E2/\I E2 F2 /\ μ E2 < μ E)<|Q (.nx E) F1):wp (mWh c b E F) Q:=by let(o,a,e,q):=BU I μ st (μ E+1) E F h0<|Gs _;exact#v[o,a,JH e,q]
def vx {a:DE->M (List CD)}{F:FdS}{Q:Out->FdS->Prop}(q:wp (a E F) λxs F1=>∃x y,xs=[x,y]/\i<E.length/\j<E.length/\Q (.nx<|(E.set i<|some<|.dat x).set j<|some<|.dat y) F1):wp (tO i j a E F) Q:=by
 unfold tO;rw[c8];refine i4 q λxs F1 h=>?_
 let(x,y,rfl,c,b,q):=h;simp only[bN,c,Bc,tV,As,b];exact d8.2 q
def KA :yq [.int i]=some (.int (i.natAbs:Int)):=by show some (CD.int<|if i<0 then -i else i)=_;congr 2;split <;> lia
def D3:List DV->M CD:=R6 ["one","other"] (mSq (tO 0 1<|d4 (sN yq<|d4 (sW 0) j3)<|d4 (sN yq<|d4 (sW 1) j3) j3)
  (mSq (mWh (uB<|s2 gtD (sW 1)<|sC<|.int 0)<|tO 0 1<|d4 (sV 1)<|d4 (s2 yR (sW 0)<|sW 1) j3)
  (mRt<|sV 0)))
def Ht {Q:CD->FdS->Prop}(q:Q (.int (Int.gcd a b:Nat)) F):wp (D3 [.dat<|.int a,.dat<|.int b] F) Q:=by
 unfold D3;walk_at "go";refine vx ?_;walk_at "go";have c:∀z,(if z<0 then -z else z)=z.natAbs:=λz=>by split <;> lia
 rw[c a,c b];refine#v[_,_,rfl,i6 rfl,i6 rfl,k7 ?_];walk_at "go";refine KH (λE g=>g=F/\∃x y:Nat,E=[some<|.dat<|.int x,some<|.dat<|.int y]/\Nat.gcd x y=Int.gcd a b) (λE=>match E with
  | [_,some<|.dat<|.int y]=>y.natAbs
  | _=>0) #v[rfl,a.natAbs,b.natAbs,rfl,rfl] ?_
 rintro E j ⟨rfl,x,y,rfl,f⟩;walk_at "go";refine X3 (λe=>?_) (λe=>?_)
 .have d:=xO e;refine vx ?_;walk_at "go";refine d7 (Cz d) ?_;walk_at "go";refine#v[_,_,rfl,i6 rfl,i6 rfl,_,rfl,#v[rfl,y,x % y,rfl,?_],?_]
  .rw[<-f,QD x y,Nat.gcd_rec y x,QD]
  .show((x:Int) % y ).natAbs<(y:Int).natAbs;have i:=PQ x (b:=y ) (by lia);have h:=OL x d;lia
 .have d:y=0:=by have:=Ig e;lia
  subst d;refine k7 ?_;walk_at "go";rw[Nat.gcd_zero_right]at f;rwa[f]
def Q1:List DV->M CD:=R6 ["top","bottom","divisor"] (mSq (x6 2<|l6 D3<|vD (sV 0)<|vD (sV 1) u8)
  (mSq (mIf (uB<|s2 ltD (sW 1)<|sC<|.int 0) (x6 2<|s1 tw<|sW 2) mNx)
  (mRt<|K0<|d4 (s2 df (sW 0)<|sW 2)<|d4 (s2 df (sW 1)<|sW 2) j3)))
structure Low (i j t b:Int):Prop where
 pos:0<b
 low:Int.gcd t b=1
 as:t*j=i*b
 lt:t.natAbs<=i.natAbs
 lb:b.natAbs<=j.natAbs
def ot (hj:0<j):Low i j (i / (Int.gcd i j:Int)) (j / (Int.gcd i j:Int)):=by
 have a:0<Int.gcd i j:=Qd i (by lia);have d:(Int.gcd i j:Int) ∣ i:=QE ..;have c:(Int.gcd i j:Int) ∣ j:=Pe ..;refine#v[Int.ediv_pos_of_pos_of_dvd hj (by lia) c,Int.gcd_ediv_gcd_ediv_gcd a,?_,Int.natAbs_ediv_le_natAbs ..,Int.natAbs_ediv_le_natAbs ..];have b:(Int.gcd i j:Int)≠0:=by lia
 generalize (Int.gcd i j)=g at *;let(x,rfl):=d;let(y,rfl):=c;have a:=b;rw[Int.mul_ediv_cancel_left x a,Int.mul_ediv_cancel_left y a,OM g y,<-Os,OM g x,Os x g y,OM g y,<-Os]
def tX {Q:CD->FdS->Prop}(hj:j≠0)(hb:j.natAbs<2 ^ 9000)(q:∀t b,Low i j t b->Q (.tuple [.int t,.int b]) F):wp (Q1 [.dat<|.int i,.dat<|.int j] F) Q:=by
 unfold Q1;walk_at "go";refine Ht ?_;have s:=Qd i hj;have a:Int.gcd i j<=j.natAbs:=KR (by lia)<|Int.ofNat_dvd_left.1<|Pe ..;refine#v[i6 rfl,k7 ?_];walk_at "go";refine X3 (λe=>?_) (λe=>?_)
 .have hj:=xO e;walk_at "go";have c:(-((Int.gcd i j):Int)).natAbs<2 ^ 9000:=by rw[Int.natAbs_neg];exact xr a hb
  have g:-((Int.gcd i j):Int)≠0:=by lia
  refine d7 (BY g c) ?_;walk_at "go";refine d7 (BY g c) ?_;walk_at "go";rw[Int.fdiv_eq_ediv_of_dvd (Int.neg_dvd.2<|QE ..),Int.fdiv_eq_ediv_of_dvd (Int.neg_dvd.2<|Pe ..) ];exact q _ _ ((by
   have h:=ot (i:=-i) (j:=-j) (by lia);rw[Int.neg_gcd,Int.gcd_neg]at h;let(m,l,k,f,d):=h;have o:i / (-(Int.gcd i j) ) = -i / (Int.gcd i j):=by rw[Int.ediv_neg,Int.neg_ediv_of_dvd<|QE ..]
   have n:j / (-(Int.gcd i j) ) = -j / (Int.gcd i j):=by rw[Int.ediv_neg,Int.neg_ediv_of_dvd<|Pe ..]
   rw[o,n];refine#v[m,l,?_,by rwa[Int.natAbs_neg]at f,by rwa[Int.natAbs_neg]at d];rw[Int.mul_neg,Int.neg_mul]at k;lia))
 .walk_at "go";have c:=xr a hb;refine d7 (jO (by lia) c) ?_;walk_at "go";refine d7 (jO (by lia) c) ?_;walk_at "go";exact q _ _<|ot (by have:=Ig e;lia)
def Hg {n:Nat}{i:Int}(h0:0<=i)(h1:i<n):ixN n i=some i.toNat:=by unfold ixN;rw[nY h0,nY h1]
def HX (h0:-(2 ^ 62)<=i)(h1:i<2 ^ 62):aM [.int i]=some (iE 0 i.toNat):=nY #v[h0,h1]
def Ai (h:n<=100000):aM [.int (n:Nat)]=some (iE 0 n):=by have e:=HX (i:=n ) (by lia) (by lia);rwa [yB]at e
def pr (p:Int×Int):CD:=.tuple [.int p.1,.int p.2]
theorem aL:∀ns,G7 (ns.map .int)=some ns
 | []=>rfl
 | n::ns=>by rw[kX,G7,aL ns];rfl
def kj {ns:List Int}:dh [.list<|ns.map .int]=some (.int ns.sum):=by simp only[dh,aL,Nw]
def xb (xs:List Int)(k:Int):Int:=if 0<=k/\k<xs.length then xs.getD k.toNat 0 else 0
def Kk {xs:List Int}{k:Int}(h0:0<=k)(h1:k<xs.length):atI (xs.map CD.int) k=some (.int<|xb xs k):=by
 unfold atI xb;rw[jI,Hg h0 h1,tV,nY #v[h0,h1],sq];have a:k.toNat<xs.length:=by lia
 simp[qK a]
def qd (q:Rat):CD:=.tuple [.int q.num,.int ((q.den:Nat):Int)]
def AF (h:Low i j t b)(hj:0<j):CD.tuple [.int t,.int b]=qd (mkRat i j.toNat):=by
 let(k,d,c,_,_):=h;have a:b.toNat≠0:=by lia
 have g:t.natAbs.Coprime b.toNat:=by
  have:b.toNat=b.natAbs:=by lia
  rwa[this]
 have f:(#v[t,b.toNat,a,g])=mkRat t b.toNat:=by rw[Rat.mk_eq_mkRat]
 have e:mkRat t b.toNat=mkRat i j.toNat:=by rw[QF a<|by lia];rwa[show((j.toNat:Nat))=j by lia,show((b.toNat:Nat))=b by lia]
 rw[<-e,<-f];unfold qd;simp only;rw[show((b.toNat:Nat))=b by lia]
def uA {Q:CD->FdS->Prop}(hj:0<n)(hb:n<2 ^ 9000)(q:Q (qd<|mkRat i n) F):wp (Q1 [.dat<|.int i,.dat<|.int (n:Nat)] F) Q :=
 (tX (by lia) (by lia) λt b h=>by rw[AF h<|by lia];exact (by rwa[yB]))
def p4 (h:n<2 ^ 4000):n<oA:=uz h ((by rw[vi];exact ES (by decide)<|by decide))
def iW (p:Rat):0<p.den:=Nat.pos_of_ne_zero p.den_nz
section

def ix1:ixD (qd p) (.int 1)=some (.int ((p.den:Nat):Int)):=rfl
end
def gU (a)(hD:D≠0):(mkRat a D).den ∣ D/\∀M,a.natAbs<=M*D->(mkRat a D).num.natAbs<=M*(mkRat a D).den:=by
 rw[<-Rat.normalize_eq_mkRat hD,Rat.normalize_eq];have e:a.natAbs.gcd D ∣ D:=Nat.gcd_dvd_right ..;have j:a.natAbs.gcd D ∣ a.natAbs:=Nat.gcd_dvd_left ..;have c:0<a.natAbs.gcd D:=Nat.gcd_pos_of_pos_right _<|Nat.pos_of_ne_zero hD;refine#v[Nat.div_dvd_of_dvd e,λM h=>?_];show(a / ((a.natAbs.gcd D:Nat)) ).natAbs<=M*(D / a.natAbs.gcd D);generalize a.natAbs.gcd D=g at *;let(x,d):=e;let(y,b):=j;have l:D / g=x:=by rw[d];exact Nat.mul_div_cancel_left x c
 have k:(a / g ).natAbs=y:=by rw[Int.natAbs_ediv_of_dvd (Int.ofNat_dvd_left.2 #v[y,b]),b,DN];exact Nat.mul_div_cancel_left y c
 rw[l,k];rw[b,d]at h;have i:g*y<=g*(M*x):=by
  have:M*(g*x)=g*(M*x):=by rw[<-Nat.mul_assoc,Qy M g,Nat.mul_assoc]
  lia
 exact Nat.le_of_mul_le_mul_left i c
end L3
namespace Bz
open PySem L2 L3
def MX {xs:List Int}:bD (xs.map CD.int) (some 1) none=(xs.drop 1).map .int:=by
 unfold bD;have b:HT.sIx (xs.map CD.int).length 0 (some 1)=min 1 (xs.map CD.int).length:=HT.sIx_nat _ _ 1;rw[b,HT.sIx_none ..,jI];cases xs with
 | nil=>rfl
 | cons x r =>simp only[qN];rw[show min 1 (r.length+1)=1 by lia];simp only[List.drop_succ_cons];exact Ff (by simp)
def Cf {l:List α}:bD l none (some (-1))=l.take (l.length-1):=by
 unfold bD;cases l with
 | nil=>rfl
 | cons a r =>
  have e:HT.sIx (a::r).length (a::r).length (some (-1))=r.length:=by unfold HT.sIx;simp;try lia
  rw[e,HT.sIx_none,Qe,PL];rfl
def Ml {F:FdS}{Q:Out->FdS->Prop}{k:DE->M CD}{zs:List Int}(he:E[i]? = some (some<|.own<|zs.map .int))(q:wp (v E F) λx F1=>wp (k E F1) λy F2=>∃a n,x = .int a/\y = .int n/\0<=n/\n<zs.length/\Q (.nx<|E.set i<|some<|.own<|(zs.set n.toNat a).map .int) F2):wp (Dh i v k E F) Q:=by
 refine((show wp (Dh i v k E F) Q↔wp (v E F) λx F1=>wp (k E F1) λy F2=>oB (F0 y) λn=>oB (ixN (List.map CD.int zs).length n) λj=>Q (.nx<|E.set i<|some<|.own<|(List.map CD.int zs).set j x) F2 by
  unfold Dh;rw[c8];have e:Y1 E i=some (List.map CD.int zs):=by unfold Y1;rw[he]
  refine C1 λx F1=>?_;rw[c8];refine C1 λy F2=>?_
  simp only[B8,d8,e,wj,oB])).2 (i4 q λx F1 h=>i4 h λy F2 h=>?_)
 let(a,n,rfl,rfl,c,b,q):=h;refine d7 xA (d7 (Hg c (by rwa[jI])) ?_);rwa[List.map_set]at q
def Mp {zs:List Int}(h):atI (zs.map CD.int) ((k:Nat):Int)=some (.int zs[k]):=by
 rw[Kk (by lia) (by lia),(show xb zs k=zs.getD k 0 by
  unfold xb;split
  .rw[yB]
  .rename_i a;rw[uE,Ep<|by lia];rfl),uE,qK h];rfl
def c_lfrac:List DV->M CD:=R6 ["_law_top","_law_bottom","_law_one","_law_other"] (mSq (tO 2 3<|d4 (sN yq<|d4 (sW 0) j3)<|d4 (sV 1) j3)
  (mSq (mWh (uB<|s2 gtD (sW 3)<|sC<|.int 0)<|tO 2 3<|d4 (sV 3)<|d4 (s2 yR (sW 2)<|sW 3) j3)
  (mRt<|K0<|d4 (s2 df (sW 0)<|sW 2)<|d4 (s2 df (sW 1)<|sW 2) j3)))
def vU {i:Nat}{Q:CD->FdS->Prop}(hn:0<n)(hb:n<2 ^ 9000)(q:Q (qd<|mkRat i n) F):wp (c_lfrac [.dat<|.int (i:Nat),.dat<|.int (n:Nat)] F) Q:=by
 unfold c_lfrac;refine V2.2<|r6.2<|vx<|d6.2<|E5.2<|d6.2<|x4.2<|B9 rfl<|h8.2<|d7 KA<|d6.2<|M5.2<|M7 rfl<|h8.2 #v[_,_,rfl,i6 rfl,i6 rfl,k7 ?_];refine r6.2 (KH (λE m=>m=F/\∃x y:Nat,E=[some<|.dat<|.int i,some<|.dat<|.int n,some<|.dat<|.int x,some<|.dat<|.int y ]/\Nat.gcd x y=Nat.gcd i n) (λE=>match E with
  | [_,_,_,some<|.dat<|.int y]=>y.natAbs
  | _=>0) #v[rfl,i,n,rfl,rfl] ?_)
 rintro E r ⟨rfl,x,y,rfl,c⟩;refine cj.2<|v4.2<|x4.2<|B9 rfl<|l8.2<|d7 qR<|d7 rfl<|X3 (λe=>?_) (λe=>?_)
 .have a:=xO e;refine vx<|d6.2<|M5.2<|M7 rfl<|d6.2<|v4.2<|x4.2<|B9 rfl<|x4.2<|B9 rfl<|d7 (Cz a)<|h8.2 #v[_,_,rfl,i6 rfl,i6 rfl,_,rfl,#v[rfl,y,x % y,?_,?_],?_]
  .simp
  .rw[<-c,QD x y,Nat.gcd_rec y x,QD]
  .show((x:Int) % (y:Int)).natAbs<(y:Int).natAbs;have p:=PQ x (b:=(y:Int)) (by lia);have o:=OL x a;lia
 .have a:y=0:=by have:=Ig e;lia
  subst a;rw[Nat.gcd_zero_right]at c;subst c;have g:=Nat.gcd_pos_of_pos_right i hn;have h:Nat.gcd i n<=n:=KR hn<|Nat.gcd_dvd_right ..;refine k7<|O6.2<|A8.2<|d6.2<|v4.2<|x4.2<|B9 rfl<|x4.2<|B9 rfl<|d7 (jO (i:=(i:Int)) (j:=((Nat.gcd i n:Nat):Int)) (by lia) (by rw[DN];lia))<|d6.2<|v4.2<|x4.2<|B9 rfl<|x4.2<|B9 rfl<|d7 (jO (i:=(n:Int)) (j:=((Nat.gcd i n:Nat):Int)) (by lia) (by rw[DN];lia))<|h8.2 #v[v8 rfl,M0 ?_];have f:=ot (i:=(i:Int)) (j:=(n:Int)) (by lia);have k:(Int.gcd (i:Int) (n:Int):Int)=((Nat.gcd i n:Nat):Int):=rfl;rw[k]at f;rwa[AF f (by lia),yB]
end Bz
namespace L3
open L2
abbrev Pn:=Int×Int×Bool
def pAt (ps:List Pn)(i:Nat):Pn:=ps.getD i (0,0,false)
def Z4 (k:Nat)(ps:List Pn):List Nat :=
 if k=1 then(List.range ps.length).reverse
 else if k=2 then(v6<|(List.range ps.length).map λi=>((pAt ps i).2.1,i)).map Prod.snd
 else if k=3 then(v6<|(List.range ps.length).map λi=>((pAt ps i).1,i)).map Prod.snd
 else List.range ps.length
def bI (b:Bool):Int:=if b then 1 else 0
def order (k:Nat)(kp:Bool)(ps:List Pn):List Nat :=
 if kp then(v6<|(Z4 k ps).map λi=>(bI (!(pAt ps i).2.2),i)).map Prod.snd else Z4 k ps
def Y0 (k:Nat)(ps:List Pn)(i j:Nat):Prop :=
 if k=1 then j<i else if k=2 then(pAt ps i).2.1<(pAt ps j).2.1\/((pAt ps i).2.1=(pAt ps j).2.1/\i<j)
 else if k=3 then(pAt ps i).1<(pAt ps j).1\/((pAt ps i).1=(pAt ps j).1/\i<j) else i<j
def W5 (k:Nat)(kp:Bool)(ps:List Pn)(i j:Nat):Prop :=
 if kp then(bI (!(pAt ps i).2.2)<bI (!(pAt ps j).2.2)\/(bI (!(pAt ps i).2.2)=bI (!(pAt ps j).2.2)/\Y0 k ps i j)) else Y0 k ps i j
theorem CB {T:Nat->Nat->Prop}(tr:∀a b c,T a b->T b c->T a c):∀{l},l.Pairwise (λa b=>a.1<b.1\/(a.1=b.1/\T a.2 b.2))->(∀q∈l,T p.2 q.2)->(Q7 p l).Pairwise λa b=>a.1<b.1\/(a.1=b.1/\T a.2 b.2)
 | [],_,_=>by simp[Q7]
 | q::r,h,hl=>by
  rw[xN]at h;rw[Q7];split
  .rename_i i;refine xN.2 #v[λz d=>?_,xN.2 h];have f:p.1<=z.1:=by
    rcases oZ.1 d with rfl | d
    .exact i
    .rcases h.1 z d with e | e <;> lia
   rcases OE f with e | e
   .exact .inl e
   .exact .inr #v[e,hl z d ]
  .rename_i j;refine xN.2 #v[λz d=>?_,CB tr h.2 λz d=>hl z<|kN _ d];rcases oZ.1 ((Z7 p r).mem_iff.mp d) with rfl | d
   .exact .inl (by lia)
   .exact h.1 z d
theorem qQ {T:Nat->Nat->Prop}(tr:∀a b c,T a b->T b c->T a c):∀{l},l.Pairwise (λa b=>T a.2 b.2)->(v6 l).Pairwise λa b=>a.1<b.1\/(a.1=b.1/\T a.2 b.2)
 | [],_=>.nil
 | p::r,h=>by rw[xN]at h;exact CB tr (qQ tr h.2) λq d=>h.1 q<|(A0 r).mem_iff.mp d
def js (tr:∀a b c,T a b->T b c->T a c)(g:Nat->Int){l:List Nat}(h:l.Pairwise T):((v6<|l.map λi=>(g i,i)).map Prod.snd).Pairwise λi j=>g i<g j\/(g i=g j/\T i j):=by
 have m:(l.map λi=>(g i,i)).Pairwise (λa b=>T a.2 b.2):=by rwa[IB]
 have k:=qQ tr m;rw[IB];refine k.imp_of_mem λ{a b} f e d=>?_
 have o:a.1=g a.2:=by let(i,_,rfl):=ue.1<|(A0 _).mem_iff.mp f;rfl
 have n:b.1=g b.2:=by let(i,_,rfl):=ue.1<|(A0 _).mem_iff.mp e;rfl
 rwa[<-o,<-n]
def bE (g:Nat->Int)(l):((v6<|l.map λi=>(g i,i)).map Prod.snd).Perm l:=by have:=(A0<|l.map λi=>(g i,i)).map Prod.snd;rw[sJ]at this;exact this.trans (.of_eq<|(Br λi _=>rfl).trans<|List.map_id _)
def U9 (n):(List.range n).Pairwise (· < ·):=by rw[Le];intro i j c b a;simpa using a
def X4 (k) (ps):(Z4 k ps).Perm (List.range ps.length):=by
 unfold Z4;repeat' split
 .exact List.reverse_perm _
 .exact bE (λi=>(pAt ps i).2.1) _
 .exact bE (λi=>(pAt ps i).1) _
 .exact .refl _
def P9 (k) (kp) (ps):(order k kp ps).Perm (List.range ps.length):=by
 unfold order;split
 .exact(bE (λi=>bI (!(pAt ps i).2.2)) _).trans<|X4 k ps
 .exact X4 k ps
def eO (k) (ps):(Z4 k ps).Pairwise (Y0 k ps):=by
 unfold Z4 Y0;repeat' split
 .rw[List.pairwise_reverse];exact U9 _
 .exact js (T:=λa b=>a<b) (λa b c e d=>OC e d) (λi=>(pAt ps i).2.1)<|U9 _
 .exact js (T:=λa b=>a<b) (λa b c e d=>OC e d) (λi=>(pAt ps i).1)<|U9 _
 .exact U9 _
def ij (a b) (h1:Y0 k ps a b)(h2:Y0 k ps b a):False:=by
 unfold Y0 at *;split at h1
 .simp_all;lia
 .split at h1
  .simp_all;lia
  .split at h1
   .simp_all;lia
   .simp_all;lia
theorem rO [DecidableRel S](as:∀a b,S a b->S b a->False):∀{L:List Nat} {h i},L.Pairwise S->L.Nodup->i∈L->(i∈L.take h↔(L.filter λj=>decide (j≠i/\S j i)).length<h)
 | [],h,i,_,_,hi=>by simp at hi
 | a::L,h,i,hp,hn,hi=>by
  rw[xN]at hp;rw[FY]at hn;cases h with
  | zero=>simp
  | succ h =>
   rw[List.take_succ_cons,oZ];by_cases e:i=a
   .subst e;have z:(List.filter (λj=>decide (j≠i/\S j i)) (i::L))=[]:=by
     rw[List.filter_eq_nil_iff];intro j f;simp only[NH];rintro ⟨k,g⟩;rcases oZ.1 f with rfl | f
     .exact k rfl
     .exact as _ _ (hp.1 j f) g
    rw[z];simp
   .have d:=(oZ.1 hi).resolve_left e;rw[Md (by simpa using (xq #v[λz=>e z.symm,hp.1 i d]) ),qN,rO as hp.2 hn.2 d];constructor
    .rintro (z | z)
     .exact absurd z e
     .omega
    .intro z;exact .inr (by lia)
def C8 (h k:Nat)(kp:Bool)(ps:List Pn):List Nat:=(List.range ps.length).filter λi=>decide (i∈(order k kp ps).take h)
def Q6 (n):(List.range n).Nodup:=by rw[NC];exact(U9 n).imp λh=>uu h
def iz (k) (kp) (ps):(order k kp ps).Nodup:=(P9 k kp ps).nodup_iff.mpr<|Q6 _
def jl {l:List Nat} (h1:l.Nodup)(h2:m.Nodup)(h:∀x,x∈l↔x∈m):l.Perm m:=(Qr h1 h2).2 h
def kB (h k) (kp) (ps):(C8 h k kp ps).Perm ((order k kp ps).take h):=by
 refine jl ((Q6 _).sublist Kx) ((iz k kp ps).sublist<|List.take_sublist _ _) λx=>?_
 unfold C8;rw[xM,NH];exact#v[λz=>z.2,λz=>#v[(P9 k kp ps).mem_iff.mp<|List.mem_of_mem_take z,z]]
def fk (h k) (kp) (ps):(C8 h k kp ps).length=min h ps.length:=by rw[(kB h k kp ps).length_eq,Bp,(P9 k kp ps).length_eq,xB]
def nW (h k) (kp) (ps):jy (((order k kp ps).take h).map Int.ofNat)=(C8 h k kp ps).map Int.ofNat:=by refine gP ((L9 _).trans ((kB h k kp ps).map Int.ofNat).symm) (bT _) ?_;rw[IB];exact(((U9 _).sublist Kx)).imp λ{a b} h=>by simp only[Int.ofNat_eq_natCast];lia
instance ahead_dec (k:Nat) (ps:List Pn):DecidableRel (Y0 k ps):=λi j=>by unfold Y0;infer_instance
instance sooner_dec (k:Nat) (kp:Bool) (ps:List Pn):DecidableRel (W5 k kp ps):=λi j=>by unfold W5;infer_instance
def kL (h k) (kp) (ps):C8 h k kp ps=(List.range ps.length).filter λi=>decide (((List.range ps.length).filter λj=>decide (j≠i/\W5 k kp ps j i)).length<h):=by
 refine List.filter_congr λi m=>?_
 have e:=rO (S:=W5 k kp ps) (λa b f d=>by
  unfold W5 at *;cases kp with
  | true =>simp only[Bc]at f d;rcases f with f | ⟨n,f⟩ <;> rcases d with d | ⟨g,d⟩ <;> first | lia | exact ij a b f d
  | false =>
   simp only[xn]at f d;exact ij a b f d) (h:=h) ((by
    unfold order W5;cases kp with
    | true =>
     simp only[Bc];exact js (λa b c f d=>by
      unfold Y0 at *;repeat' split
      all_goals simp_all
      all_goals lia) (λi=>bI (!(pAt ps i).2.2)) (eO k ps)
    | false=>simpa using eO k ps)) (iz k kp ps) ((P9 k kp ps).mem_iff.mpr m)
 rw[<-(((P9 k kp ps).filter λj=>decide (j≠i/\W5 k kp ps j i)).length_eq) ];exact Om.2 e
end L3
namespace L3
open PySem PySem.Spec PyProof.Rows L2
abbrev pnD (p:Pn):CD:=.tuple [.int p.1,.int p.2.1,.bool p.2.2]
def A4 (l:List Nat):List CD:=l.map λi:Nat=>CD.int (i:Int)
def kOf:CD->Nat
 | .str x=>if x = "last" \/ x = "lastoff" then 1 else if x = "short" \/ x = "shortoff" then 2 else if x = "front" \/ x = "frontoff" then 3 else 0
 | _=>0
def bA (l):(A4 l).length=l.length:=by simp[A4]
def Aw (l):(A4 l).reverse=A4 l.reverse:=by simp[A4]
def vW (n):iE 0 n=A4 (List.range n):=by exact Br λi _=>by congr 1;lia
theorem mH:∀(l:List Int),(l.map CD.int).mapM iM? = some l
 | []=>rfl
 | i::l=>by rw[kX,Ka,mH l];rfl
theorem kQ:∀(l:List Bool),(l.map CD.bool).mapM CD? = some (l.map bI)
 | []=>rfl
 | i::l=>by rw[kX,Ka,kQ l];rfl
def iy (l:List Bool):ik (l.map .bool)=some (l.map bI):=by
 cases l with
 | nil=>rfl
 | cons b l=>exact kQ (b::l)
theorem T8 {α β γ:Type}(f:α->β)(g:α->γ):∀l:List α,(l.map f).zip (l.map g)=l.map λx=>(f x,g x)
 | []=>rfl
 | x::l=>by rw[kX,kX,Fo,T8 f g l];rfl
def ke (g) (l:List Nat):((v6<|(l.map g).zip<|A4 l).map Prod.snd)=A4 ((v6<|l.map λi=>(g i,i)).map Prod.snd):=by
 have e:(l.map g).zip (A4 l)=(l.map λi=>(g i,i)).map λq=>(q.1,(λi:Nat=>CD.int i ) q.2):=by rw[sJ];exact T8 g _ l
 rw[e,aC (λi:Nat=>CD.int i ),sJ];unfold A4;rw[sJ];rfl
section
def FK (h:r∈W8):inD false r (.tuple [.str "last",.str "lastoff"])=some (.bool<|decide (kOf r=1)):=by let(x,rfl,a):=U5 h;show(if SeqAt.shaped (.tuple [.str "last",.str "lastoff"])=true/\SeqAt.shaped (.str x)=true then _ else none)=_;rw[nY #v[by decide +kernel,a],oj<|by decide];simp only[oZ,MK,Qc,CD.str.injEq]at h;rcases h with rfl | rfl | rfl | rfl | rfl | rfl | rfl | rfl <;> exact AZ (λb=>some<|CD.bool b) (by decide +kernel)
def Bq (h:r∈W8):inD false r (.tuple [.str "short",.str "shortoff"])=some (.bool<|decide (kOf r=2)):=by let(x,rfl,a):=U5 h;show(if SeqAt.shaped (.tuple [.str "short",.str "shortoff"])=true/\SeqAt.shaped (.str x)=true then _ else none)=_;rw[nY #v[by decide +kernel,a],oj<|by decide];simp only[oZ,MK,Qc,CD.str.injEq]at h;rcases h with rfl | rfl | rfl | rfl | rfl | rfl | rfl | rfl <;> exact AZ (λb=>some<|CD.bool b) (by decide +kernel)
def yX (h:r∈W8):inD false r (.tuple [.str "front",.str "frontoff"])=some (.bool<|decide (kOf r=3)):=by let(x,rfl,a):=U5 h;show(if SeqAt.shaped (.tuple [.str "front",.str "frontoff"])=true/\SeqAt.shaped (.str x)=true then _ else none)=_;rw[nY #v[by decide +kernel,a],oj<|by decide];simp only[oZ,MK,Qc,CD.str.injEq]at h;rcases h with rfl | rfl | rfl | rfl | rfl | rfl | rfl | rfl <;> exact AZ (λb=>some<|CD.bool b) (by decide +kernel)
end
def HC {i:Nat}(h:i<ps.length):atI (ps.map pnD) (i:Int)=some (pnD<|pAt ps i):=by refine vd ?_;rw[sq,qK h];unfold pAt;rw[uE,qK h];rfl
section
def cB:List DV->M CD:=R6 ["house","stand"]<|mRt<|sN ye<|d4 (s2 ixD (sW 0)<|sC<|.int 0)<|d4 (sN dy<|d4 (sW 1) j3) j3
def az:List DV->M CD:=R6 ["rule","stand","places"] (mSq (x6 2<|mO<|d4 (sN dy<|d4 (sW 1) j3) j3)
  (mSq (mIf (uB<|s2 (inD false) (sW 0)<|sC<|.tuple [.str "last",.str "lastoff"]) (mRt<|s1 zE<|sW 2) mNx)
  (mSq (mIf (uB<|s2 (inD false) (sW 0)<|sC<|.tuple [.str "short",.str "shortoff"]) (mRt<|sSK (d4 (sV 2) j3) [1]<|s2 ixD (s2 ixD (sW 1)<|sW 0)<|sC<|.int 1) mNx)
  (mSq (mIf (uB<|s2 (inD false) (sW 0)<|sC<|.tuple [.str "front",.str "frontoff"]) (mRt<|sSK (d4 (sV 2) j3) [1]<|s2 ixD (s2 ixD (sW 1)<|sW 0)<|sC<|.int 0) mNx)
  (mRt<|sV 2)))))
def fx:List DV->M CD:=R6 ["house","stand","hands","places","rule","order"] (mSq (oV (D4 3<|i7 (bN 2)<|i7 (bN 3)<|i7 (bN 4) D6)<|sV 0)
  (mSq (x6 5<|l6 az<|vD (sV 4)<|vD (sV 1) u8)
  (mSq (mIf (uT<|l6 fb<|vD (sV 4) u8) (x6 5<|sSK (d4 (sV 5) j3) [1]<|yE<|s2 ixD (s2 ixD (sW 1)<|sW 0)<|sC<|.int 2) mNx)
  (mRt<|sN M6<|d4 (sN bc<|d4 (kY (sW 5) oNo<|oI<|sV 2) j3) j3))))
theorem gT {me:DE->M CD}{E0:DE}:∀(l:List Nat) (F:FdS),(∀i∈l,me (some (.dat<|.int (i:Int))::E0) F=some (g i,F))->dq me E0 (A4 l) F=some (l.map g,F)
 | [],F,_=>rfl
 | d::ds,F,h=>by show(me (some (.dat<|.int d )::E0) F).bind _=_;rw[h d ll,tV];show(dq me E0 (A4 ds) F).bind _=_;rw[gT ds F λx a=>h x<|kN _ a];rfl
variable {F:FdS}{Q:CD->FdS->Prop}
def Ju (q:wp (ma E F) λxs F1=>∃ds kd ns,qf xs=some ds/\ds.length<64/\dq me (cap.map λj=>(E[j]?).join) ds F1=some (kd,F1)/\ik kd=some ns/\Q (.list<|(v6<|ns.zip ds).map Prod.snd) F1):wp (sSK ma cap me E F) Q:=by
 unfold sSK;rw[c8];refine i4 q ?_;rintro xs F1 ⟨ds,kd,ns,e,a,c,b,q⟩
 rw[e,tV,nY a,c,tV,b,tV];exact d8.2 q
def An {me:DE->M CD}{g:Nat->Int}(q:wp (ma E F) λxs F1=>∃l:List Nat,xs=[.list<|A4 l]/\l.length<64/\(∀i∈l,me (some (.dat<|.int (i:Int))::cap.map λj=>(E[j]?).join) F1=some (.int<|g i,F1))/\Q (.list<|A4<|(v6<|l.map λi=>(g i,i)).map Prod.snd) F1):wp (sSK ma cap me E F) Q:=by refine Ju (i4 q λxs F1 #v[l,e,c,b,a]=>#v[A4 l,l.map λi=>.int<|g i,l.map g,by rw[e];rfl,by rwa[bA],gT l F1 b,?_,by rwa[ke]]);rw[<-(show ik ((l.map g).map .int)=some (l.map g) by unfold ik;rw[mH]),sJ];rfl
def Fe {me:DE->M CD}{g:Nat->Bool}(q:wp (ma E F) λxs F1=>∃l:List Nat,xs=[.list<|A4 l]/\l.length<64/\(∀i∈l,me (some (.dat<|.int (i:Int))::cap.map λj=>(E[j]?).join) F1=some (.bool<|g i,F1))/\Q (.list<|A4<|(v6<|l.map λi=>(bI<|g i,i)).map Prod.snd) F1):wp (sSK ma cap me E F) Q:=by refine Ju (i4 q λxs F1 #v[l,e,c,b,a]=>#v[A4 l,l.map λi=>.bool<|g i,l.map λi=>bI<|g i,by rw[e];rfl,by rwa[bA],gT l F1 b,?_,by rwa[ke λi=>bI<|g i]]);have:=iy<|l.map g;rwa[sJ,sJ]at this
def Fu {a:DE->M (List CD)}(q:wp (a E F) λx F1=>oB (aM x) λds=>ds.length<=1000/\Q (.list ds) F1):wp (mO a E F) Q:=by
 unfold mO;rw[c8];refine i4 q ?_;rintro x F1 ⟨ds,e,b,q⟩
 rw[e,tV,nY b];exact d8.2 q
def Av {i:Nat}(h:i<ps.length):s2 ixD (s2 ixD (sW 1)<|sW 0) (sC<|.int j) [some<|.dat<|.int (i:Int),some<|.dat<|.tuple<|ps.map pnD] F=(ixD (pnD<|pAt ps i)<|.int j).bind λz=>some (z,F):=by show(((atI (ps.map pnD) i ).bind λz=>some (z,F)).bind λp=>(ixD p.1<|.int j).bind λz=>some (z,p.2))=_;rw[HC h];rfl
def HQ {i:Nat}(h:i<ps.length):yE (s2 ixD (s2 ixD (sW 1)<|sW 0)<|sC<|.int 2) [some<|.dat<|.int (i:Int),some<|.dat<|.tuple<|ps.map pnD] F=some (.bool (!(pAt ps i).2.2),F):=by unfold yE;rw[Av h];rfl
def Fj (hr:r∈W8)(hl:ps.length<64)(q:Q (.list<|A4<|Z4 (kOf r) ps) F):wp (az [.dat r,.dat<|.tuple<|ps.map pnD] F) Q:=by
 unfold az;walk_at "go";refine Fu<|d6.2<|E5.2<|d6.2<|x4.2<|h8.2<|d7 gN<|h8.2 ?_;rw[jI];refine d7 (Ai<|by lia) #v[by rw[FP];lia,?_];rw[vW];have a:∀i∈List.range ps.length,i<ps.length:=λi b=>Iw.1 b
 walk_at "go";refine d7 (FK hr) ?_;unfold Z4 at q;refine d7 rfl (X3 (λh=>?_) λh=>?_)
 .rw[nY<|xO h]at q;walk_at "go";rwa[Aw]
 rw[oj<|Ig h]at q;walk_at "go";refine d7 (Bq hr)<|d7 rfl (X3 (λh=>?_) λh=>?_)
 .rw[nY<|xO h]at q;walk_at "go";refine An (g:=λi=>(pAt ps i).2.1) ?_;walk_at "go";refine#v[_,rfl,by rwa[xB],λi b=>?_,?_]
  .exact Av<|a i b
  .walk_at "go";exact q
 rw[oj<|Ig h]at q;walk_at "go";refine d7 (yX hr)<|d7 rfl (X3 (λh=>?_) λh=>?_)
 .rw[nY<|xO h]at q;walk_at "go";refine An (g:=λi=>(pAt ps i).1) ?_;walk_at "go";refine#v[_,rfl,by rwa[xB],λi b=>?_,?_]
  .exact Av<|a i b
  .walk_at "go";exact q
 rw[oj<|Ig h]at q;walk_at "go";exact q
def fF {l:List α}{h:Nat}:bD l none (some (h:Int))=l.take h:=by
 unfold bD;simp only[HT.sIx_none,HT.sIx_nat,Qe,PL];by_cases a:h<=l.length
 .rw[Nat.min_eq_left a]
 .rw[Nat.min_eq_right (by lia),Ff (by lia),Ff<|by lia]
def xQ (l) (n):(A4 l).take n=A4 (l.take n):=by unfold A4;rw[List.map_take]
theorem kP:∀l,G7 (A4 l)=some (l.map Int.ofNat)
 | []=>rfl
 | i::l=>by show G7 (.int i::A4 l)=_;rw[G7,kP l];rfl
def Dm (hr:r∈W8)(hl:ps.length<64)(q:Q (.tuple<|A4<|C8 h (kOf r) (kb r) ps) F):wp (fx [.dat<|.tuple [.int h,pl,r],.dat<|.tuple<|ps.map pnD] F) Q:=by
 unfold fx;walk_at "go";refine Fj hr hl ?_;have b:(Z4 (kOf r) ps).length=ps.length:=by rw[(X4 (kOf r) ps).length_eq,xB]
 have c:(order (kOf r) (kb r) ps).length=ps.length:=by rw[(P9 (kOf r) (kb r) ps).length_eq,xB]
 have fin:∀E,E=[some<|.dat<|.tuple [.int h,pl,r],some<|.dat<|.tuple<|ps.map pnD,some<|.dat<|.int h,some<|.dat pl,some<|.dat r,some<|.dat<|.list<|A4<|order (kOf r) (kb r) ps]->wp (mRt (sN M6<|d4 (sN bc<|d4 (kY (sW 5) oNo<|oI<|sV 2) j3) j3) E F) (tZ Q):=by
  rintro E rfl;refine O6.2<|E5.2<|d6.2<|E5.2<|d6.2<|lH.2<|x4.2<|B9 rfl<|lY.2<|yK.2<|M5.2<|M7 rfl<|d7 xA<|d7 Ax<|h8.2 ?_;rw[fF,xQ];refine d7 (by simp only[bc,kP];rw[nY (by rw[jI,Bp,c];lia),nW,sJ];rfl)<|h8.2<|d7 gS<|q
 refine#v[i6 rfl,k7<|r6.2<|cV.2<|EV.2<|l5.2 ?_];walk_at "go";refine vn hr<|d7 rfl (X3 (λe=>?_) λe=>?_)
 .refine y6.2 (Fe (g:=λi=>!(pAt ps i).2.2) ?_);walk_at "go";refine#v[_,rfl,by rwa[b],λi d=>?_,i6 rfl,?_]
  .exact HQ<|(λi d=>Iw.1<|(X4 (kOf r) ps).mem_iff.mp d) i d
  .refine fin _ ?_;unfold order;rw[nY e];rfl
 .refine cQ.2<|k7<|fin _ ?_;unfold order;rw[oj (by rw[e];simp)];rfl
def Kh {ps:List Pn}(q:Q (.int (min h ps.length:Nat)) F):wp (cB [.dat<|.tuple [.int h,pl,r],.dat<|.tuple<|ps.map pnD] F) Q:=by
 unfold cB;walk_at "go";rw[jI];have e:(if (ps.length:Int)<h then(ps.length:Int) else h )=((min h ps.length:Nat)):=by split <;> lia
 rwa[e]
end
section
def zu {i:Nat}(h:(A4 l)[i]? = some d):∃k,l[i]? = some k/\d = .int (k:Int):=by unfold A4 at h;rw[sq]at h;let(k,e,rfl):=sA.1 h;exact#v[k,e,rfl]
end
def Ni (h0:-100000<=i)(h1:i<=100000):Gd n 1 0 (.int i):=mV ((by
 have h1:(10) ^ 42<=10 ^ 300:=ES (by decide) (by decide);have a:100000000000000000000000000000000000000000<(10) ^ 42:=by decide
 generalize (10) ^ 300=A at *;lia))
def xi (h:∀i∈l,i<=1000):Gd 0 (1+l.length) 1 (.tuple<|A4 l):=by
 refine Gd.tup (M:=1) (λx b=>?_) ?_
 .let(p,a,rfl):=ue.1 b;have:=h p a;exact Ni (by lia) (by lia)
 .have:=fw (c:=1) (ds:=A4 l) λd e=>by let(p,a,rfl):=ue.1 e;simp[cnt]
  rw[bA]at this;lia
end L3
namespace L3
open L2
section
def fe (kp:Bool)(p:Pn):Pn:=(p.1,p.2.1-1,kp)
def gh (P:List Nat)(ps:List Pn)(i:Nat):Bool:=decide (i∈P)&&decide ((pAt ps i).2.1<=1)
def W6 (P:List Nat)(kp:Bool)(ps:List Pn)(i:Nat):Pn:=if i∈P then fe kp (pAt ps i) else pAt ps i
def aX (P:List Nat)(ps:List Pn):List Nat:=(List.range ps.length).filter λi=>!decide (i∈P)
def O5 (P:List Nat)(ps:List Pn):List Nat:=P.filter λi=>!decide ((pAt ps i).2.1<=1)
def bJ (P:List Nat)(ps:List Pn):List Nat:=P.filter λi=>decide ((pAt ps i).2.1<=1)
def O9 (tn:Bool)(P:List Nat)(ps:List Pn):List Nat:=if tn then aX P ps++O5 P ps else(List.range ps.length).filter λi=>!gh P ps i
theorem dg {α:Type}{R} (as:∀a b,R a b->R b a->False):∀{l₁ l₂:List α},l₁.Perm l₂->l₁.Pairwise R->l₂.Pairwise R->l₁=l₂
 | [],l₂,p,_,_=>p.nil_eq
 | a::r,[],p,_,_=>by have:=p.length_eq;simp at this
 | a::r,b::t,p,h1,h2=>by
  rw[xN]at h1 h2;have d:a=b:=by
   rcases oZ.1 (p.mem_iff.1<|ll (l:=r)) with e | e
   .exact e
   .rcases oZ.1 (p.mem_iff.2<|ll (l:=t)) with c | c
    .exact c.symm
    .exact(as _ _ (h2.1 a e)<|h1.1 b c).elim
  subst d;rw[dg as (p.cons_inv) h1.2 h2.2]
theorem pE :∀{l:List (Int × α)},l.Pairwise (λa b=>a.1<b.1)->(∀q∈l,p.1≠q.1)->(Q7 p l).Pairwise λa b=>a.1<b.1
 | [],_,_=>by simp[Q7]
 | q::r,h,hl=>by
  rw[xN]at h;rw[Q7];split
  .rename_i d;have f:=hl q ll;refine xN.2 #v[λz c=>?_,xN.2 h];rcases oZ.1 c with rfl | c
   .omega
   .have:=h.1 z c;lia
  .rename_i e;refine xN.2 #v[λz c=>?_,pE h.2 λz c=>hl z<|kN _ c];rcases oZ.1 ((Z7 p r).mem_iff.mp c) with rfl | c
   .omega
   .exact h.1 z c
theorem jP :∀{l:List (Int × α)},(l.map Prod.fst).Nodup->(v6 l).Pairwise λa b=>a.1<b.1
 | [],_=>.nil
 | p::r,h=>by rw[kX,FY]at h;exact pE (jP h.2) λq c e=>h.1<|e▸HM ((A0 r).mem_iff.mp c)
def yO {m:List (Int × α)} (hp:m.Perm l)(hs:m.Pairwise λa b=>a.1<b.1):v6 l=m:=by
 exact dg (λa b e d=>by lia) ((A0 l).trans hp.symm) (jP (by refine(hp.map Prod.fst).nodup_iff.mp ?_;rw[NC,IB];exact hs.imp λh=>by lia) ) hs
def gI :∀i∈C8 h k kp ps,i<ps.length:=λi a=>Iw.1 (xM.1 a).1
def bG :(C8 h k kp ps).Nodup:=(Q6 _).sublist Kx
def hZ (hs:∀i∈P,i<ps.length)(hn:P.Nodup):(aX P ps++O5 P ps).Perm (O9 false P ps):=by
 unfold O9;rw[oj<|by simp];refine jl ?_ ((Q6 _).sublist Kx) λx=>?_
 .rw[Pf];refine#v[(Q6 _).sublist Kx,hn.sublist Kx,λa h b g e=>?_];subst e;have d:=(xM.1 h).2;simp[(xM.1 g).1 ]at d
 .unfold aX O5 gh;simp only[zj,xM,Iw,Bool.not_eq_true',decide_eq_false_iff_not,Bool.and_eq_false_iff];constructor
  .rintro (⟨d,c⟩ | ⟨d,c⟩)
   .exact#v[d,.inl c]
   .exact#v[hs x d,.inr c]
  .rintro ⟨d,c⟩;by_cases f:x∈P
   .exact .inr #v[f,c.resolve_left λz=>z f]
   .exact .inl #v[d,f]
def Fx (P) (ps):(O9 false P ps).Pairwise (· < ·):=by unfold O9;rw[oj<|by simp];exact(U9 _).sublist Kx
def pL (hs:∀i∈P,i<ps.length)(hn:P.Nodup):(O9 tn P ps).Perm (O9 false P ps):=by
 cases tn with
 | false=>exact .refl _
 | true =>have:=hZ hs hn;unfold O9 at this ⊢;simpa using this
def after (h k:Nat)(kp tn:Bool)(ps:List Pn):List Pn:=(O9 tn (C8 h k kp ps) ps).map<|W6 (C8 h k kp ps) kp ps
def R5 (pl:Option Nat)(n m:Nat):Nat:=match pl with
 | some v=>min m<|v-n
 | none=>m
def K1 (pl:Option Nat)(ps:List Pn)(bt:List (Int×Int)):List Pn:=ps++(bt.take<|R5 pl ps.length bt.length).map λc=>(c.1,c.2,false)
def Ar (pl) (ps) (bt):(K1 pl ps bt).length=ps.length+R5 pl ps.length bt.length:=by unfold K1;rw[xy,jI,Bp];unfold R5;split <;> lia
end
section
abbrev Bt:=List<|Int×Int
end
end L3
namespace L3
open PySem PySem.Spec PyProof.Rows L2

section
abbrev cmD (c:Int×Int):CD:=.tuple [.int c.1,.int c.2]
def plD:Option Nat->CD
 | some v=>.int (v:Int)
 | none=>.none
def bL :List DV->M CD:=R6 ["house","stand","beat","places","room","entered"] (mSq (x6 3<|s2 ixD (sW 0)<|sC<|.int 1)
  (mSq (x6 4<|sIf (uB<|s2 (isD false) (sW 3)<|sC .none) (sN dy<|d4 (sW 2) j3)<|s2 lq (sW 3)<|sN dy<|d4 (sW 1) j3)
  (mSq (x6 5<|sLC (M4<|kY (sW 2) oNo<|oI<|sV 4) 2 [] (D4 2<|i7 (bN 0)<|i7 (bN 1) D6) R9<|K0<|d4 (sV 0)<|d4 (sV 1)<|d4 (sC<|.bool false) j3)
  (mRt<|K0<|d4 (s2 N4 (sW 1)<|sN M6<|d4 (sW 5) j3)<|d4 (s2 lq (sN dy<|d4 (sW 2) j3)<|sN dy<|d4 (sW 5) j3) j3))))
def fj :List DV->M CD:=R6 ["house","stand","rule","hands_on","waiting","served","gone","place","rank","left","begun","staying"] (mSq (x6 2<|s2 ixD (sW 0)<|sC<|.int 2)
  (mSq (x6 3<|l6 fx<|vD (sV 0)<|vD (sV 1) u8)
  (mSq (x6 4<|sLC (vB<|sW 1) 2 [3] (D4 2<|i7 (bN 0)<|i7 (bN 1) D6) (uB<|s2 (inD true) (sW 0)<|sW 2)<|K0<|d4 (sV 0)<|d4 (sV 1) j3)
  (mSq (qE 5 6 (cO<|oF j3)<|cO<|oF j3)
  (mSq (Z0 (M4<|sV 3) (bN 7) (mSq (oV (D4 3<|i7 (bN 8)<|i7 (bN 9)<|i7 (bN 10) D6)<|s2 ixD (sW 1)<|sW 7)
  (mIf (uB<|s2 gtD (sW 9)<|sC<|.int 1) (kI 5<|K0<|d4 (sV 7)<|d4 (K0<|d4 (sV 8)<|d4 (s2 lq (sW 9)<|sC<|.int 1)<|d4 (l6 fb<|vD (sV 2) u8) j3) j3)<|kI 6<|sV 7)))
  (mSq (x6 11<|sIf (uB<|s2 (eqD false) (sW 2)<|sC<|.str "turns") (s2 N4 (sW 4)<|sW 5)<|sN bc<|d4 (s2 N4 (sW 4)<|sW 5) j3)
  (mRt<|K0<|d4 (sV 11)<|d4 (sV 3)<|d4 (sN M6<|d4 (sW 6) j3) j3)))))))
def og :List DV->M CD:=R6 ["house","stand","beat","filled","lost","staying","hands_on","gone"] (mSq (oV (D4 2<|i7 (bN 3)<|i7 (bN 4) D6)<|l6 bL<|vD (sV 0)<|vD (sV 1)<|vD (sV 2) u8)
  (mSq (oV (D4 3<|i7 (bN 5)<|i7 (bN 6)<|i7 (bN 7) D6)<|l6 fj<|vD (sV 0)<|vD (sV 3) u8)
  (mRt<|K0<|d4 (sN M6<|d4 (sLC (M4<|sW 5) 2 [] (D4 2<|i7 (bN 0)<|i7 (bN 1) D6) R9<|sV 1) j3)<|d4 (sV 4)<|d4 (sV 7) j3)))
abbrev b2 :CD->DE->Option DE:=D4 2<|i7 (bN 0)<|i7 (bN 1) D6
section

theorem pI {me:DE->M CD}{α:Type}{x y:α->CD}{f}{rest:DE}{Q:List CD->FdS->Prop}:∀(ds:List α) o o',(∀d∈ds,∀F (Q:CD->FdS->Prop),Q (f d) F->wp (me (some (.dat<|x d)::some (.dat<|y d)::rest) F) Q)->Q (ds.map f) F->wp (W1 b2 R9 me (ds.map λd=>.tuple [x d,y d]) (o::o'::rest) F) Q
 | [],o,o',_,q=>d8.2 q
 | d::ds,o,o',h,q=>by rw[kX,W1];have e:b2 (.tuple [x d,y d]) (o::o'::rest)=some (some (.dat<|x d)::some (.dat<|y d)::rest):=rfl;rw[e,tV,c8];refine jv.2 ?_;rw[nY rfl,c8];refine h d ll F _ ?_;rw[c8];exact pI ds _ _ (λd a=>h d<|kN _ a)<|d8.2 q
def ym {mt:DE->M Bool}{me:DE->M CD}{α:Type}{x y:α->CD}{g}{f}{rest:DE}{Q:List CD->FdS->Prop}:∀(ds:List α) o o',(∀d∈ds,∀F (Q:Bool->FdS->Prop),Q (g d) F->wp (mt (some (.dat<|x d)::some (.dat<|y d)::rest) F) Q) ->
  (∀d∈ds,g d=true->∀F (Q:CD->FdS->Prop),Q (f d) F->wp (me (some (.dat<|x d)::some (.dat<|y d)::rest) F) Q)->Q ((ds.filter g).map f) F->wp (W1 b2 mt me (ds.map λd=>.tuple [x d,y d]) (o::o'::rest) F) Q
 | [],o,o',_,_,q=>d8.2 q
 | d::ds,o,o',ht,h,q=>by
  rw[kX,W1];have e:b2 (.tuple [x d,y d]) (o::o'::rest)=some (some (.dat<|x d)::some (.dat<|y d)::rest):=rfl;rw[e,tV,c8];refine ht d ll F _ ?_;cases c:g d with
  | false =>rw[NO (by rw[c];simp)]at q;rw[oj<|by simp];exact ym ds _ _ (λd a=>ht d<|kN _ a) (λd a=>h d<|kN _ a) q
  | true =>rw[Md c,kX]at q;rw[nY rfl,c8];refine h d ll c F _ ?_;rw[c8];exact ym ds _ _ (λd a=>ht d<|kN _ a) (λd a=>h d<|kN _ a)<|d8.2 q
def Cs :ak 0 (ps.map pnD)=(List.range ps.length).map λi=>.tuple [.int (i:Int),pnD<|pAt ps i]:=by
 have b:∀l k,ak k l=(List.range l.length).map λi=>.tuple [.int ((k+i:Nat)),l.getD i .none]:=by
  intro l;induction l with
  | nil=>intro k;rfl
  | cons d l c =>
   intro k;rw[ak,c,qN,List.range_succ_eq_map,kX,sJ];have e:(CD.tuple [.int k,d]) = .tuple [.int ((k+0:Nat)),(d::l).getD 0 .none]:=by simp
   rw[<-e];refine AZ (List.cons _) (Br λi _=>?_);simp only[Function.comp,List.getD_cons_succ];rw[show k+1+i=k+(i+1) by lia]
 rw[b,jI];refine Br λi a=>?_
 have a:=Iw.1 a;rw[yo,uE,sq,qK a];unfold pAt;rw[uE,qK a];rfl
def nU :(CD.int a).eqv (.int b)=decide (a=b):=by simp only[CD.eqv];exact Bool.beq_eq_decide_eq ..
def yj {i:Nat}(hl:∀j∈l,j<=1000):inD true (.int (i:Int)) (.tuple<|A4 l)=some (.bool (!decide (i∈l))):=by
 have f:=(xi hl).shaped (by decide) (by decide);show(if SeqAt.shaped (.tuple<|A4 l)=true/\SeqAt.shaped (.int i )=true then _ else none)=_;rw[nY #v[f,(by simp[SeqAt.shaped,CD.canLay0,CD.depth]) ],nY rfl];refine AZ (λb=>some<|CD.bool (!b)) ?_;unfold A4;rw[List.any_map];have e:(l.any ((λy=>y.eqv<|.int i ) ∘ λj:Nat=>CD.int j ))=l.any λj=>decide (j=i):=by congr 1;funext j;simp only[Function.comp,nU];rw[Om];lia
 rw[e];induction l with
 | nil=>simp
 | cons a l d =>
  rw[Po,d λj c=>hl j<|kN _ c]
  .by_cases h:a=i
   .simp[h]
   .have:¬i=a:=λz=>h z.symm
    simp[h,this]
  .exact(xi λj c=>hl j<|kN _ c).shaped (by decide) (by decide)
  .congr 1;funext j;simp only[Function.comp,nU];rw[Om];lia
end
section
variable {Q:CD->FdS->Prop}
def mB (pl:Option Nat)(n:Nat):Prop:=∀v,pl=some v->n<=v
def Hm (pl:Option Nat)(n m:Nat):Int:=match pl with
 | some v=>(v:Int)-(n:Int)
 | none=>(m:Int)
def CV {bt:List CD}(hp:mB pl n):bD bt none (some<|Hm pl n bt.length)=bt.take (R5 pl n bt.length):=by
 cases pl with
 | none =>show bD bt none (some ((bt.length:Nat)) )=_;rw[fF];rfl
 | some v =>
  have:=hp v rfl;show bD bt none (some<|v-n )=bt.take (min bt.length<|v-n);have e:(v:Int)-n=((v-n:Nat)):=by lia
  rw[e,fF];by_cases a:v-n<=bt.length
  .rw[Nat.min_eq_right a]
  .rw[Nat.min_eq_left (by lia),Ff (by lia),Ff<|by lia]
def qz (hp:mB pl ps.length)(hl:ps.length+bt.length<=1000)(q:Q (.tuple [.tuple<|(K1 pl ps bt).map pnD,.int ((bt.length-R5 pl ps.length bt.length:Nat):Int)]) F) :
  wp (bL [.dat<|.tuple [h,plD pl,r],.dat<|.tuple<|ps.map pnD,.dat<|.tuple<|bt.map cmD] F) Q:=by
 have e:R5 pl ps.length bt.length<=bt.length:=by unfold R5;split <;> lia
 have fin:∀E a d,a=Hm pl ps.length bt.length->E=[some<|.dat<|.tuple [h,plD pl,r],some<|.dat<|.tuple<|ps.map pnD,some<|.dat<|.tuple<|bt.map cmD,some<|.dat<|plD pl,some<|.dat<|.int a,d] ->
   wp (mSq (x6 5<|sLC (M4<|kY (sW 2) oNo<|oI<|sV 4) 2 [] (D4 2<|i7 (bN 0)<|i7 (bN 1) D6) R9<|K0<|d4 (sV 0)<|d4 (sV 1)<|d4 (sC<|.bool false) j3)
    (mRt<|K0<|d4 (s2 N4 (sW 1)<|sN M6<|d4 (sW 5) j3)<|d4 (s2 lq (sN dy<|d4 (sW 2) j3)<|sN dy<|d4 (sW 5) j3) j3) E F) (tZ Q):=by
  rintro E a d b rfl;have g:bD (bt.map cmD) none (some a)=(bt.take<|R5 pl ps.length bt.length).map cmD:=by have:=CV (bt:=bt.map cmD) hp;rw[jI]at this;rw[b,this,List.map_take]
  refine r6.2<|y6.2<|P1.2<|x8.2<|lH.2<|x4.2<|B9 rfl<|lY.2<|yK.2<|M5.2<|M7 rfl<|d7 xA<|d7 uR<|d7 S5 ?_;rw[g];refine#v[sz (by rw[jI,Bp];lia),pI (f:=λc=>pnD (c.1,c.2,false)) _ _ _ (λc k F Q q=>?_) ?_ ]
  .walk_at "go";exact q
  .refine#v[i6 rfl,k7 (O6.2<|A8.2<|d6.2<|v4.2<|x4.2<|B9 rfl<|E5.2<|d6.2<|x4.2<|B9 rfl<|h8.2<|d7 gS<|d7 (LX ?_)<|d6.2<|v4.2<|E5.2<|d6.2<|x4.2<|B9 rfl<|h8.2<|d7 gN<|E5.2<|d6.2<|x4.2<|B9 rfl<|h8.2<|d7 Dc<|d7 jX<|h8.2 #v[v8 rfl,?_]) ]
   .rw[jI,jI,Bp];lia
   .have j:ps.map pnD++(bt.take<|R5 pl ps.length bt.length).map (λc=>pnD (c.1,c.2,false))=(K1 pl ps bt).map pnD:=by unfold K1;rw[yx,sJ];rfl
    have i:((List.map cmD bt).length:Int)-((List.map (λc:Int×Int=>pnD (c.1,c.2,false))<|bt.take<|R5 pl ps.length bt.length).length)=((bt.length-R5 pl ps.length bt.length:Nat)):=by rw[jI,jI,Bp];lia
    rwa[j,i]
 refine V2.2<|r6.2<|y6.2<|v4.2<|x4.2<|B9 rfl<|l8.2<|d7 rfl #v[i6 rfl,k7<|r6.2<|y6.2<|zN.2<|cj.2<|v4.2<|x4.2<|B9 rfl<|l8.2<|d7 rfl<|d7 rfl ?_];cases pl with
 | none =>refine V8 rfl<|E5.2<|d6.2<|x4.2<|B9 rfl<|h8.2<|d7 gN #v[i6 rfl,k7 ?_];rw[jI];exact fin _ _ none rfl rfl
 | some v =>refine w4 rfl<|v4.2<|x4.2<|B9 rfl<|E5.2<|d6.2<|x4.2<|B9 rfl<|h8.2<|d7 gN<|d7 jX #v[i6 rfl,k7 ?_];rw[jI];exact fin _ _ none rfl rfl
end
def tnB:CD->Bool
 | .str x=>decide (x = "turns")
 | _=>false
abbrev prD (q:Nat×Pn):CD:=.tuple [.int (q.1:Int),pnD q.2]
def CY {c2:DE->M DV}{F:FdS}{Q:Out->FdS->Prop}(h:wp (c1 E F) λx F1=>wp (c2 E F1) λy F2=>(i<E.length/\j<E.length)/\Q (.nx<|(E.set i<|some x).set j<|some y) F2):wp (qE i j c1 c2 E F) Q:=by
 unfold qE;rw[c8];refine i4 h λx F1 b=>?_
 rw[c8];refine i4 b λy F2 a=>?_
 rw[nY a.1];exact d8.2 a.2
def Ji {m:DE->M (List CD)}{F:FdS}{Q:DV->FdS->Prop}(h:wp (m E F) λx F1=>Q (.own x) F1):wp (cO m E F) Q:=by unfold cO;rw[c8];exact i4 h λx F1 a=>d8.2 a
def Nb {m:DE->M CD}{F:FdS}{Q:DV->FdS->Prop}(h:wp (m E F) λx F1=>Q (.dat x) F1):wp (cD m E F) Q:=by unfold cD;rw[c8];exact i4 h λx F1 a=>d8.2 a
theorem ju:∀l:List (Nat×Pn),(l.map prD).mapM ny=some (l.map λq=>(q.1:Int))
 | []=>rfl
 | q::l=>by rw[kX,Ka,ju l];rfl
def EI {m:List (Nat×Pn)} (hp:m.Perm l)(hs:m.Pairwise λa b=>a.1<b.1)(h64:l.length<64):bc [.list<|l.map prD]=some (.list<|m.map prD):=by
 by_cases hl:l=[]
 .subst hl;have:=hp.symm.nil_eq;subst this;rfl
 .simp only[bc,(show G7 (l.map prD)=none by
   cases l with
   | nil=>exact absurd rfl hl
   | cons q l=>rfl),ju,tV]
  rw[nY #v[(by refine(hp.map λq=>(q.1:Int)).nodup_iff.mp ?_;rw[NC,IB];exact hs.imp λh=>by lia),by rwa[jI]]];rw[T8 _ _ l,yO (hp.map _) (by rw[IB];exact hs.imp λh=>by lia),sJ];rfl
section
variable {Q:CD->FdS->Prop}
def yU (hr:r∈W8)(hl:ps.length<64)
  (q:Q (.tuple [.list<|(O9 (tnB r) (C8 h (kOf r) (kb r) ps) ps).map λi=>prD (i,W6 (C8 h (kOf r) (kb r) ps) (kb r) ps i),.tuple<|A4<|C8 h (kOf r) (kb r) ps,.tuple<|A4<|bJ (C8 h (kOf r) (kb r) ps) ps]) F) :
  wp (fj [.dat<|.tuple [.int (h:Int),pl,r],.dat<|.tuple<|ps.map pnD] F) Q:=by
 have c:=gI (h:=h) (k:=kOf r) (kp:=kb r) (ps:=ps);have u:=bG (h:=h) (k:=kOf r) (kp:=kb r) (ps:=ps);have s:(C8 h (kOf r) (kb r) ps).length<=ps.length:=by rw[fk];lia
 unfold fj;walk_at "go";refine Dm hr hl ?_;generalize C8 h (kOf r) (kb r) ps=P at q c u s;refine#v[i6 rfl,k7<|r6.2<|y6.2<|P1.2<|JX<|x4.2<|B9 rfl<|d7 S5 ?_];rw[Cs];refine#v[sz (by rw[jI,xB];lia),ym (x:=λi:Nat=>.int (i:Int)) (y:=λi=>pnD<|pAt ps i) (g:=λi=>!decide (i∈P)) (f:=λi=>prD (i,pAt ps i)) _ _ _ (λi v F Q q=>?_) (λi v _ F Q q=>?_) ?_ ]
 .walk_at "go";refine d7 (yj λj O=>by have:=c j O;lia)<|d7 rfl q
 .walk_at "go";exact q
 have R:((List.range ps.length).filter λi=>!decide (i∈P))=aX P ps:=rfl;rw[R];refine#v[i6 rfl,k7<|r6.2<|CY<|Ji<|gZ.2<|h8.2 #v[sz (by decide),Ji<|gZ.2<|h8.2 #v[sz (by decide),#v[i6 rfl,i6 rfl],k7<|r6.2<|G8.2<|x8.2<|M5.2<|M7 rfl<|d7 S5 (B6 (λm E U=>U=F/\∃G D C n p,E=[some<|.dat<|.tuple [.int (h:Int),pl,r],some<|.dat<|.tuple<|ps.map pnD,some<|.dat r,some<|.dat<|.tuple<|A4 P,some<|.dat<|.list<|(aX P ps).map λi=>prD (i,pAt ps i),some<|.own<|(O5 (P.take m) ps).map λi=>prD (i,fe (kb r)<|pAt ps i),some<|.own<|A4<|bJ (P.take m) ps,G,D,C,n,p]) _ 0 _ F #v[rfl,none,none,none,none,none,rfl] ?_ ?_) ]]]
 .rintro m d e E N ⟨rfl,G,D,C,n,p,rfl⟩;let(i,L,rfl):=zu e;have v:=c i<|uP L;have H:P.take (0+m+1)=P.take (0+m)++[i]:=by rw[yo,ED,L];rfl
  refine#v[_,rfl,?_];refine r6.2<|om.2<|v4.2<|x4.2<|B9 rfl<|x4.2<|B9 rfl<|d7 (HC v)<|d7 rfl<|k7<|cV.2 (cj.2<|v4.2<|x4.2<|B9 rfl<|l8.2<|d7 qR<|d7 rfl<|X3 (λA=>?_) λA=>?_)
  .have A:1<(pAt ps i).2.1:=xO A;have K:O5 (P.take<|0+m+1) ps=O5 (P.take<|0+m) ps++[i]:=by unfold O5;rw[H,Ih,Md (by simp;lia),PU]
   have J:bJ (P.take<|0+m+1) ps=bJ (P.take<|0+m) ps:=by unfold bJ;rw[H,Ih,NO (by simp;lia),PU,Am]
   refine qc rfl (by have:=Bo (λi=>!decide ((pAt ps i).2.1<=1))<|P.take<|0+m;have B:=Bp (i:=0+m) (l:=P);rw[jI];unfold O5;lia)<|A8.2<|d6.2<|M5.2<|M7 rfl<|d6.2<|A8.2<|d6.2<|M5.2<|M7 rfl<|d6.2<|v4.2<|x4.2<|B9 rfl<|l8.2<|d7 jX<|d6.2<|l5.2<|O7.2<|M5.2<|M7 rfl<|l9.2<|vn hr<|h8.2 #v[v8 rfl,h8.2 #v[v8 rfl,#v[_,rfl,rfl,_,_,_,_,_,by rw[K,J,yx];rfl] ]]
  .have A:¬1<(pAt ps i).2.1:=Ig A;have K:O5 (P.take<|0+m+1) ps=O5 (P.take<|0+m) ps:=by unfold O5;rw[H,Ih,NO (by simp;lia),PU,Am]
   have J:A4 (bJ (P.take<|0+m+1) ps)=A4 (bJ (P.take<|0+m) ps)++[.int (i:Int)]:=by unfold bJ;rw[H,Ih,Md (by simp;lia),PU];simp only[A4,yx,kX,Cq]
   refine qc rfl (by have:=Bo (λi=>decide ((pAt ps i).2.1<=1))<|P.take<|0+m;have B:=Bp (i:=0+m) (l:=P);rw[bA];unfold bJ;lia)<|M5.2<|M7 rfl<|#v[_,rfl,rfl,_,_,_,_,_,by rw[K,J];rfl]
 .rintro E N ⟨rfl,G,D,C,n,p,rfl⟩;rw[bA,yo,Il];have V:(aX P ps).length<=ps.length:=by have:=Bo (λi=>!decide (i∈P))<|List.range ps.length;rwa[xB]at this
  have W:(O5 P ps).length<=ps.length:=by have:=Bo (λi=>!decide ((pAt ps i).2.1<=1)) P;unfold O5;lia
  have S:(aX P ps).map (λi=>prD (i,pAt ps i))=(aX P ps).map λi=>prD (i,W6 P (kb r) ps i):=Br λi v=>by
   unfold W6;rw[oj (by have:=(xM.1 v).2;simpa using this) ]
  have T:(O5 P ps).map (λi=>prD (i,fe (kb r)<|pAt ps i))=(O5 P ps).map λi=>prD (i,W6 P (kb r) ps i):=Br λi v=>by unfold W6;rw[nY ((xM.1 v).1) ]
  have M:(aX P ps).map (λi=>prD (i,pAt ps i))++(O5 P ps).map (λi=>prD (i,fe (kb r)<|pAt ps i))=((aX P ps++O5 P ps).map λi=>(i,W6 P (kb r) ps i)).map prD:=by rw[S,T,<-yx,sJ];rfl
  have o:∀E st,st = .list ((O9 (tnB r) P ps).map λi=>prD (i,W6 P (kb r) ps i))->E=[some<|.dat<|.tuple [.int h,pl,r],some<|.dat<|.tuple<|ps.map pnD,some<|.dat r,some<|.dat<|.tuple<|A4 P,some<|.dat<|.list<|(aX P ps).map λi=>prD (i,pAt ps i),some<|.own<|(O5 P ps).map λi=>prD (i,fe (kb r)<|pAt ps i),some<|.own<|A4<|bJ P ps,G,D,C,n,some<|.dat st] ->
    wp (mRt (K0<|d4 (sV 11)<|d4 (sV 3)<|d4 (sN M6<|d4 (sW 6) j3) j3) E N) (tZ Q):=by rintro E st rfl rfl;walk_at "go";exact q
  refine k7 (r6.2 (y6.2 (zN.2 (cj.2 (v4.2 (x4.2 (B9 rfl (l8.2 (d7 ((show eqD false r (.str "turns")=some (.bool<|tnB r) by let(x,rfl,X):=U5 hr;show some (CD.bool<|if false=true then !decide (x = "turns") else decide (x = "turns"))=_;rw[oj<|by decide];rfl))<|d7 rfl<|X3 (λI=>?_) λI=>?_)))))))))
  .refine v4.2<|x4.2<|B9 rfl<|x4.2<|du rfl<|d7 (Jm ?_) #v[i6 rfl,k7<|o _ _ ?_ rfl]
   .rw[jI,jI];lia
   .rw[M,sJ];unfold O9;rw[nY I];rfl
  .refine E5.2<|d6.2<|v4.2<|x4.2<|B9 rfl<|x4.2<|du rfl<|d7 (Jm ?_)<|h8.2 ?_
   .rw[jI,jI];lia
   .rw[M];refine d7 (EI ((hZ c u).symm.map λi=>(i,W6 P (kb r) ps i)) (by rw[IB];exact Fx P ps) (by rw[jI,(hZ c u).length_eq];have:=Bo (λi=>!gh P ps i)<|List.range ps.length;unfold O9;rw[oj<|by simp];rw[xB]at this;lia) ) #v[i6 rfl,k7<|o _ _ ?_ rfl];rw[I,sJ];rfl
def JA (hr:r∈W8)(hp:mB pl ps.length)(hl:ps.length+bt.length<64)
  (q:Q (.tuple [.tuple<|(after h (kOf r) (kb r) (tnB r)<|K1 pl ps bt).map pnD,.int ((bt.length-R5 pl ps.length bt.length:Nat):Int),.tuple<|A4<|bJ (C8 h (kOf r) (kb r)<|K1 pl ps bt)<|K1 pl ps bt]) F) :
  wp (og [.dat<|.tuple [.int (h:Int),plD pl,r],.dat<|.tuple<|ps.map pnD,.dat<|.tuple<|bt.map cmD] F) Q:=by
 have a:(K1 pl ps bt).length<64:=by rw[Ar];unfold R5;split <;> lia
 unfold og;walk_at "go";refine qz hp (by lia) ?_;walk_at "go";refine yU hr a<|d7 rfl<|k7<|O6.2<|A8.2<|d6.2<|E5.2<|d6.2<|P1.2<|x8.2<|x4.2<|B9 rfl<|d7 P6 #v[sz ?_,?_]
 .have b:=Bo (λi=>!gh (C8 h (kOf r) (kb r)<|K1 pl ps bt) (K1 pl ps bt) i)<|List.range (K1 pl ps bt).length;rw[jI,(pL (tn:=tnB r) (gI (h:=h) (k:=kOf r) (kp:=kb r) (ps:=K1 pl ps bt)) bG).length_eq ];unfold O9;rw[oj<|by simp];rw[xB]at b;lia
 .refine pI (f:=λi=>pnD<|W6 (C8 h (kOf r) (kb r)<|K1 pl ps bt) (kb r) (K1 pl ps bt) i) _ _ _ (λi d F Q q=>?_) ?_
  .walk_at "go";exact q
  .walk_at "go";unfold after at q;rwa[sJ]at q
end
def fC {f:Nat->CD}(h:((List.range n).map f)[i]? = some d):i<n/\d=f i:=by rw[sq]at h;let(b,e,rfl):=sA.1 h;let(a,rfl):=pG.1 e;simp only[xB]at a;exact#v[a,by simp]
def zU {me:DE->M CD}{α:Type}{x}{f}{rest:DE}{Q:List CD->FdS->Prop}:∀(ds:List α) o,(∀d∈ds,∀F (Q:CD->FdS->Prop),Q (f d) F->wp (me (some (.dat<|x d)::rest) F) Q)->Q (ds.map f) F->wp (W1 (bN 0) R9 me (ds.map x) (o::rest) F) Q:=λds o h q=>by
 have a:∀(l:List α) o Q,(∀d∈l,d∈ds)->Q (l.map f) F->wp (W1 (bN 0) R9 me (l.map x) (o::rest) F) Q:=by
  intro l;induction l with
  | nil=>intro o Q _ q;exact d8.2 q
  | cons d l c =>intro o Q b q;rw[kX,W1];have e:bN 0 (x d) (o::rest)=some (some (.dat<|x d)::rest):=rfl;rw[e,tV,c8];refine jv.2 ?_;rw[nY rfl,c8];refine h d (b d ll) F _ ?_;rw[c8];exact c _ _ (λz g=>b z<|kN _ g)<|d8.2 q
 exact a ds o Q (λd i=>i) q
def JK {m:DE->M Out}{F:FdS}{Q:Out->FdS->Prop}(he:Y1 E i=some ds)(q:wp (m (E.set i<|some<|.dat<|.list ds) F) Q):wp (DF i m E F) Q:=by unfold DF;rwa[he,tV]
def HY {a:DE->M CD}{F:FdS}{Q:Out->FdS->Prop}(he:E[i]? = some (some<|.dat<|.int x))(q:wp (a E F) λd F1=>∃y,d = .int y/\Q (.nx<|E.set i<|some<|.dat<|.int<|f x y) F1):wp (yL f i a E F) Q:=by
 unfold yL;rw[he];rw[c8];refine i4 q ?_;rintro d F1 ⟨y,e,q⟩
 subst e;have b:bN i (.int<|f x y) E=some (E.set i<|some<|.dat<|.int<|f x y):=by unfold bN;rw[nY ((pG.1 he).1) ]
 show wp ((bN i (.int<|f x y) E).bind _) Q;rw[b];exact d8.2 q
def HK {k:Nat}(h:k<=1000):Y2 (.list [d]) (.int (k:Int))=some (.list<|List.replicate k d):=by
 have e:(List.replicate ((k:Int)).toNat [d]).flatten=List.replicate k d:=by
  rw[yB];clear h;induction k with
  | zero=>rfl
  | succ k f=>rw[Ft,Lp,f,Ft];rfl
 rw[<-e];have a:[d].length*((k:Int)).toNat<=QX:=sz (by rw[yB];show 1*k<=_;lia);have c:-(2 ^ 63)<=(k:Int):=by lia
 have b:(k:Int)<2 ^ 63:=by lia
 generalize (k:Int)=i at a c b;exact nY #v[c,b,a]
end
section
structure Sto {α:Type} (lt:α->α->Bool):Prop where
 irr:∀a,lt a a=false
 tr:∀a b c,lt a b=true->lt b c=true->lt a c=true
 tot:∀a b,a≠b->lt a b=true\/lt b a=true
def Sto.as {lt} (h:Sto lt){b:α} (h1:lt a b=true):lt b a=false:=by
 cases e:lt b a
 .rfl
 .have:=h.tr a b a h1 e;rw[h.irr a]at this;cases this
section
variable {α:Type}[DecidableEq α]{lt:α->α->Bool}
def X1 (lt:α->α->Bool):List α->List α->Bool
 | [],[]=>false
 | [],_::_=>true
 | _::_,[]=>false
 | a::l,b::m=>if a=b then X1 lt l m else lt a b
theorem qC (h:Sto lt):∀l,X1 lt l l=false
 | []=>rfl
 | a::l=>by rw[X1,nY rfl];exact qC h l
theorem vT (h:Sto lt):∀l m n,X1 lt l m=true->X1 lt m n=true->X1 lt l n=true
 | [],[],n,h1,h2=>by cases h1
 | [],b::m,[],h1,h2=>by cases h2
 | [],b::m,c::n,h1,h2=>rfl
 | a::l,[],n,h1,h2=>by cases h1
 | a::l,b::m,[],h1,h2=>by cases h2
 | a::l,b::m,c::n,h1,h2=>by
  rw[X1]at h1 h2 ⊢;by_cases f:a=b
  .subst f;rw[nY rfl]at h1;by_cases d:a=c
   .rw[nY d]at h2 ⊢;exact vT h l m n h1 h2
   . rwa[oj d]at h2 ⊢
  .rw[oj f]at h1;by_cases d:b=c
   .subst d;rwa[oj f]
   .rw[oj d]at h2;have e:=h.tr a b c h1 h2;rwa[oj λz=>by subst z;rw[h.irr]at e;cases e]
theorem pN (h:Sto lt):∀l m,l≠m->X1 lt l m=true\/X1 lt m l=true
 | [],[],n=>absurd rfl n
 | [],b::m,_=>.inl rfl
 | a::l,[],_=>.inr rfl
 | a::l,b::m,n=>by
  rw[X1,X1];by_cases e:a=b
  .rw[nY e,nY e.symm];exact pN h l m λz=>n (by rw[e,z])
  .rw[oj e,oj λz=>e z.symm];exact h.tot a b e
def pH (h:Sto lt):Sto (X1 lt):=#v[qC h,vT h,pN h]
theorem tS (h:∀x,p x=true->q x=true):∀l:List α,(l.filter p).length<=(l.filter q).length
 | []=>qD _
 | a::l=>by
  have c:=tS h l;rw[Gw,Gw];by_cases b:p a=true
  .rw[nY b,nY<|h a b,qN,qN];lia
  .rw[oj b];split
   .rw[qN];lia
   .exact c
theorem sx (h:∀x,p x=true->q x=true)(h1:p x=false)(h2:q x=true):∀{l:List α},x∈l->(l.filter p).length<(l.filter q).length
 | [],b=>by cases b
 | a::l,b=>by
  rw[Gw,Gw];rcases oZ.1 b with rfl | b
  .have:=tS h l;rw[oj (by rw[h1];decide),nY h2,qN];lia
  .have d:=sx h h1 h2 b;by_cases c:p a=true
   .rw[nY c,nY<|h a c,qN,qN];lia
   .rw[oj c];split
    .rw[qN];lia
    .exact d
def rZ (lt:α->α->Bool)(l:List α)(i:Nat):Int:=match l[i]? with
 | some a=>((l.filter λb=>lt b a).length:Nat)
 | none=>0
def wY (h:Sto lt)(nd:l.Nodup)(hij:i≠j)(ea:l[i]? = some a)(eb:l[j]? = some b):lt a b=decide (rZ lt l i<rZ lt l j):=by
 unfold rZ;rw[ea,eb];have e:∀{a b},a∈l->lt a b=true->(l.filter λc=>lt c a).length<(l.filter λc=>lt c b).length:=λ{a b} o d=>sx (λc n=>h.tr c a b n d) (h.irr a) d o
 rcases h.tot a b (λz=>by subst z;let(s,q):=pG.1 ea;let(r,p):=pG.1 eb;exact hij<|(Og nd).1<|q.trans p.symm) with d | f
 .have:=e (uP ea) d;rw[d,xq<|by lia]
 .have:=e (uP eb) f;rw[h.as f,yb<|by lia]
def yk (lt:α->α->Bool)(d:α):List α->List α
 | []=>[d]
 | e::r=>if lt e d=true then e::yk lt d r else d::e::r
def vL (lt:α->α->Bool):List α->List α
 | []=>[]
 | d::r=>yk lt d<|vL lt r
theorem lB (lt) (d):∀l:List α,(yk lt d l).Perm (d::l)
 | []=>.refl _
 | e::r=>by
  rw[yk];split
  .exact((lB lt d r).cons e).trans<|.swap d e r
  .exact .refl _
theorem dz (lt):∀l:List α,(vL lt l).Perm l
 | []=>.refl _
 | d::r=>(lB lt d _).trans<|(dz lt r).cons d

structure Itm (x:α->CD) (lt:α->α->Bool):Prop where
 eq:∀a b,CD.eqv (x a) (x b)=decide (a=b)
 lt:∀a b,a≠b->ltW (x a) (x b)=some (lt a b)
theorem iQ (h:Itm x lt):∀l m,ltM (l.map x) (m.map x)=some (X1 lt l m)
 | [],[]=>rfl
 | [],b::m=>rfl
 | a::l,[]=>rfl
 | a::l,b::m=>by
  rw[kX,kX,ltM,h.eq,X1];by_cases e:a=b
  .rw[nY<|xq e,nY e];exact iQ h l m
  .rw[oj (by rw[yb e];decide),oj e];exact h.lt a b e
abbrev rwD (x:α->CD)(l:List α):CD:=.tuple<|l.map x
theorem rf (h:Itm x lt)(d):∀l,rX (d.map x) (l.map (·.map x))=(yk (X1 lt) d l).map (·.map x)
 | []=>rfl
 | e::r=>by
  rw[kX,rX,yk,iQ h];by_cases z:X1 lt e d=true
  .rw[nY (by rw[z]),nY z,kX,rf h d r]
  .rw[oj (by simpa using z),oj z];rfl
theorem lE (h:Itm x lt):∀l,fu (l.map (·.map x))=(vL (X1 lt) l).map (·.map x)
 | []=>rfl
 | d::r=>by rw[kX,fu,lE h r,rf h];rfl
def lP (h:Itm x lt)(ho:Sto lt)(nd:as.Nodup)(h64:as.length<64)(hg:∀l∈as,ir<|l.map x):aY [.list<|as.map<|rwD x]=some (.list<|(vL (X1 lt) as).map<|rwD x):=by
 have e:as.map (rwD x)=(as.map (·.map x)).map CD.tuple:=by rw[sJ];rfl
 rw[e,wK (κ:=rZ (X1 lt) as) #v[by rw[jI];exact#v[tQ h64,by lia],λd k=>by let(l,hl,rfl):=ue.1 k;exact hg l hl,λi j p o c g f=>?_],lE h,sJ]
 .rfl
 .rw[sq]at g f;let(a,n,rfl):=sA.1 g;let(b,m,rfl):=sA.1 f;rw[iQ h,wY (pH ho) nd c n m]
def O8 {β:Type}(l:List (List α × β))(a:List α)(v:β):List (List α × β):=if a∈l.map (·.1) then l.map (λp=>if p.1=a then(p.1,v) else p) else l++[(a,v)]
def G6 {β:Type}(l:List (List α × β))(a:List α):Option β:=(l.find? λp=>decide (p.1=a)).map (·.2)
structure Kys x:Prop where
 is:∀l,(N5 0<|rwD x l).isSome=true
 inj:∀l m:List α,N5 0 (rwD x l)=N5 0 (rwD x m)↔l=m
abbrev kvD {β:Type}(x:α->CD)(y:β->CD)(p:List α × β):CD×CD:=(rwD x p.1,y p.2)
theorem cu (h:Kys x)(a):∀l:List (List α × β),Q4 0 (l.map<|kvD x y) (rwD x a)=(G6 l a).map y
 | []=>rfl
 | p::l=>by
  have b:=cu (y:=y) h a l;unfold Q4 G6 at b ⊢;rw[kX];by_cases z:p.1=a
  .rw[yT (p:=λp:CD×CD=>decide (N5 0 p.1=N5 0 (rwD x a)))<|xq<|(h.inj _ _).2 z,yT (p:=λp:List α × β=>decide (p.1=a))<|xq z];rfl
  . rwa[zb (p:=λp:CD×CD=>decide (N5 0 p.1=N5 0 (rwD x a)))<|λq=>z<|(h.inj _ _).1<|xO q,zb (p:=λp:List α × β=>decide (p.1=a))<|λq=>z<|xO q]
theorem bC :∀{l:List (List α × β)},(G6 l a).isSome=true↔a∈l.map (·.1)
 | []=>by simp[G6]
 | p::l=>by
  have b:=bC (a:=a) (l:=l);unfold G6 at b ⊢;by_cases z:p.1=a
  .rw[yT (p:=λp:List α × β=>decide (p.1=a))<|xq z];simp[z]
  .rw[zb (p:=λp:List α × β=>decide (p.1=a))<|λq=>z<|xO q,b,kX,oZ];exact#v[.inr,λq=>q.resolve_left λe=>z e.symm]
def ja (h:Kys x)(a) (v) (l:List (List α × β)):G2 0 (l.map<|kvD x y) (rwD x a) (y v)=(O8 l a v).map (kvD x y):=by
 unfold G2 O8;rw[cu h];by_cases z:a∈l.map (·.1)
 .have:=bC.2 z;rw[nY (by rwa[NF]),nY z,sJ,sJ];refine Br λp _=>?_
  by_cases q:p.1=a
  .simp only[Function.comp];rw[nY<|(h.inj _ _).2 q,nY q]
  .simp only[Function.comp];rw[oj λw=>q<|(h.inj _ _).1 w,oj q]
 .have:=λw=>z<|bC.1 w
  rw[oj (by rwa[NF]),oj z,yx];rfl
def lD {l:List (List α × β)}(nd:(l.map (·.1)).Nodup):((O8 l a v).map (·.1)).Nodup/\(O8 l a v).length<=l.length+1:=by
 unfold O8;split
 .rename_i z;refine#v[?_,by rw[jI];lia];have e:(l.map λp=>if p.1=a then(p.1,v) else p).map (·.1)=l.map (·.1):=by
   rw[sJ];refine Br λp _=>?_
   simp only[Function.comp];split <;> rfl
  rwa[e]
 .rename_i z;refine#v[?_,by rw[xy];exact qD _];rw[yx,Pf];exact#v[nd,by simp,λb f c d e=>z (by simp at d;rwa[<-d,<-e])]
def eK {P:List α × β->Prop}(h:∀p∈l,P p)(hv:P (a,v)):∀p∈O8 l a v,P p:=λp b=>by
 unfold O8 at b;split at b
 .let(q,c,rfl):=ue.1 b;split
  .rename_i e;rwa[e]
  .exact h q c
 .rcases zj.1 b with b | b
  .exact h p b
  . rwa[xp.1 b]
theorem gx :∀{l:List (List α × β)},G6 l a=some v->(a,v)∈l
 | [],h=>by cases h
 | p::l,h=>by
  unfold G6 at h;by_cases z:p.1=a
  .rw[yT (p:=λp:List α × β=>decide (p.1=a))<|xq z]at h;cases h;rw[<-z];exact ll
  .rw[zb (p:=λp:List α × β=>decide (p.1=a))<|λq=>z<|xO q]at h;exact kN _<|gx h
theorem vY :∀{l:List (List α × β)},(l.map (·.1)).Nodup->(a,v)∈l->G6 l a=some v
 | [],_,h=>by cases h
 | p::l,nd,h=>by
  rw[kX,FY]at nd;unfold G6;rcases oZ.1 h with rfl | h
  .rw[yT (p:=λp:List α × β=>decide (p.1=a))<|xq rfl];rfl
  .rw[zb<|λq=>nd.1 (by rw[xO q];exact ue.2 #v[_,h,rfl])];exact vY nd.2 h
def lu (nd:(l.map (·.1)).Nodup)(hp:as.Perm (l.map (·.1))):∃rs:List (List α × β),rs.Perm l/\rs.map (·.1)=as/\∀p∈rs,G6 l p.1=some p.2:=by
 have i:∀as,(∀a∈as,∃v,G6 l a=some v)->∃rs:List (List α × β),rs.map (·.1)=as/\∀p∈rs,G6 l p.1=some p.2:=by
  intro as;induction as with
  | nil=>intro _;exact#v[[],rfl,λp hp=>by cases hp]
  | cons a as r =>
   intro h;let(rs,f,d):=r λb s=>h b<|kN _ s
   let(v,w):=h a ll;refine#v[(a,v)::rs,by rw[kX,f],λp hp=>?_];rcases oZ.1 hp with rfl | hp
   .exact w
   .exact d p hp
 let(rs,f,d):=i as (λa t=>Cc.1<|bC.2<|hp.mem_iff.1 t);refine#v[rs,?_,f,d];have g:(rs.map (·.1)).Nodup:=by rw[f];exact hp.nodup_iff.2 nd
 refine(Qr ((IB.1 g).imp λh e=>h<|AZ _ e) ((IB.1 nd).imp λh e=>h<|AZ _ e) ).2 λp=>#v[λh=>gx<|d p h,λh=>?_]
 have:p.1∈rs.map (·.1):=by rw[f];exact hp.mem_iff.2<|ue.2 #v[p,h,rfl]
 let(q,j,m):=ue.1 this;have k:=d q j;rw[m,vY nd (h) ]at k;have:=Qv m (rn k).symm;rwa[<-this]
end
def rB (a b:Pn):Bool:=if a.1=b.1 then(if a.2.1=b.2.1 then !a.2.2&&b.2.2 else decide (a.2.1<b.2.1)) else decide (a.1<b.1)
def Ip :Sto rB:=by
 refine#v[λa=>?_,λa b c o n=>?_,λa b h=>?_]
 .unfold rB;rw[nY rfl,nY rfl];cases a.2.2 <;> rfl
 .let(i,g,k):=a;let(f,b2,j):=b;let(m,l,r):=c;unfold rB at *;by_cases e:i=f <;> by_cases d:f=m <;> by_cases q:g=b2 <;> by_cases p:b2=l <;> simp_all <;> (try lia);all_goals (first | lia | (split <;> first | lia | simp_all | (split <;> first | lia | simp_all)))
 .let(i,g,k):=a;let(f,b2,j):=b;unfold rB;by_cases e:i=f
  .rw[nY e,nY e.symm];by_cases d:g=b2
   .rw[nY d,nY d.symm];subst e d;cases k <;> cases j <;> simp_all
   .rw[oj d,oj λz=>d z.symm];simp only[NH];lia
  .rw[oj e,oj λz=>e z.symm];simp only[NH];lia
def MF :(CD.int a).eqv (.int b)=decide (a=b):=by simp[CD.eqv];rfl
def Iq :(CD.bool a).eqv (.bool b)=decide (a=b):=by cases a <;> cases b <;> decide
def Lc :(CD.tuple xs).eqv (.tuple ys)=CD.eqvAll xs ys:=by simp only[CD.eqv]
def FV :Itm pnD rB:=by
 refine#v[λa b=>?_,λa b h=>?_]
 .show(CD.tuple _).eqv _=_;simp only[CD.eqv,CD.eqvAll,Bool.and_true];rw[Ov];simp[Prod.ext_iff,and_assoc]
 .show ltM [.int a.1,.int a.2.1,.bool a.2.2] [.int b.1,.int b.2.1,.bool b.2.2]=_;unfold rB;rw[ltM,MF,ltM,MF,ltM,Iq];by_cases e:a.1=b.1
  .rw[nY<|xq e,nY e];by_cases d:a.2.1=b.2.1
   .have f:a.2.2≠b.2.2:=λz=>h<|Qv e<|Qv d z
    rw[nY<|xq d,nY d,oj (by rw[yb f];decide)];rfl
   .rw[oj (by rw[yb d];decide),oj d];rfl
  .rw[oj (by rw[yb e];decide),oj e];rfl
end
section
theorem fh:∀l:List Pn,cX (l.map pnD)=some (l.map λp=>.inr [.inl p.1,.inl p.2.1,.inl<|bIn p.2.2])
 | []=>rfl
 | c::l=>by rw[kX,cX,fh l];rfl
def Fh (h:bIn a=bIn b):a=b:=by cases a <;> cases b <;> first | rfl | (exact absurd h<|by decide)
def dG :Kys pnD:=by
 have c:∀l,N5 0 (rwD pnD l)=cX (l.map pnD):=λl=>rfl
 refine#v[λl=>?_,λl m=>?_]
 .rw[c,fh];rfl
 .rw[c,c,fh,fh];refine#v[λh=>(List.map_inj_right λa b e=>?_).1<|rn h,λh=>by rw[h]];injection e with e
  injection e with g f
  injection f with f d
  injection d with d _
  injection g with g
  injection f with f
  injection d with d
  exact Qv g<|Qv f<|Fh d
def uF (l:List Pn):ir (l.map pnD):=by
 refine#v[?_,?_,λx a=>?_]
 .induction l with
  | nil=>rfl
  | cons c l b=>rw[kX];simp only[CD.canLayAll0,CD.canLay0,b,Bool.and_self]
 .refine uj ((Y3 (k:=2)).2 λd e=>?_) (by decide);let(c,_,rfl):=ue.1 e;simp[CD.depth,CD.depthAll]
 .cases l with
  | nil=>cases a
  | cons c l=>exact#v[_,(rn a).symm]
section
variable {F:FdS}
def oY {Q:Out->FdS->Prop}(h:i<E.length)(q:Q (.nx<|E.set i<|some<|.dic true c []) F):wp (cZ i c E F) Q:=by unfold cZ;rw[nY h];exact d8.2 q
def uk {Q:Out->FdS->Prop}{k:DE->M CD}(he:V0 E i=some (true,c,ps))(q:wp (v E F) λx F1=>wp (k E F1) λy F2=>(N5 c y).isSome=true/\ps.length<=1000/\Q (.nx<|E.set i<|some<|.dic true c<|G2 c ps y x) F2):wp (lV i c v k E F) Q:=by
 unfold lV;rw[c8];refine i4 q λx F1 h=>?_
 rw[c8];refine i4 h λy F2 h=>?_
 rw[he,tV];rw[nY #v[rfl,rfl,h.1,xr h.2.1 (by rw[xD];decide)]];exact d8.2 h.2.2
variable {Q:CD->FdS->Prop}
def zP {k:DE->M CD}(he:V0 E i=some (w,c,ps))(q:wp (k E F) λy F1=>(N5 c y).isSome=true/\oB (Q4 c ps y) λz=>Q z F1):wp (lW i c k E F) Q:=by
 unfold lW;rw[c8];refine i4 q λy F1 h=>?_
 rw[he,tV];rw[nY #v[rfl,h.1]];let(z,e,q):=h.2;rw[e,tV];exact d8.2 q
def xg {z:DE->M CD}(he:V0 E i=some (w,c,ps))(q:wp (k E F) λy F1=>wp (z E F1) λr F2=>(N5 c y).isSome=true/\Q ((Q4 c ps y).getD r) F2):wp (kM i c k z E F) Q:=by
 unfold kM;rw[c8];refine i4 q λy F1 h=>?_
 rw[c8];refine i4 h λr F2 h=>?_
 rw[he,tV];rw[nY #v[rfl,h.1]];exact d8.2 h.2
def uo (he:V0 E i=some (w,c,ps))(q:Q (.list (ps.map (·.1))) F):wp (ie i c E F) Q:=by unfold ie;rw[he,tV,nY rfl];exact d8.2 q
end
theorem yV {α:Type}{x}{P:α->Prop}:∀{ds:List CD},(∀d∈ds,∃a,d=x a/\P a)->∃l:List α,ds=l.map x/\∀a∈l,P a
 | [],_=>#v[[],rfl,λ_ z=>by cases z]
 | d::ds,h=>by
  let(l,e,hl):=yV λd f=>h d<|kN _ f
  let(a,i,g):=h d ll;refine#v[a::l,by rw[kX,<-e,<-i],λb c=>?_];rcases oZ.1 c with rfl | c
  .exact g
  .exact hl b c
abbrev Kw (α:Type):=List α×Int
abbrev kwD (x:α->CD)(p:Kw α):CD:=.tuple [rwD x p.1,.int p.2]
abbrev kiD (x:α->CD)(p:Kw α):CD×CD:=kvD x CD.int p
section

def HV [DecidableEq α](hi:Itm x lt)(ho:Sto lt)(hk:Kys x)(hg:∀l:List α,ir<|l.map x)(nd:(l.map (·.1)).Nodup)(h64:l.length<64)(he:V0 E i=some (w,0,l.map<|kiD x)){Q:CD->FdS->Prop}
  (q:∀rs:List (Kw α),rs.Perm l->Q (.list<|rs.map<|kwD x) F):wp (sLC (M4<|sN aY<|d4 (ie i 0) j3) 1 [i] (bN 0) R9 (K0<|d4 (sV 0)<|d4 (lW 1 0<|sV 0) j3) E F) Q:=by
 refine P1.2<|x8.2<|E5.2<|d6.2<|uo he<|h8.2 ?_;have e:(l.map<|kiD x).map (·.1)=(l.map (·.1)).map (rwD x):=by rw[sJ,sJ];rfl
 rw[e];refine d7 (lP hi ho nd (by rwa[jI]) λl _=>hg l)<|d7 P6 ?_;let(rs,a,c,b):=lu nd (dz (X1 lt) (l.map (·.1)));rw[<-c,sJ];have hl:rs.length<64:=by rwa[a.length_eq]
 refine#v[sz (by rw[jI];lia),?_];have d:lj 1 [i] E=[none,some<|.dic w 0<|l.map<|kiD x]:=by unfold lj;rw[kX,Cq,J1 he];rfl
 rw[d];refine zU (x:=λp:Kw α=>rwD x p.1) rs _ (λp a F Q q=>A8.2 (d6.2<|M5.2<|M7 rfl<|d6.2<|zP rfl<|M5.2<|M7 rfl #v[hk.is p.1,d7 (by rw[cu hk,b p a];rfl)<|h8.2 #v[v8 rfl,q]]) )<|q rs a
def bU {n:Nat}(h:n<=100000):aM [.int (n:Int)]=some ((List.range n).map λi=>.int (i:Int)):=by have:=Ai h;rwa[vW]at this
end
def eE (nm:List Str):List DV->M CD:=R6 nm (mSq (x6 2<|s2 ixD (sC<|.list [.str "first",.str "last",.str "short",.str "front",.str "lastoff",.str "shortoff",.str "frontoff",.str "turns"])<|l6 J6<|vF 0<|vD (sC<|.int 8) u8)
  (mSq (x6 3<|s2 N4 (sC<|.int 1)<|l6 J6<|vF 0<|vD (sC<|.int 3) u8)
  (mSq (mIf (uB<|s2 (eqD false) (l6 J6<|vF 0<|vD (sC<|.int 3) u8)<|sC<|.int 0) (mRt<|K0<|d4 (sV 3)<|d4 (sC .none)<|d4 (sV 2) j3) mNx)
  (mRt<|K0<|d4 (sV 3)<|d4 (l6 J6<|vF 0<|vD (s2 N4 (sW 1)<|sC<|.int 1) u8)<|d4 (sV 2) j3))))
def cg (h:E[i]? = some (some<|.own ds)):Y1 E i=some ds:=by unfold Y1;rw[h]
def HsB (m:Nat)(d:CD):Prop:=∃(h:Nat) (a:Option Nat) (r:CD),d = .tuple [.int (h:Int),plD a,r]/\1<=h/\h<=3/\r∈W8/\∀v,a=some v->v<=m
def eqZ :eqD false (.int a) (.int b)=some (.bool<|decide (a=b)):=by show some (CD.bool<|if false=true then !(CD.int _).eqv (.int _) else(CD.int _).eqv (.int _))=_;rw[oj (by decide),nU]
def xu (hnm:nm.length=4){m:Nat}(hm:m<=1000):Tr (eE nm) [.feed,.dat<|.int (m:Int)] 4 (HsB m):=Tr.of λF C=>by
 refine V2.2 ?_;have f:t9 nm [.feed,.dat<|.int m ]=[some .feed,some<|.dat<|.int m,none,none]:=by unfold t9;rw[hnm];rfl
 rw[f];refine r6.2<|y6.2<|v4.2<|l8.2<|l5.2<|dN.2<|dC rfl<|O7.2<|l8.2<|l9.2<|G1 (by decide) (by decide) (by lia) λy H l k u=>?_
 obtain⟨r,e,a⟩:∃d,ixD (.list W8) (.int y)=some d/\d∈W8:=by
  have:y=0\/y=1\/y=2\/y=3\/y=4\/y=5\/y=6\/y=7:=by lia
  rcases this with rfl | rfl | rfl | rfl | rfl | rfl | rfl | rfl <;> exact#v[_,rfl,by simp[W8]]
 refine d7 e #v[i6 rfl,k7<|r6.2<|y6.2<|v4.2<|l8.2<|l5.2<|dN.2<|dC rfl<|O7.2<|l8.2<|l9.2 (G1 (by decide) (by decide) (by lia) λx G o n t=>d7 K3 #v[i6 rfl,k7 ?_]) ]
 obtain⟨h,g⟩:∃h:Nat,1+x=h:=#v[(1+x).toNat,by lia];rw[g];refine r6.2<|cV.2<|cj.2<|v4.2<|l5.2<|dN.2<|dC rfl<|O7.2<|l8.2<|l9.2<|G1 (by decide) (by decide) (by lia) λz E j i s=>l8.2 (d7 eqZ<|d7 rfl<|X3 (λ_=>?_) λ_=>?_)
 .exact O6.2 (A8.2<|d6.2<|M5.2<|M7 rfl<|d6.2<|l8.2<|d6.2<|M5.2<|M7 rfl<|h8.2 #v[v8 rfl,Ae<|M0 #v[by lia,h,none,r,rfl,by lia,by lia,a,λv c=>(nomatch c)]])
 .refine cQ.2<|k7<|O6.2<|A8.2<|d6.2<|M5.2<|M7 rfl<|d6.2<|l5.2<|dN.2<|dC rfl<|O7.2<|v4.2<|x4.2<|B9 rfl<|l8.2<|d7 K3<|l9.2<|G1 (by lia) (by lia) (by lia) λp D B A q=>d6.2 (M5.2<|M7 rfl<|h8.2 #v[v8 rfl,M0 #v[by lia,?_]])
  obtain⟨v,rfl⟩:∃v:Nat,p=v:=#v[p.toNat,by lia];exact#v[h,some v,r,rfl,by lia,by lia,a,λw b=>by cases b;lia]
def je (nm:List Str):List DV->M CD:=R6 nm (mSq (mIf (uB<|s2 (isD true) (s2 ixD (sW 1)<|sC<|.int 1)<|sC .none) (x6 2<|sN ye<|d4 (sW 2)<|d4 (s2 ixD (sW 1)<|sC<|.int 1) j3) mNx)
  (mSq (x6 4<|s2 Y2 (s2 ixD (sW 1)<|sC<|.int 0)<|sN iM<|d4 (s2 (inD false) (s2 ixD (sW 1)<|sC<|.int 2)<|sC<|.tuple [.str "first",.str "last",.str "short",.str "front"]) j3)
  (mSq (kW 5<|oF j3)
  (mSq (Z0 (aZ<|d4 (l6 J6<|vF 0<|vD (s2 N4 (sW 2)<|sC<|.int 1) u8) j3) (bN 6) (mSq (x6 7<|Ap (s2 gtD (sW 4)<|sC<|.int 0)<|s2 (eqD false) (l6 J6<|vF 0<|vD (sC<|.int 3) u8)<|sC<|.int 0)
  (mSq (x6 4<|s2 lq (sW 4)<|sN iM<|d4 (sW 7) j3)
  (kI 5<|K0<|d4 (l6 J6<|vF 0<|vD (sC<|.int 2) u8)<|d4 (s2 N4 (sC<|.int 1)<|l6 J6<|vF 0<|vD (sV 3) u8)<|d4 (sV 7) j3))))
  (mRt<|sN M6<|d4 (sW 5) j3)))))
structure StB (m L:Nat) pl kp (ps:List Pn):Prop where
 len:ps.length<=m
 fit:mB pl ps.length
 ok:∀p∈ps,(0<=p.1/\p.1<=1)/\(1<=p.2.1/\p.2.1<=L)/\(p.2.2=true->kp=true)
def Nk :ye [.int x,.int y]=some (.int<|min x y):=by show some (CD.int<|if y<x then y else x)=_;congr 2;split <;> lia
def C9 (ps:List Pn):Nat:=(ps.filter λp=>p.2.2).length
def De (hnm:nm.length=8){h m L:Nat}(hh:h<=1000)(hr:r∈W8)(hm:m<=40)(hL1:1<=L)(hL:L<=1000):Tr (je nm) [.feed,.dat<|.tuple [.int (h:Int),plD pl,r],.dat<|.int (m:Int),.dat<|.int (L:Int)] (1+3*m)
  (λd=>∃ps,d = .tuple (ps.map pnD)/\StB m L pl (kb r) ps/\C9 ps<=h):=Tr.of λF hF=>by
 refine V2.2 ?_;have es:t9 nm [.feed,.dat<|.tuple [.int h,plD pl,r],.dat<|.int m,.dat<|.int L ]=[some .feed,some<|.dat<|.tuple [.int h,plD pl,r],some<|.dat<|.int m,some<|.dat<|.int L,none,none,none,none]:=by unfold t9;rw[hnm];rfl
 rw[es];refine r6.2 ?_;have c:∀n:Nat,n<=m->mB pl n->wp ((mSq (x6 4<|s2 Y2 (s2 ixD (sW 1)<|sC<|.int 0)<|sN iM<|d4 (s2 (inD false) (s2 ixD (sW 1)<|sC<|.int 2)<|sC<|.tuple [.str "first",.str "last",.str "short",.str "front"]) j3)
  (mSq (kW 5<|oF j3)
  (mSq (Z0 (aZ<|d4 (l6 J6<|vF 0<|vD (s2 N4 (sW 2)<|sC<|.int 1) u8) j3) (bN 6) (mSq (x6 7<|Ap (s2 gtD (sW 4)<|sC<|.int 0)<|s2 (eqD false) (l6 J6<|vF 0<|vD (sC<|.int 3) u8)<|sC<|.int 0)
  (mSq (x6 4<|s2 lq (sW 4)<|sN iM<|d4 (sW 7) j3)
  (kI 5<|K0<|d4 (l6 J6<|vF 0<|vD (sC<|.int 2) u8)<|d4 (s2 N4 (sC<|.int 1)<|l6 J6<|vF 0<|vD (sV 3) u8)<|d4 (sV 7) j3))))
  (mRt<|sN M6<|d4 (sW 5) j3)))) [some .feed,some<|.dat<|.tuple [.int (h:Int),plD pl,r],some<|.dat<|.int (n:Int),some<|.dat<|.int (L:Int),none,none,none,none] F)
   (tZ λd C=>C.t<=F.t+(1+3*m)/\∃ps:List Pn,d = .tuple (ps.map pnD)/\StB m L pl (kb r) ps/\C9 ps<=h):=λn hn B=>by
  refine r6.2 (y6.2 (v4.2 (v4.2 (x4.2 (B9 rfl (l8.2 (d7 rfl (E5.2 (d6.2 (v4.2 (v4.2 (x4.2 (B9 rfl (l8.2 (d7 rfl (l8.2 (d7 ((show inD false r (.tuple [.str "first",.str "last",.str "short",.str "front"])=some (.bool<|kb r) by let(x,rfl,Y):=U5 hr;exact in4 Y))<|h8.2<|d7 BG (d7 (Mu<|.inr #v[by lia,by split <;> decide]) #v[i6 rfl,k7<|r6.2<|jG.2<|gZ.2<|h8.2 #v[sz (by decide),i6 rfl,k7<|r6.2 ?_]]) )))))))))))))))))
  obtain⟨T,O,M,ab⟩:∃b:Nat,(h:Int)*(if kb r=true then 1 else 0)=(b:Int)/\(0<b->kb r=true)/\b<=h:=by
   by_cases I:kb r=true
   .exact#v[h,by rw[nY I];lia,λ_=>I,qD _]
   .exact#v[0,by rw[oj I];lia,λz=>absurd z<|Bl 0,CW _]
  rw[O]
  refine G8.2<|U1.2<|d6.2<|l5.2<|dN.2<|dC rfl<|O7.2<|v4.2<|x4.2<|B9 rfl<|l8.2<|d7 K3<|l9.2<|G1 (by lia) (by lia) (by lia) λx R x0 x1 t1=>?_
  obtain⟨k,rfl⟩:∃k:Nat,x=(k:Int):=#v[x.toNat,by lia]
  refine h8.2 (d7 (bU<|by lia) (B6 (λj E C=>C.t<=R.t+3*j/\∃(ps:List Pn) (b:Nat) (A y:Option DV),ps.length=j/\(∀p∈ps,(0<=p.1/\p.1<=1)/\(1<=p.2.1/\p.2.1<=L)/\(p.2.2=true->kb r=true))/\(0<b->kb r=true)/\C9 ps+b<=h/\E=[some .feed,some<|.dat<|.tuple [.int h,plD pl,r],some<|.dat<|.int n,some<|.dat<|.int L,some<|.dat<|.int b,some<|.own<|ps.map pnD,A,y]) _ 0 _ R #v[by lia,[],T,none,none,rfl,λp g=>(nomatch g),M,by show 0+T<=h;lia,rfl] ?_ ?_) )
  .rintro j d e E Q ⟨X,ps,b,A,y,hl,l,D,K,rfl⟩
   rw[yo] at *
   let(hj,rfl):=fC e
   refine#v[_,rfl,r6.2<|y6.2<|AB.2<|v4.2<|x4.2<|B9 rfl<|l8.2<|d7 qR<|d7 rfl ?_]
   have a:∀(s:Bool) (G:Nat) (t:FdS),(s=true->kb r=true)->(0<G->kb r=true)->(b:Int)-(if s=true then 1 else 0)=(G:Int)->t.t<=Q.t+1 ->
     wp ((mSq (x6 4<|s2 lq (sW 4)<|sN iM<|d4 (sW 7) j3)<|kI 5<|K0<|d4 (l6 J6<|vF 0<|vD (sC<|.int 2) u8)<|d4 (s2 N4 (sC<|.int 1)<|l6 J6<|vF 0<|vD (sV 3) u8)<|d4 (sV 7) j3)
      [some .feed,some<|.dat<|.tuple [.int (h:Int),plD pl,r],some<|.dat<|.int (n:Int),some<|.dat<|.int (L:Int),some<|.dat<|.int (b:Int),some<|.own<|ps.map pnD,some<|.dat<|.int (j:Int),some<|.dat<|.bool s] t)
      λo C=>∃U,o = .nx U/\C.t<=R.t+3*((j+1:Nat):Int)/\∃(ps:List Pn) (b:Nat) (A y:Option DV),ps.length=j+1/\(∀p∈ps,(0<=p.1/\p.1<=1)/\(1<=p.2.1/\p.2.1<=L)/\(p.2.2=true->kb r=true))/\(0<b->kb r=true)/\C9 ps+b<=h/\U=[some .feed,some<|.dat<|.tuple [.int (h:Int),plD pl,r],some<|.dat<|.int n,some<|.dat<|.int L,some<|.dat<|.int b,some<|.own<|ps.map pnD,A,y]:=λs G t hs N P W=>by
    refine r6.2<|y6.2<|v4.2<|x4.2<|B9 rfl<|E5.2<|d6.2<|x4.2<|B9 rfl<|h8.2<|d7 BG<|d7 jX #v[i6 rfl,k7 ?_];rw[P];refine qc (cg rfl) (by rw[jI];lia)<|A8.2<|d6.2<|l5.2<|dN.2<|dC rfl<|O7.2<|l8.2<|l9.2<|G1 (by decide) (by decide) (by lia) λu F4 V u1 t4=>d6.2<|v4.2<|l8.2<|l5.2<|dN.2<|dC rfl<|O7.2<|M5.2<|M7 rfl<|l9.2<|G1 (by lia) (by lia) (by lia) λv F5 v0 v1 t5=>d7 K3<|d6.2<|M5.2<|M7 rfl<|h8.2 #v[v8 rfl,#v[_,rfl,by lia,ps++[(u,1+v,s)],G,_,_,by rw[xy,hl];rfl,λp g=>?_,N,?_,by rw[yx];rfl] ]
    .rcases zj.1 g with g | g
     .exact l p g
     .rw[xp.1 g];exact#v[#v[V,by lia],#v[by lia,by lia],hs]
    .have e9:C9 (ps++[(u,1+v,s)])=C9 ps+(if s=true then 1 else 0):=by unfold C9;rw[Ih,xy];cases s <;> rfl
     rw[e9];cases s
     .rw[oj<|by decide]at P ⊢;lia
     .rw[nY rfl]at P ⊢;lia
   refine X3 (λJ=>?_) λJ=>#v[i6 rfl,k7<|a false b Q (λz=>(nomatch z)) D (by rw[oj<|by decide];lia)<|by lia]
   have J:=xO J
   refine v4.2<|l5.2<|dN.2<|dC rfl<|O7.2<|l8.2<|l9.2<|G1 (by decide) (by decide) (by lia) λz t z0 z1 W=>l8.2<|d7 eqZ #v[i6 rfl,k7 ?_]
   have q:=D (by lia)
   by_cases S:z=0
   .rw[xq S]
    exact a true (b-1) t (λ_=>q) (λ_=>q) (by rw[nY rfl];lia) (by lia)
   .rw[yb S]
    exact a false b t (λ_=>q) D (by rw[oj<|by decide];lia) (by lia)
  .rintro E Q ⟨X,ps,b,A,y,hl,l,D,K,rfl⟩
   rw[yo,jI,xB] at *
   exact k7 (O6.2<|E5.2<|d6.2<|x4.2<|du rfl<|h8.2<|d7 gS<|M0 #v[by lia,ps,rfl,#v[by lia,λv H=>by have:=B v H;lia,l],by lia])
 refine cV.2<|cj.2<|v4.2<|v4.2<|x4.2<|B9 rfl<|l8.2<|d7 rfl<|l8.2 ?_;cases pl with
 | none=>exact d7 rfl (d7 rfl<|w4 rfl<|cQ.2<|k7<|c m (qD _) λv H=>(nomatch H))
 | some v =>
  refine d7 rfl<|d7 rfl<|V8 rfl<|y6.2<|E5.2<|d6.2<|x4.2<|B9 rfl<|d6.2<|v4.2<|x4.2<|B9 rfl<|l8.2<|d7 rfl<|h8.2<|d7 Nk #v[i6 rfl,k7 ?_];have e:min (m:Int) v=((min m v:Nat)):=by lia
  rw[e];exact c (min m v) (by lia) λw Z=>by cases Z;lia
end
end L3
namespace L3
open PySem PySem.Spec PyProof.Rows L2 Bz
def jb (nm nms:List Str):List DV->M CD:=R6 nm (mSq (cZ 4 0)
  (mSq (Z0 (aZ<|d4 (sV 2) j3) (bN 5)<|lV 4 0 (s2 N4 (sC<|.int 1)<|l6 J6<|vF 0<|vD (sC<|.int 12) u8)<|l6 (je nms)<|vF 0<|vD (sV 1)<|vD (sV 3)<|vD (sC<|.int 6) u8)
  (mRt<|sLC (M4<|sN aY<|d4 (ie 4 0) j3) 1 [4] (bN 0) R9<|K0<|d4 (sV 0)<|d4 (lW 1 0<|sV 0) j3)))
structure LsOk n m L pl kp (l:List (Kw Pn)):Prop where
 n1:1<=l.length
 n2:l.length<=n
 ok:∀p∈l,StB m L pl kp p.1/\1<=p.2/\p.2<=12
 nd:(l.map (·.1)).Nodup
def LsOk.perm (h:LsOk n m L pl kp l)(p:r.Perm l):LsOk n m L pl kp r:=#v[by rw[p.length_eq];exact h.n1,by rw[p.length_eq];exact h.n2,λq a=>h.ok q<|p.mem_iff.1 a,(p.map _).nodup_iff.mpr h.nd]
def pO (hnm:nm.length=6)(hnms:nms.length=8){h n m:Nat}(hh:h<=1000)(hr:r∈W8)(hm:m<=40)(h1:1<=n)(hn:n<=20):Tr (jb nm nms) [.feed,.dat<|.tuple [.int (h:Int),plD pl,r],.dat<|.int (n:Int),.dat<|.int (m:Int)] (130*n)
  (λd=>∃l,d = .list (l.map<|kwD pnD)/\LsOk n m 6 pl (kb r) l/\∀p∈l,C9 p.1<=h):=Tr.of λF Q=>by
 refine V2.2 ?_;have H:t9 nm [.feed,.dat<|.tuple [.int h,plD pl,r],.dat<|.int n,.dat<|.int m ]=[some .feed,some<|.dat<|.tuple [.int h,plD pl,r],some<|.dat<|.int n,some<|.dat<|.int m,none,none]:=by unfold t9;rw[hnm];rfl
 rw[H];refine r6.2 (oY (i6 rfl)<|k7<|r6.2<|G8.2<|U1.2<|d6.2<|M5.2<|M7 rfl<|h8.2<|d7 (bU<|by lia) (B6 (λj E J=>J.t<=F.t+130*j/\∃(l:List (Kw Pn)) (t:Option DV),(l.map (·.1)).Nodup/\l.length<=j/\(0<j->1<=l.length)/\(∀p∈l,StB m 6 pl (kb r) p.1/\1<=p.2/\p.2<=12)/\(∀p∈l,C9 p.1<=h)/\E=[some .feed,some<|.dat<|.tuple [.int h,plD pl,r],some<|.dat<|.int n,some<|.dat<|.int m,some<|.dic true 0<|l.map<|kiD pnD,t]) _ 0 _ F #v[by lia,[],none,OP,qD _,λz=>absurd z<|Bl 0,λp b=>(nomatch b),λp b=>(nomatch b),rfl] ?_ ?_) )
 .rintro j d e E I ⟨D,l,t,s,hl,b,c,g,rfl⟩;rw[yo] at *;let(O,rfl):=fC e;refine#v[_,rfl,uk rfl<|v4.2<|l8.2<|l5.2<|dN.2<|dC rfl<|O7.2<|l8.2<|l9.2 ?_];refine G1 (by decide) (by decide) (by lia) λa T S R K=>d7 K3<|l5.2<|dN.2<|dC rfl<|O7.2<|M5.2<|M7 rfl<|O7.2<|M5.2<|M7 rfl<|O7.2<|l8.2<|l9.2<|(De hnms hh hr hm (by decide)<|by decide).wp (by lia) λd U M G=>?_
  let(ps,rfl,u,q):=G;refine#v[dG.is ps,by rw[jI];lia,?_];let(C,N):=lD s;have A:1<=(O8 l ps<|1+a).length:=by
   unfold O8;split
   .rename_i z;have:=List.length_pos_of_mem z;rw[jI]at this ⊢;lia
   .rw[xy];simp
  exact#v[_,rfl,by lia,O8 l ps<|1+a,_,C,by lia,λ_=>A,(eK (v:=1+a) c #v[u,by lia,by lia]),eK (v:=1+a) g q,by rw[<-(ja (y:=CD.int) dG ps (1+a) l) ];rfl]
 .rintro E I ⟨D,l,t,s,hl,b,c,g,rfl⟩;rw[yo,jI,xB] at *;refine k7 (O6.2<|HV FV Ip dG uF s (by lia) rfl λw k=>M0 #v[by lia,w,rfl,LsOk.perm #v[b (by lia),hl,c,s] k,λp b=>g p<|k.mem_iff.1 b])
def nE (nm:List Str):List DV->M CD:=R6 nm (mSq (cZ 1 0)
  (mSq (Z0 (M4<|sV 0) (D4 2<|i7 (bN 2)<|i7 (bN 3) D6)<|lV 1 0 (s2 N4 (kM 1 0 (sV 2)<|sC<|.int 0)<|sW 3)<|sV 2)
  (mSq (x6 4<|sN dh<|d4 (sLC (M4<|sW 0) 2 [] (D4 2<|i7 (bN 0)<|i7 (bN 1) D6) R9<|sV 1) j3)
  (mRt<|sN M6<|d4 (sLC (M4<|sN aY<|d4 (ie 1 0) j3) 1 [4,1] (bN 0) R9<|K0<|d4 (sV 0)<|d4 (l6 c_lfrac<|vD (lW 2 0<|sV 0)<|vD (sV 1) u8) j3) j3))))
abbrev shD (W:Nat)(p:Kw Pn):CD:=.tuple [rwD pnD p.1,qd<|mkRat p.2 W]
def A6 (l:List (Kw α)):Int:=(l.map λp=>p.2).sum
def jz {l:List (Kw α)}(h:∀p∈l,1<=p.2/\p.2<=12):(l.length:Int)<=A6 l/\A6 l<=12*l.length:=by
 unfold A6;induction l with
 | nil=>exact#v[Fg _,Fg _]
 | cons p l b =>
  have a:=h p ll;have i:=b λq c=>h q<|kN _ c
  rw[kX,CP,qN];lia
def Dd (hnm:nm.length=5)(hl:LsOk n m L pl kp l)(hn:n<=40){Q:CD->FdS->Prop}(q:∀rs:List (Kw Pn),rs.Perm l->Q (.tuple<|rs.map<|shD (A6 l).toNat) F) :
  wp (nE nm [.dat<|.list<|l.map<|kwD pnD] F) Q:=by
 have k:=hl.n2;have X:=hl.n1;let(T,S):=jz λp h=>(hl.ok p h).2
 refine V2.2 ?_;have K:t9 nm [.dat<|.list<|l.map<|kwD pnD]=[some<|.dat<|.list<|l.map<|kwD pnD,none,none,none,none]:=by unfold t9;rw[hnm];rfl
 rw[K];refine r6.2<|oY (i6 rfl)<|k7<|r6.2<|G8.2<|x8.2<|M5.2<|M7 rfl<|d7 P6<|B6 (λj E R=>R=F/\∃t s,E=[some<|.dat<|.list<|l.map<|kwD pnD,some<|.dic true 0<|(l.take j).map<|kiD pnD,t,s,none]) _ 0 _ F #v[rfl,none,none,rfl] ?_ ?_
 .rintro j d e E P ⟨rfl,t,s,rfl⟩;rw[yo];rw[sq]at e;let(p,u,rfl):=sA.1 e;have W:=(pG.1 u).1;have b:p.1 ∉ (l.take j).map (·.1):=λz=>by
   let(q,G,M):=ue.1 z;let(i,I,w):=List.mem_iff_getElem.1 G;have H:i<j/\i<l.length:=by rw[Bp]at I;lia
   rw[List.getElem_take]at w;have c:(l.map (·.1))[i]'(by rw[jI];lia)=(l.map (·.1))[j]'(by rw[jI];lia):=by rw[Mx,Mx,w,M];rw[<-(pG.1 u).2]
   have:=(Og hl.nd ).1 c;lia
  have o:G6 (l.take j) p.1=none:=by
   cases eg:G6 (l.take j) p.1 with
   | none=>rfl
   | some v=>exact absurd (bC.1 (by rw[eg];rfl)) b
  refine#v[_,rfl,uk rfl<|v4.2<|xg rfl<|M5.2<|M7 rfl<|l8.2 #v[dG.is p.1,?_]];rw[cu dG,o];refine x4.2 (B9 rfl<|d7 K3<|M5.2<|M7 rfl #v[dG.is p.1,by rw[jI,Bp];lia,?_]);have a:=ja (y:=CD.int) dG p.1 (0+p.2)<|l.take j;have c:O8 (l.take j) p.1 (0+p.2)=l.take (j+1):=by unfold O8;rw[oj b,ED,u,Int.zero_add];rfl
  rw[c]at a;exact#v[_,rfl,rfl,_,_,by rw[<-a];rfl]
 .rintro E P ⟨rfl,t,s,rfl⟩;rw[yo,jI,Il];refine k7 (r6.2<|y6.2<|E5.2<|d6.2<|P1.2<|x8.2<|x4.2<|B9 rfl<|d7 P6 #v[sz (by rw[jI];lia),pI _ _ _ (λp _ F Q q=>M5.2<|M7 rfl q)<|h8.2 ?_ ]);have r:l.map (λp:Kw Pn=>CD.int p.2)=(l.map λp=>p.2).map CD.int:=by rw[sJ];rfl
  rw[r];refine d7 kj #v[i6 rfl,k7<|O6.2<|E5.2<|d6.2<|P1.2<|x8.2<|E5.2<|d6.2<|uo rfl<|h8.2 ?_];have N:(l.map<|kiD pnD).map (·.1)=(l.map (·.1)).map (rwD pnD):=by rw[sJ,sJ];rfl
  rw[N];refine d7 (lP FV Ip hl.nd (by rw[jI];lia) λl _=>uF l)<|d7 P6 ?_;let(rs,h,J,C):=lu hl.nd (dz (X1 rB) (l.map (·.1)));rw[<-J,sJ];have D:rs.length<=n:=by rwa[h.length_eq]
  refine#v[sz (by rw[jI];lia),zU (x:=λp:Kw Pn=>rwD pnD p.1) rs _ (λp g F Q q=>?_)<|h8.2<|d7 gS<|M0<|q rs h ];let(_,V,U):=hl.ok p<|h.mem_iff.1 g;refine A8.2 (d6.2<|M5.2<|M7 rfl<|d6.2<|l5.2<|O7.2<|zP rfl<|M5.2<|M7 rfl #v[dG.is p.1,d7 (by rw[cu dG,C p g];rfl)<|O7.2<|M5.2<|M7 rfl<|l9.2 ?_]);have c:p.2=((p.2.toNat:Nat)):=by lia
  have O:(l.map λp:Kw Pn=>p.2).sum=(((A6 l).toNat:Nat)):=by have:(l.map λp:Kw Pn=>p.2).sum=A6 l:=rfl;rw[this];lia
  rw[O];rw[c];exact vU (by lia) (xr (show(A6 l).toNat<=12*40 by lia) (uz (show 12*40<2 ^ 10 by decide) (ES (by decide)<|by decide)) )<|h8.2 #v[v8 rfl,(by rw[<-c];exact q) ]
end L3
namespace L3
open PySem PySem.Spec PyProof.Rows L2
section
def FI (K:Qf)(x:Str)(st:QU):Prop:=∃(f:QN) (g:My) (e:Option QN) (kV c d:My) (h:Option QN) (a ct:My) (b:Array (Option My)),
 PySem.W.nsIn K Rf x=some (some<|.ref f)/\K.lookup f=some #v[g,e,.func<|PySem.W.fnOf x x (U2 st) (m4 st) (c7 st) .none kV c d h a ct,b]/\PySem.W.codeIn K a x=true/\PySem.W.keepIn K (.ref f)=true
variable {K:Qf}{st:QU}
def FI.of {kV}(a:PySem.W.nsIn K Rf x=some (some<|.ref f))(b:K.lookup f=some #v[oc,od,.func<|PySem.W.fnOf x x (U2 st) (m4 st) (c7 st) .none kV doc pm an dr ct,osl])
  (c:PySem.W.codeIn K dr x=true) (d:PySem.W.keepIn K (.ref f)=true):FI K x st:=#v[f,oc,od,kV,doc,pm,an,dr,ct,osl,a,b,c,d]
def FI.mk (X:K.In h)(G:h.Ns Rf mg)(ps) (F:FI K x st)
  (hb:autoParam (∀kV doc pm an dr ct us,us.length=ps.length->bindArgs (PySem.W.fnOf x x (U2 st) (m4 st) (c7 st) .none kV doc pm an dr ct) #v[us,[]]=pure (ps.zip us)) qAm) :
  ∃f fd,Fun K x x st f fd/\mg x=some (.ref f)/\aW K fd ps []/\(∃oc od osl,K.lookup f=some #v[oc,od,.func fd,osl])/\PySem.W.nsIn K Rf x=some (some<|.ref f):=by let(f,oc,od,kV,doc,pm,an,dr,ct,osl,a,b,c,d):=F;have e:=Cn b c d;exact#v[f,_,e,Oo X G a,e.binds hb,#v[oc,od,osl,b],a]
end

section
variable {K:Qf}
def r9 (C:m7 X.prog X.w X.K X.mg X.base x k ps (spD K n f))(hr:Room m X.A)(ha:Evs K X (e::es) tl ms)(hk:autoParam (k<=m) gC)(hn:∀E F args F',ms E F=some (args,F')->args.length=n:=by repeat (first | exact gO | apply rY | apply MU))(hg:‹Gl X x›)
  (hdb:autoParam (nDb x) gC) (he:‹QY (e::es) X.env=(false,eval e X.env)::QY es X.env›) (hpl:‹(Rb pos<|QY es X.env).any (·.1)=false›) :
  Ev K X (.Call (.Name x p) (e::es) [] pos) (eY (spD K n f) [] E0 tl) (l6 f ms):=nv C (hr.mono hk) ha hn hg hdb he hpl
def E9 (i){j}(hK:‹X.K=K›)(hN:‹X.N[i]? = some x›)(hv:autoParam (Vis X.env.scope x) kA)(hd:autoParam (nDb x) gC)
  (hcd:autoParam (nCd x) gC):Ev K X (.Subscript (.Name x p) (.Constant (.int c) j q) pos) (tOp (rD2 K ixD) (P4 i)<|tC<|.int c) (s2 ixD (sW i)<|sC<|.int c):=bZ (bz hK) (j8 i hN hv hd hcd) (Ev.bw i9) (by intro _ _;rfl)
abbrev nth (l:List QU)(n:Nat):QU:=l.getD n<|.Pass #v[0,0,0,0]
end
section
def bdB {t:Int} (h0:0<=t)(h1:t<=200000):(z % 1999999973+65537*t+11).natAbs<2 ^ 64:=by let(b,a):=zo (x:=z) (m:=1999999973) (by decide);lia
end
variable {d3:List (Int×V)}
section
def KV.len :∀{d3:List (Int×V)} {vs},KV (d3.map eF) vs->d3.length=vs.length:=λh=>by have:=Lq h;rwa[jI]at this
def jT :entryFor table "dict_itemiterator.__iter__" = some Builtin.«dict_keyiterator.__iter__»:=by kernel_rfl
def jU (hit:IsItemIter s.heap it d i n ep ok ov)(h:Q (.ref it) s):Re (model prog w) A (pyIter<|.ref it) Q E s:=by have a:s.TypeIs (.ref it) "dict_itemiterator":=#v[_,hit,rfl];refine Pb a OR<|xw OR a jT (iO #v[_,rfl,"dict_itemiterator",_,a,zd.lookup,h])<|PySem.F.args_dict_itemiterator_iter_1 _
end
section
open AutoSeq1 (wpAny_loadPart') in
def km {prog:QP}{w:QQ}{A:QR}{E:My->QO->Prop}{s:QO}{d:QN}{o:QZ}{Q:My->QO->Prop}(eo:s.heap.get? d=some o)(ex:o.ExactDict)(hd:(d == sysModules)=false)
  (h:Q (.ref (~~~s)) { s with heap:=s.heap.push { cls:=.type "dict_items",data:=.fields #[.ref d] } }):Re (model prog w) A (call (.builtin "dict.items") [.ref d]) Q E s:=by have a:s.TypeIs (.ref d) "dict":=#v[o,eo,ex.1];refine xw OW a PySem.F.entry_dict_items ?_<|PySem.F.args_dict_items_1 _;unfold Builtin.«dict.items» Builtin.Dict.noArgs;have b:o.cls = .type "dict":=ex.1;wp_walk using wpAny_loadPart' eo,Nq a;exact#v[_,rfl,h]
section

def zK :W4 (d3.map eF) (.inl i:Key)=W4 d3 i:=by
 unfold W4;induction d3 with
 | nil=>rfl
 | cons p d3 a =>
  rw[kX];by_cases e:p.1=i
  .rw[yT (by simp[eF,e]),yT<|by simp[e]];rfl
  . rwa[zb (by simp[eF,e]),zb<|by simp[e]]
def Hn :TE:=λ_ H Q=>∀p a b,H p=none->gj p (FrI p [] a b)->Q (.ref p) (upd H p<|.ext<|FrI p [] a b)
def GX (td ty tv:TE):TS:=λD d H=>tv d H λv j=>td d j λx h=>ty d h λy e=>∃a d3 f g i,x = .ref a/\e a=some (.ext<|FrI a d3 f g)/\y = .int i/\d3.length<QX/\∀b c,gj a (FrI a (D8 d3 i v) b c)->D.nx d (upd e a<|.ext<|FrI a (D8 d3 i v) b c)
def Er (hu:X.A.units+1<Rl)(ho:PE X o to)(hi:PE X i ty)(hv:PE X value tv)(hs:Rg value (some<|.Subscript o i pos') pos.line X.env=pure false) :
  PS X (.Assign [.Subscript o i pos'] value pos) (GX to ty tv):=by
 intro b s d H D I h;refine Pi (thn (hv b s d H _ I h) λr s1 #v[v,U,R,E,J]=>thn (ho b s1 d U _ R J) λu s2 #v[x,T,Q,C,G]=>thn (hi b s2 d T _ Q G) ?_ ) hs;rintro W k ⟨y,S,w,B,a,d3,A,N,n,M,m,L,hl,F⟩;subst M L;obtain rfl:=C;refine lT (y:=kV<|.inl n) hu ((show Inv X b d (upd S a<|.dK<|d3.map eF) k by let(z,y,r,K):=oM w m;let(o,es,l,c):=K X.prog X.w;exact U0 w (by rw[m];exact True.intro) (iS _ _) #v[o,l] #v[by rw[jI];exact z,y,A,r,o,es,N,l,c])) (jt.k i3 (by rwa[jI])) B E λV t=>?_
 rw[mS,(show D8 (d3.map eF) (.inl n) v=(D8 d3 n v).map eF by
  have O:((d3.map eF).any λg=>decide (g.1=(.inl n) ))=d3.any λg=>decide (g.1=n):=by rw[List.any_map];congr 1;funext p;simp[eF]
  unfold D8;rw[O];split
  .rw[sJ,sJ];refine Br λp _=>?_
   show(if (Sum.inl p.1:Key) = .inl n then _ else _)=eF (if p.1=n then _ else _);by_cases e:p.1=n
   .rw[nY (by rw[e]),nY e];rfl
   .rw[oj<|λz=>e<|Sum.inl.inj z,oj e]
  .rw[yx];rfl)]at t
 let(f,j,q,dn):=LH t i3;rw[mS]at q;exact#v[d,_,q,F f j dn]
def BK (td ty tx:TE):TE:=λb H Q=>td b H λx f=>∃a d3 c d,x = .ref a/\f a=some (.ext<|FrI a d3 c d)/\ty b f λy g=>tx b g λz e=>∃i,y = .int i/\e a=some (.ext<|FrI a d3 c d)/\Q ((W4 d3 i).getD z) e
def Cr (ho:PE X o to)(he:PE X e ty)(hf:PE X f tx)(m:M2 X o "get" apos e f cpos):PE X (.Call (.Attribute o "get" apos) [e,f] [] cpos) (BK to ty tx):=by
 intro d s j H Q I h;refine wpAny_Call_method m.base m.few m.line LS Oc PySem.F.type_dict_get (thn (ho d s j H _ I h) ?_ );rintro u s1 ⟨x,H1,C,L,a,d3,D,U,g,V,P⟩;subst g;obtain rfl:=L;let(F,E,p):=(show s1.TypeIs (.ref a) "dict" /\ (∀b,My.ref a = .ref b->∃w,s1.heap.get? b=some w/\w.dict=none)/\(a == sysModules)=false by let(z,y,r,p):=oM C V;let(o,es,i,g,_):=p X.prog X.w;refine#v[#v[o,i,g.1],λb q=>?_,y];cases q;exact#v[o,i,g.2.1])
 refine#v[F,E,?_];rw[m.trees];refine KB rfl (Oh (Jg (thn (he d s1 j H1 _ C P) λiv s2 #v[y,Z,W,K,O] =>
  Jg (thn (hf d s2 j Z _ W O) λS G #v[z,Y,B,J,n,T,v,N]=>NY ?_))))
 subst T;let(z0,y0,M,l):=oM B v;let(R,t,i,c):=l X.prog X.w;have A:G.heap.DictOf (t6 X.prog X.w) a D:=#v[R,t,U,i,c];refine call_meetsIn Oc A.typeIs PySem.F.entry_dict_get (PySem.F.args_dict_get_3 _ _ _) (meets_dict_get_default (t6 X.prog X.w) a (pD (k:=.inl n) K) p S) #v[_,A.mapOf,#v[_,Y,B.tok _,?_,N]];rw[<-zK];exact(M.val<|.inl n).getD J
end
end
section
def igD (ps:List (CD×CD))(n:Int):Option CD:=(ps.find? λp=>decide (F0 p.1=some n)).map (·.2)
def ipD (ps:List (CD×CD))(n:Int)(e:CD):List (CD×CD):=if (igD ps n).isSome then ps.map (λp=>if F0 p.1=some n then(p.1,e) else p) else ps++[(.int n,e)]
section
variable {K:Qf}
theorem AA:∀{ps} {xs},IVs K H ps xs->xs.length=ps.length
 | [],_,h=>by cases h;rfl
 | _::_,_,#v[i,v,r,e,h1,h3,h4]=>by rw[e,qN,qN,AA h4]
theorem Ba:∀{ps} {xs},IVs K H ps xs->(∃e v,igD ps n=some e/\W4 xs n=some v/\c6 K H e v)\/(igD ps n=none/\W4 xs n=none)
 | [],_,h=>by cases h;exact .inr #v[rfl,rfl]
 | p::ps,_,#v[i,v,r,e,h1,h3,h4]=>by
  subst e;unfold igD W4;by_cases a:i=n
  .subst a;refine .inl #v[p.2,v,?_,?_,h3]
   .rw[yT (by rw[h1];exact xq rfl)];rfl
   .rw[yT<|by simp];rfl
  .rw[zb (by rw[h1];simp[F0,a]),zb<|by simp[a]];exact Ba h4
theorem zz:∀{ps} {xs},IVs K H ps xs->(xs.any λkv=>decide (kv.1=n))=(igD ps n).isSome
 | [],_,h=>by cases h;rfl
 | p::ps,_,#v[i,v,r,e,h1,h3,h4]=>by
  subst e;have b:=zz (n:=n) h4;unfold igD at b ⊢;rw[Po];by_cases a:i=n
  .rw[yT (by rw[h1];simp[F0,a]),xq a];rfl
  .rw[zb (by rw[h1];simp[F0,a]),yb a,Bool.false_or];exact b
theorem tT (he:c6 K H e v):∀{ps} {xs},IVs K H ps xs->IVs K H (ps.map λp=>if F0 p.1=some n then(p.1,e) else p) (xs.map λkv=>if kv.1=n then(kv.1,v) else kv)
 | [],_,h=>by cases h;rfl
 | p::ps,_,#v[i,v',r,ex,h1,h3,h4]=>by
  subst ex;rw[kX,kX];by_cases a:i=n
  .rw[nY (by rw[h1];simp[F0,a]),nY a];exact#v[i,v,_,rfl,h1,he,tT he h4]
  .rw[oj (by rw[h1];simp[F0,a]),oj a];exact#v[i,v',_,rfl,h1,h3,tT he h4]
theorem vK (he:c6 K H e v):∀{ps} {xs},IVs K H ps xs->IVs K H (ps++[(.int n,e)]) (xs++[(n,v)])
 | [],_,h=>by cases h;exact#v[n,v,[],rfl,rfl,he,rfl]
 | p::ps,_,#v[i,v',r,ex,h1,h3,h4]=>by subst ex;exact#v[i,v',_,rfl,h1,h3,vK he h4]
end
section
variable {K:Qf}
def FX (i)(hN:X.N.Nodup)(hi:‹X.N[i]? = some x›)(hx:autoParam (Loc X.env.scope x) gV)(hs:‹Rg (.Dict [] [] p) (some<|.Name x pos') pos.line X.env=pure false›)(hf:autoParam (X.fn x=true\/X.env.scope.names.lookup x=some .local) gV) :
  Ss K X (.Assign [.Name x pos'] (.Dict [] [] p) pos) (cf Hn<|Q9 i) (cZ i 9) :=
 #v[L6 hN hi hx (λc s j H Q I h =>
  thn (BH c s j H (λv l=>∃p,v = .ref p/\H p=none/\l=upd H p (.dK [])) I λp f=>#v[p,rfl,f,rfl]) λu s1 #v[v,l,w,r,p,o,f,t]=>by subst o t;let(b,d,k,dn):=LH (d3:=[]) w i3;rw[mS]at k;exact#v[.ref p,_,k,r,h p b d f dn]) hs hf,λG A y E F j H D r z S e q=>by
  unfold cZ at e
  split at e
  .rename_i hl
   cases e
   let(B,s,m,I):=S.ex
   intro a b d g dn
   have r:iI K B H (upd H a<|.ext<|FrI a [] b d) (.dic true 9 []) (.ref a):=#v[rfl,a,_,rfl,g,i3,dn,.inr #v[rfl,[],b,d,rfl,rfl]]
   exact q _ _ (S.putC s m I (Kp.upd g) (I.fd.same<|i5.upd g) r hl).1
  .cases e]
noncomputable def vq (i:Nat)(v k:DE->M CD):DE->M Out:=λE F=>(v E F).bind λp=>(k E p.2).bind λq=>(V0 E i).bind λd=>(F0 q.1).bind λn=>if d.1=true/\d.2.1=9/\d.2.2.length<QX then some (.nx<|E.set i<|some<|.dic true 9<|ipD d.2.2 n p.1,q.2) else none
def FN (i)(hu:X.A.units+9<Rl)(hv:Ev K X value te m)(hk:Ev K X e ty mb)(hK:X.K=K)(hN:‹X.N[i]? = some x›)(hvis:autoParam (Vis X.env.scope x) kA)(hd:autoParam (nDb x) gC)(hcd:autoParam (nCd x) gC)
  (hs:‹Rg value (some<|.Subscript (.Name x px) e pos') pos.line X.env=pure false›) :
  Ss K X (.Assign [.Subscript (.Name x px) e pos'] value pos) (GX (P4 i) ty te) (vq i m mb):=by
 subst hK;refine#v[Er (by lia) (A9 hN hvis hd hcd) hk.pe hv.pe hs,λG B0 H0 E F h H D r F' S e q=>?_];obtain⟨⟨d,P⟩,e1,e⟩:=bS9 e;obtain⟨⟨kd,F2⟩,O,e⟩:=bS9 e;obtain⟨⟨w,c',ps⟩,Z,e⟩:=bS9 e;let(n,N,g):=bS9 e;split at g;case isFalse=>cases g
 rename_i V;let(rfl,rfl,f):=V;cases g;obtain rfl:=V9 N;let(B,s,R,I):=S.ex;have L:=J1 Z;refine hv.ok G B E F h H _ d P I e1 λv H1 z W C=>?_
 have p:=I.step z W;let(u,t,a,φ,rfl,hB,U,T,hn,l):=p.loc i _ L;let(d3,Q,Y,rfl,k):=l.is9;refine#v[_,t,hk.ok G B E P h H1 _ _ _ p O λy H2 c J A=>?_];have S2:=S.step (z.trans c) J;have b:=k.same<|c.hid I.fB;simp only[c6]at A;subst A;refine#v[a,d3,Q,Y,n,rfl,c a _ T U,rfl,by rwa[AA b],λj o dn=>?_];exact q h _ (S2.writeD s R (p.step c J) L t dn (.inr #v[rfl,_,j,o,rfl,(by
  unfold ipD D8;rw[zz b];split
  .exact tT (C.same<|c.hid I.fB) b
  .exact vK (C.same<|c.hid I.fB) b)]))
noncomputable def jn (i:Nat)(k z:DE->M CD):DE->M CD:=λE F=>(k E F).bind λq=>(z E q.2).bind λr=>(V0 E i).bind λd=>(F0 q.1).bind λn=>if d.2.1=9 then some ((igD d.2.2 n).getD r.1,r.2) else none
def qO (i)(hk:Ev K X e ty mb)(hz:Ev K X f tx mz)(hK:X.K=K)(m2:M2 X (.Name x px) "get" apos e f cpos)(hN:‹X.N[i]? = some x›)(hvis:autoParam (Vis X.env.scope x) kA)(hd:autoParam (nDb x) gC)(hcd:autoParam (nCd x) gC) :
  Ev K X (.Call (.Attribute (.Name x px) "get" apos) [e,f] [] cpos) (BK (P4 i) ty tx) (jn i mb mz):=by
 subst hK;refine#v[Cr (A9 hN hvis hd hcd) hk.pe hz.pe m2,λG B E F m H Q r F' I e q=>?_];obtain⟨⟨kd,W⟩,U,e⟩:=bS9 e;obtain⟨⟨z,F3⟩,A,e⟩:=bS9 e;obtain⟨⟨w,c',ps⟩,T,e⟩:=bS9 e;let(n,t,c):=bS9 e;split at c;case isFalse=>cases c
 rename_i J;subst J;cases c;obtain rfl:=V9 t;let(u,C,a,Y,rfl,hB,p,o,hn,h):=I.loc i _ (J1 T);let(d3,D,R,rfl,g):=h.is9;refine#v[_,C,a,d3,D,R,rfl,o,hk.ok G B E F m H _ _ _ I U λy V b P s=>hz.ok G B E W m V _ z _ (I.step b P) A λy3 H3 d O L=>?_];simp only[c6]at s;subst s;refine#v[n,rfl,d a _ (b a _ o p) p,q _ _ (b.trans d) O ?_];rcases Ba ((g.same<|b.hid I.fB).same<|d.hid I.fB) with ⟨Z,v,l,k,N⟩ | ⟨l,k⟩
 . rwa[l,k]
 . rwa[l,k]
end
end
end L3
namespace L3
open PySem PySem.Spec PyProof.Rows L2 PySem.W
def yG:∀{d3:List (Int×V)} {vs} {l},KV (d3.map eF) vs->l.length=vs.length->(∀(i:Nat) k x v,vs[i]? = some (k,x)->l[i]? = some v->l4 (kV k) v)->k8 (d3.map λx=>V.int x.1) l:=by
 intro d3;induction d3 with
 | nil =>
  intro vs l h hl _;cases h;cases l with
  | nil=>exact .nil
  | cons _ _=>cases hl
 | cons p d3 a =>
  intro vs l h hl f;cases h with
  | @cons _ q _ vs c b =>
   cases l with
   | nil=>cases hl
   | cons v l =>refine .cons ?_ (a b (Nat.succ.inj hl) λi k x v e d=>f (i+1) k x v (by simpa using e)<|by simpa using d);have:=f 0 q.1 q.2 v rfl rfl;rwa[<-c.1]at this
theorem zh {K}:∀{ps} {xs},IVs K H ps xs->b9 K H (ps.map (·.1)) (xs.map λx=>V.int x.1)
 | [],xs,h=>by
  cases(h);exact(rfl)
 | p::ps,xs,h=>by let(i,v,r,rfl,e,_,h):=h;exact#v[_,_,rfl,by show c6 _ _ p.1<|V.int i;rw[e];exact c6.int,zh h]
def JO:List V->Hp->VK->Prop:=λb H Q=>∃p a c d,b=[.ref p]/\H p=some (.ext<|FrI p a c d)/\∀l,H l=none->Q (.ref l) (upd H l<|.lst<|a.map λx=>V.int x.1)
section
variable {K:Qf}
def AU (i)(hh:X.A.handled=none)(hm:X.mg "list" = none)(hN:‹X.N[i]? = some x›)(hvis:autoParam (Vis X.env.scope x) kA)(hd:autoParam (nDb x) gC)(hcd:autoParam (nCd x) gC)
  (hv:Ri "list" = some (.type "list")) (hg:‹Gl X "list"›) (hs:‹QY [.Name x px] X.env=(false,eval (.Name x px) X.env)::QY [] X.env›) (hpl:‹(Rb pos<|QY [] X.env).any (·.1)=false›) :
  Ev K X (.Call (.Name "list" p) [.Name x px] [] pos) (tCB JO<|z9 (P4 i) T7) (ie i 9) :=
 #v[ah ((by
  intro A s L H Z us Q I r h;let(p,d3,d,ep,rfl,e,q):=h;let(u,rfl,O):=C5 r;cases O;let(z,P,C,hd):=oM I e;have hl:d3.length=d.length:=KV.len C;refine kdl_call (kdl_dict (knd:=t6 X.prog X.w) (kvs:=d) (ep:=ep) P) hh (hd X.prog X.w) (by lia) λT N c y S o b=>?_
  have hv:k8 (d3.map λx=>V.int x.1) c.toList:=by
   refine yG C (by rw[zq,b.1]) λi k x v W J=>?_
   rw[zS]at J;let(k',x',D,g):=b.2 i v J;rw[W]at D;cases D;exact by
    rcases y9 (k:=k) (v:=v) g with ⟨i,t,rfl,rfl⟩ | ⟨x,t,rfl,rfl⟩
    .exact#v[t,rfl]
    .exact#v[t,rfl]
  exact#v[.ref (~~~s),_,I.laid (t':=N) S (qD _) (show x5 X.prog X.w _ T _ (.lst<|d3.map λx=>V.int x.1) from#v[by rw[jI];exact z,c.toList,y,hv,by simpa using o]),rfl,q _<|I.hok.fresh<|qD _])) hg hm hv (r8 (A9 hN hvis hd hcd) A3 hs) (by decide) (by decide) hs hpl,λG B E F L H Q r F' I e q=>by
  obtain⟨⟨w,y,ps⟩,g,f⟩:=bS9 e;by_cases n:y=9;case neg=>rw[oj n]at f;cases f
  rw[nY n]at f;have U:=J1 g;clear e g;subst n;cases f;let(u,M,a,Y,rfl,hB,hf,R,hn,m):=I.loc i _ U;let(d3,d,ep,rfl,j):=m.is9;refine#v[_,M,a,d3,d,ep,rfl,R,λl hl=>q _ _ (Kp.upd hl) (I.fd.same<|i5.upd hl)<|G3 I.bk hl<|zh j]]
end
end L3
namespace L2
open PySem PySem.Spec PyProof.Rows PySem.W
def D1 (C:List (QN×QZ))(H:Hp):Hp:=λb=>match C.lookup b with
 | some o=>some<|.frz o<|.own 0
 | none=>H b
def J5 (C:List (QN×QZ))(H:Hp):Hp:=λb=>match C.lookup b with
 | some _=>none
 | none=>H b

section

def L5 (e:C.lookup b=some o):D1 C H b=some (.frz o<|.own 0):=by unfold D1;rw[e]
def t7 (e:C.lookup b=none):D1 C H b=H b:=by unfold D1;rw[e]
def Y9 (e:C.lookup b=some o):J5 C H b=none:=by unfold J5;rw[e]
def u3 (e:C.lookup b=none):J5 C H b=H b:=by unfold J5;rw[e]
def Shd (C:List (QN×QZ))(H:Hp):Prop:=∀b o,C.lookup b=some o->H b=some (.frz o<|.own 0)
def qX (ok:HOk P w H h)(hC:Shd C H):HOk P w (J5 C H) h:=λa u e=>by
 let(z,e):=(show C.lookup a=none/\H a=some u by
  cases z:C.lookup a with
  | some o=>rw[Y9 z]at e;cases e
  | none=>exact#v[rfl,by rwa [u3 z]at e])
 refine(ok a u e).stay (λ_ _ _ q=>q) (λb q=>?_) λb c q=>(by
  cases z:C.lookup b with
  | some o=>rw[hC b o z]at q;cases q
  | none=>rwa [u3 z])
 cases z:C.lookup b with
 | some o=>rw[hC b o z]at q;cases q
 | none=>rwa [u3 z]
def mq (ok:HOk P w H h)(hg:∀b o,C.lookup b=some o->h.get? b=some o/\H b=none):HOk P w (D1 C H) h:=λa u e=>by
 cases z:C.lookup a with
 | some o =>rw[L5 z]at e;cases e;exact#v[(hg a o z).1,#v[o,(hg a o z).1]]
 | none =>
  rw[t7 z]at e;refine(ok a u e).stay (λ_ _ _ q=>q) (λb q=>?_) λb c q=>?_
  .cases z:C.lookup b with
   | some o=>rw[(hg b o z).2]at q;cases q
   | none=>rwa [t7 z]
  .cases z:C.lookup b with
   | some o=>rw[(hg b o z).2]at q;cases q
   | none=>rwa [t7 z]
def Gf (u:Un fs [] (D1 C H) H' h h')(ok:HOk P w H' h')(hg:∀b o,C.lookup b=some o->h.get? b=some o/\H b=none):Un fs [] H (J5 C H') h h':=by
 have c:=λb o e=>(ok b _<|u.frzs b o _<|L5 e).1
 refine#v[λb o e n f d=>?_,λb o e n f d=>?_,λb o e n d=>?_,u.there,λb g e=>?_,λb o v e=>?_,λb i e=>?_]
 .cases z:C.lookup b with
  | some a =>
   have:=(hg b a z).1
   rw[e]at this;cases this
   exact c b _ z
  | none=>exact u.keep b o e (by rwa[t7 z]) f d
 .cases z:C.lookup b with
  | some a =>
   have:=(hg b a z).1
   rw[e]at this;cases this
   exact#v[o.slots,c b _ z]
  | none=>exact u.slot b o e (by rwa[t7 z]) f d
 .cases z:C.lookup b with
  | some a=>exact Y9 z
  | none=>rw[u3 z];exact u.free b o e (by rwa[t7 z]) d
 .cases z:C.lookup b with
  | some a=>rw[(hg b a z).2]at e;cases e
  | none=>rw[u3 z];exact u.tups b g (by rwa[t7 z])
 .cases z:C.lookup b with
  | some a=>rw[(hg b a z).2]at e;cases e
  | none=>rw[u3 z];exact u.frzs b o v (by rwa[t7 z])
 .cases z:C.lookup b with
  | some a=>rw[(hg b a z).2]at e;cases e
  | none=>rw[u3 z];exact u.tbls b i (by rwa[t7 z])
end
theorem vw:∀{ps:List Str} {us} {i:Nat} {x} {u:My},ps.Nodup->ps[i]? = some x->us[i]? = some u->(ps.zip us).reverse.lookup x=some u
 | [],_,_,_,_,_,h,_=>by simp at h
 | _::_,[],_,_,_,_,_,h=>by simp at h
 | p::ps,v::us,0,x,u,nd,h1,h2=>by
  simp at h1 h2;subst h1;subst h2;rw[Fo,ND,List.lookup_append];have:(ps.zip us).reverse.lookup p=none:=by rw[List.lookup_eq_none_iff];intro q a;have:=(Ow<|List.mem_reverse.1 a).1;exact bne_iff_ne.2 λz=>((FY.1 nd).1) (by rwa[z])
  rw[this];simp[List.lookup]
 | p::ps,v::us,i+1,x,u,nd,h1,h2=>by rw[Fo,ND,List.lookup_append,vw (FY.1 nd).2 (by simpa using h1)<|by simpa using h2];rfl
def cxM (CX:CXT)(P:QP)(w:QQ)(K:Frag)(mg:Str->Option My)(base:QW)(N:List Str)(q:Str)(scope:QS)(cl:List (Str×QN))(f c:QN)(A:QR)(outer:List Ra)(s:QO)(H:Hp)(E:XK):Cx where
 prog:=P
 w:=w
 K:=K
 mg:=mg
 base:=base
 A:=A.deeper<|envX q scope (~~~s) f (.ref c) cl
 N:=N
 s₀:=s
 H₀:=H
 env:=envX q scope (~~~s) f (.ref c) cl
 outer:=outer
 stack:=envX q scope (~~~s) f (.ref c) cl::outer
 ex:=[]
 fn:=λ_=>false
 calm:=true
 pn:=[]
 xe:=λe b=>Re (model P w) (A.deeper<|envX q scope (~~~s) f (.ref c) cl) (leaving (envX q scope (~~~s) f (.ref c) cl) e) (λ_ a=>CX outer H s E e a) (λd a=>CX outer H s E d a) b
structure LamS (ps cap:List Str) (scope:QS):Prop where
 kind:scope.kind = .function
 co:scope.isCoroutine=false
 gen:scope.isGenerator=false
 nocell:∀y∈scope.names,y.2 ≠ .cell
 par:∀y∈ps,scope.names.lookup y=some .local
 nd:ps.Nodup
 capf:∀y∈cap,scope.names.lookup y=some .free
structure LamAt (H:Hp) (cap:List Str) (scope:QS) f c o q (cl:List (Str×QN)) C (ws:List V):Prop where
 fo:H f=some (.frz o<|.own 0)
 co:H c=some (cdO c q)
 cells:Shd C H
 inC:∀y b,cl.lookup y=some b->∃ob u,C.lookup b=some ob/\ob.data = .cell u
 inj:∀x y b,cl.lookup x=some b->cl.lookup y=some b->x=y
 has:∀y,(y,Ro.free)∈scope.names->∃b,cl.lookup y=some b
 val:∀(i:Nat) y v,cap[i]? = some y->ws[i]? = some v->∃b ob u,cl.lookup y=some b/\C.lookup b=some ob/\ob.data = .cell (some u)/\l4 v u
 len:ws.length=cap.length
def Ks {K}{te:XK->TE}
  (L:LamS ps cap scope)
  (hCX:∀outer H s E ev s',Shd C H->(∀b o,C.lookup b=some o->s.heap.get? b=some o)->(∀b o,C.lookup b=some o->b ∉ frs outer)->CX outer (J5 C H) s (λCv eo H'=>(∀b o,C.lookup b=some o->H' b=none)->E Cv eo (D1 C H')) ev s'->CX outer H s E ev s')
  (he:∀A outer s H E,Room k (A.deeper<|envX q scope (~~~s) f (.ref c) cl)->PE (cxM CX P w K mg base (ps++cap) q scope cl f c A outer s H E) body (te E)) :
  FnOk P w K mg base CX (k+1) f (kla_fn "<lambda>" q params body scope cl pm (.ref c) ctv) ps (λvs H Q E=>vs.length=ps.length/\∃ws,LamAt H cap scope f c (kla_obj "<lambda>" q params body scope cl pm c ctv) q cl C ws /\
   te (λCv eo H'=>(∀b o,C.lookup b=some o->H' b=none)->E Cv eo (D1 C H')) (vs.map some++ws.map some) (J5 C H) λv H'=>(∀b o,C.lookup b=some o->H' b=none)->Q v (D1 C H')):=by
 refine#v[λvs H Q E h=>h.1,λA outer s H al us vs Q E hr a g r h=>?_];let(hl,ws,M,h):=h;have O:=λb d z=>(a.hok b _<|M.cells b d z).1
 let(V,_,_):=a.hok c _ M.co;have ac:=a.mod.nolimit.keeps λb o e=>(a.bs b o e).1
 refine kla_callFunE hr.depth ((a.hok f _ M.fo).1) rfl L.co L.gen rfl V<|g _ _ _ _<|wpAny_newFunctionEnv L.nocell (λy t=>L.par y.1 (Ow t).1) (λD ad U=>#v[ac.fresh _ U,?_]) L.kind;have l:=λb o e=>U.extBut b o (uu<|pz e)<|jM _ e
 have N:∀b,b ∉ (cxM CX P w K mg base (ps++cap) q scope cl f c A outer s (J5 C H) λCv eo H'=>(∀b o,C.lookup b=some o->H' b=none)->E Cv eo (D1 C H')).ex:=λb z=>absurd (show b∈([]) from z) (by simp)
 have j:∀b,H b=none->J5 C H b=none:=λb n=>by
  cases z:C.lookup b with
  | some o=>exact Y9 z
  | none=>rwa [u3 z]
 have W:=qX a.hok M.cells;have I:Inv (cxM CX P w K mg base (ps++cap) q scope cl f c A outer s (J5 C H) λCv eo H'=>(∀b o,C.lookup b=some o->H' b=none)->E Cv eo (D1 C H')) [] (vs.map some++ws.map some) (J5 C H) { s with heap:=D,toks:=s.toks+(ps.zip us).length }:=by
  refine#v[#v[a.mod,L.kind,rfl,rfl,qD _,λx y c h1 h2=>M.inj x y c h1 h2,λy t=>?_,λx c h=>absurd (h) tN,λ_=>hr.hd,PD a.frames,.inr #v[rfl,rfl],
   λb z=>absurd z<|N b,λb o e=>#v[(a.bs b o e).1,j b (a.bs b o e).2],a.bsz,λb _ _=>N b,λb z=>absurd z<|N b,a.funs,λb g=>j b<|a.frf b g],
   rfl,a.bare,Un.kept l,#v[_,ad,λi y v F Y e3=>?_],λy X e=>?_,W.fresh<|qD _,λy X e=>?_,λp hp=>absurd (show p∈([]) from hp) (by simp),W.kept l,?_]
  .have t:=t;rcases t with t | t
   .exact absurd rfl<|L.nocell _<|yI t
   .exact M.has y<|yI t
  .have F:(ps++cap)[i]? = some y:=F;by_cases hi:i<ps.length
   .rw[EL hi]at F;rw[EL (by rw[jI];lia),sq]at Y;let(v',hv,ev):=sA.1 Y;cases ev;let(u,hu,S):=r.get hv;exact#v[u,S,.inl #v[L.par y<|uP F,vw L.nd F hu]]
   .rw[FL<|by lia]at F;rw[FL (by rw[jI];lia),jI,hl,sq]at Y;let(v',hv,ev):=sA.1 Y;cases ev;let(b,d,u,R,Z,z3,S):=M.val _ y _ F hv;exact#v[u,S,.inr #v[.inr<|L.capf y<|uP F,b,R,d,l b d<|O b d Z,z3]]
  .let(d,u,R,Z):=M.inC y X e;exact#v[u,d,l X d<|O X d R,Z]
  .let(d,u,R,_):=M.inC y X e;exact Y9 R
  .show _=(ps++cap).length;rw[xy,xy,jI,jI,hl,M.len]
 refine kla_codeExpr (Dp (he A outer s (J5 C H) _ (hr.deeper _) [] _ _ _ _ I h) (λuv s' hs=>?_) λe s' hs=>?_)
 .let(v,H',J,S,qv):=hs;have un:=J.base;have un:Un (frs outer) [] (J5 C H) H' s.heap s'.heap:=un;have B:∀b o,C.lookup b=some o->b ∉ frs outer:=λb o z g=>by have:=a.frf b g;rw[M.cells b o z]at this;cases this
  have hn:=λb o z=>un.free b o (O b o z) (Y9 z) (by simp)
  exact#v[v,D1 C H',J.os,J.bare,(by
   refine#v[λb o e n g T=>un.keep b o e ?_ g T,λb o e n g T=>un.slot b o e ?_ g T,λb o e n T=>?_,un.there,λb xs e=>?_,λb o v e=>?_,λb ps e=>?_]
   .cases z:C.lookup b with
    | some m=>exact Y9 z
    | none=>rwa [u3 z]
   .cases z:C.lookup b with
    | some m=>exact Y9 z
    | none=>rwa [u3 z]
   .cases z:C.lookup b with
    | some m=>rw[M.cells b m z]at n;cases n
    | none=>rw[t7 z];exact un.free b o e (by rwa[u3 z]) T
   .cases z:C.lookup b with
    | some m=>rw[M.cells b m z]at e;cases e
    | none=>rw[t7 z];exact un.tups b xs (by rwa[u3 z])
   .cases z:C.lookup b with
    | some m=>rw[M.cells b m z]at e;cases e;exact L5 z
    | none=>rw[t7 z];exact un.frzs b o v (by rwa[u3 z])
   .cases z:C.lookup b with
    | some m=>rw[M.cells b m z]at e;cases e
    | none=>rw[t7 z];exact un.tbls b ps (by rwa[u3 z])),mq J.hok λb o z=>#v[un.keep b o (O b o z) (Y9 z) (B b o z) (by simp),hn b o z],S,qv hn]
 .have B:∀b o,C.lookup b=some o->b ∉ frs outer:=λb o z g=>by have:=a.frf b g;rw[M.cells b o z]at this;cases this
  exact Dp hs (λ_ G z=>hCX outer H s E e G M.cells O B z) λe' G z=>hCX outer H s E e' G M.cells O B z
end L2
namespace L3
open PySem PySem.W PySem.Spec PyProof.Rows L2

section
section

def Y7 (h:QW):List (Str×QN)->List (QN×QZ)
 | []=>[]
 | p::r=>match h.get? p.2 with
  | some o=>(p.2,o)::Y7 h r
  | none=>Y7 h r
theorem fq :∀{l},(Y7 h l).lookup b=some o->h.get? b=some o/\∃y,(y,b)∈l
 | [],e=>nomatch e
 | p::r,e=>by
  unfold Y7 at e;have c:(Y7 h r).lookup b=some o->h.get? b=some o/\∃y,(y,b)∈p::r:=λe=>by let(f,y,d):=fq e;exact#v[f,y,kN _ d]
  split at e
  .rename_i g z;rw[yH]at e;by_cases a:b=p.2
   .subst a;rw[On]at e;cases e;exact#v[z,p.1,ll]
   .rw[NT a]at e;exact c e
  .exact c e
theorem aT :∀{l},(y,b)∈l->h.get? b=some o->(Y7 h l).lookup b=some o
 | p::r,hm,e=>by
  unfold Y7;by_cases a:b=p.2
  .subst a;rw[e];rw[yH,On]
  .have c:(y,b)∈r:=by
    rcases oZ.1 hm with z | z
    .exact absurd (AZ Prod.snd z) a
    .exact z
   split
   .rw[yH,NT a];exact aT c e
   .exact aT c e
def clX (X:Cx)(scope:QS):List (Str×QN):=G0 (λx=>(X.env.cells.lookup x).getD 0) scope.names []
def zy {σ:St}{cap:List Nat}
  (F:FnOk X.prog X.w X.K X.mg X.base CX0 k g fd ps sp) (b:aW X.K fd ps []) (hr:Room k X.A) (hfn:∀x,X.fn x=true)
  (hfree:∀y∈scope.names,y.2 = .free->∃c,X.env.cells.lookup y.1=some c) (hcapN:(cap.map λj=>X.N[j]?)=capN.map some) (hcapv:∀y∈capN,X.env.scope.names.lookup y=some .cell\/X.env.scope.names.lookup y=some .free) (hcapf:∀y∈capN,(y,Ro.free)∈scope.names)
  (hws:(cap.map λj=>(σ[j]?).join)=ws.map some)
  (I:Inv X ((f,kla_obj "<lambda>" q params body scope (clX X scope) pm c' ctv)::π) σ H s) (hf: ~~~X.s₀<=f) (hc:H c'=some (cdO c' q)) (r:k8 vs (us++[.ref f]))
  (h:∀C,H f=none->(∀b o,C.lookup b=some o->H b=none)->LamAt (D1 ((f,kla_obj "<lambda>" q params body scope (clX X scope) pm c' ctv)::C) H) capN scope f c' (kla_obj "<lambda>" q params body scope (clX X scope) pm c' ctv) q (clX X scope) C ws ->
   sp vs (D1 ((f,kla_obj "<lambda>" q params body scope (clX X scope) pm c' ctv)::C) H) (λv H3=>Q v<|J5 ((f,kla_obj "<lambda>" q params body scope (clX X scope) pm c' ctv)::C) H3) E0) :
  Re (model X.prog X.w) X.A (call (.ref g)<|us++[.ref f]) (EP X π σ Q) X.xe s:=by
 generalize ho:kla_obj "<lambda>" q params body scope (clX X scope) pm c' ctv=o at I h;let(p1,p2,p3,p4,p5):=I.pin _<|uO _<|.head _;have p1:s.heap.get? f=some o:=p1;have p2:H f=none:=p2;have W:∀y∈scope.names,y.2 = .free->X.env.cells.lookup y.1=some ((X.env.cells.lookup y.1).getD 0):=λy hy L=>by let(c,e):=hfree y hy L;rw[e];rfl
 have E:∀{x:Str} {c:QN},(clX X scope).lookup x=some c->X.env.cells.lookup x=some c:=λ{x c} e=>by
  rcases N6 _ _ e with ⟨a,t⟩ | a
  .rw[t];exact W (x,.free) a rfl
  .simp at a
 have K:∀x,(x,Ro.free)∈scope.names->∃c,(clX X scope).lookup x=some c:=λx hx=>#v[_,aq _ _<|.inl hx]
 have S:∀{y:Str} {b:QN},(y,b)∈clX X scope->X.env.cells.lookup y=some b:=λ{y b} O=>by
  have ac:∀(d:List (Str×Ro)) (G:List (Str×QN)) (f:Str->QN),(y,b)∈G0 f d G->((y,Ro.free)∈d/\b=f y)\/(y,b)∈G:=by
   intro d;induction d with
   | nil=>intro G f O;exact .inr O
   | cons z r ih =>
    intro G f O;let(n,kd):=z;rw[G0]at O;rcases ih _ _ O with ⟨a,t⟩ | a
    .exact .inl #v[kN _ a,t]
    .split at a
     .rename_i L;rcases oZ.1 a with z | z
      .cases z;exact .inl #v[by rw[beq_iff_eq.1 L];exact ll,rfl]
      .exact .inr z
     .exact .inr a
  rcases ac _ _ _ O with ⟨a,t⟩ | a
  .rw[t];exact W (y,.free) a rfl
  .exact absurd a (by simp)
 obtain⟨C,eC⟩:∃C,C=Y7 s.heap (clX X scope):=#v[_,rfl];have hC:∀b w,C.lookup b=some w->s.heap.get? b=some w/\∃y,X.env.cells.lookup y=some b:=λb w z=>by rw[eC]at z;let(a,y,t):=fq z;exact#v[a,y,S t]
 have ap:∀b w,C.lookup b=some w->∃u,w.data = .cell u:=λb w z=>by let(a,y,t):=hC b w z;let(u,o',P,Y):=I.cell y b t;rw[a]at P;cases P;exact#v[u,Y]
 have an:C.lookup f=none:=by
  cases z:C.lookup f with
  | none=>rfl
  | some w =>let(u,hu):=ap f w z;have:=(hC f w z).1;rw[p1]at this;cases this;exact absurd hu<|p5 u
 obtain⟨D,eD⟩:∃D,D=(f,o)::C:=#v[_,rfl];have Df:D.lookup f=some o:=by rw[eD,yH,On]
 have DC:∀b,b≠f->D.lookup b=C.lookup b:=λb A=>by rw[eD,yH,NT A]
 have M:∀b x,D.lookup b=some x->s.heap.get? b=some x/\H b=none/\(~~~X.s₀)<=b/\b≠X.env.locals:=λb x z=>by
  by_cases A:b=f
  .subst A;rw[Df]at z;cases z;exact#v[p1,p2,hf,p3]
  .rw[DC b A]at z;let(a,y,t):=hC b x z;exact#v[a,I.freeC y b t,I.ok.cab y b (hfn y) t,I.cne y b t]
 have sh:∀b,H b=none->D.lookup b=none->D1 D H b=none:=λb n z=>by rw[t7 z];exact n
 have B:∀b,(∀x,D.lookup b=some x->False)->D.lookup b=none:=λb n=>by
  cases z:D.lookup b with
  | none=>rfl
  | some x=>exact(n x z).elim
 have e0:Env0 X.prog X.w X.K X.mg X.base X.A X.stack s (D1 D H):=by
  refine#v[I.ok.frames,I.ok.mod,λb o' e=>#v[(I.bs b o' e).1,sh b (I.bs b o' e).2<|B b λx z=>?_],uj I.ok.bsz I.sz,I.stack,λb A=>sh b (I.stkFree b A)<|B b λx z=>?_,mq I.hok λb x z=>#v[(M b x z).1,(M b x z).2.1],I.bare]
  .exact absurd (uz (pz e)<|uj I.ok.bsz (M b x z).2.2.1)<|Bl _
  .let(_,_,z3,z4):=M b x z;have U:b ∉ X.fs:=λA=>by let(_,o',am,_):=I.ok.funs.mem A;exact absurd (uz (pz am) z3)<|Bl _
   rcases I.ok.stk with e | ⟨e,e2⟩
   .rw[e]at A;exact U A
   .rw[e]at A;unfold frs at A;rw[Mw,e2]at A;rcases oZ.1 A with N | N
    .exact z4 N
    .exact U N
 have T:ws.length=capN.length:=by have a:=AZ List.length hws;have t:=AZ List.length hcapN;rw[jI,jI]at a t;lia
 have LA:LamAt (D1 D H) capN scope f c' o q (clX X scope) C ws:=by
  refine#v[L5 Df,?_,λb w z=>?_,λy b e=>?_,λx y b a t=>I.ok.inj x y b (E a)<|E t,K,λi y v e1 e2=>?_,T]
  .rw[t7<|B c' λx z=>?_]
   .exact hc
   .have:=(M c' x z).2.1;rw[hc]at this;cases this
  .exact L5 (by rwa[DC b (λz2=>by rw[z2,an]at z;cases z) ])
  .let(u,w,P,Y):=I.cell y b<|E e;exact#v[w,u,by rw[eC];exact aT (yI e) P,Y]
  .have w1:=AZ (λl=>l[i]?) hws;have w2:=AZ (λl=>l[i]?) hcapN;simp only[sq,e1,e2,Nw]at w1 w2;let(j,hj,hv):=sA.1 w1;rw[hj]at w2;have ad:σ[j]? = some (some v):=by
    cases r:σ[j]? with
    | none=>rw[r]at hv;cases hv
    | some o=>rw[r]at hv;exact AZ some hv
   have hy:=hcapv y<|uP e1;let(m,hn,hl):=I.loc;let(u,ru,l):=hl j y v (rn w2) ad<|.inr hy;rcases l with ⟨L,_⟩ | ⟨_,c1,P,Y⟩
   .have L:X.env.scope.names.lookup y=some .local:=L;rcases hy with z | z <;> (rw[L]at z;cases z)
   .let(c2,N):=K y<|hcapf y<|uP e1;have ec:=rn<|(E N).symm.trans P;subst ec;let(w,k1,k2):=Y;exact#v[c2,w,u,N,by rw[eC];exact aT (yI N) k1,k2,ru]
 have h:=h C p2 (λb w z=>by let(_,y,t):=hC b w z;exact I.freeC y b t) (by rwa[<-eD])
 rw[<-eD]at h;have Z:=r.append .nil;have hl:((us++[My.ref f])++[]).length=ps.length:=by rw[<-Z.length,Am];exact F.len _ _ _ _ h
 rw[Am]at Z hl;have b1:=b s (us++[.ref f]) I.kIn (by rwa[Am]);rw[Am]at b1 Z;refine wpAny_call (OD (F.run X.A X.stack s (D1 D H) #v[us++[.ref f],[]] _ _ _ E0 hr e0 b1 Z h) λrr s' hq=>?_);cases rr with
 | error ev=>exact hq.elim
 | ok fl =>
  cases fl with
  | ret u =>
   let(v,H3,os,bare,un,R,rv,qv):=hq;have ab:=Gf un R (λb x z=>#v[(M b x z).1,(M b x z).2.1]);have J:=I.call' os ab (qX R (λb x z=>un.frzs b x _<|L5 z) ) bare (λb z=>absurd z<|by simp);exact#v[v,_,J.pins_of<|λp hp=>J.pin p<|uO _<|kN _ hp,rv,qv]
  | _=>exact hq.elim
end
end

section
def _root_.L2.LamAt.same (M:LamAt H cap scope f c o q cl C ws)(s:i5 H H'):LamAt H' cap scope f c o q cl C ws :=
 #v[s _ _ M.fo,s _ _ M.co,λb a z=>s _ _<|M.cells b a z,M.inC,M.inj,M.has,M.val,M.len]
section
variable {K:Frag}
def FAt.bare (f:FAt K G H F)(hD:∀b o,D.lookup b=some o->b ∉ j6 K G)(hs:Shd D H):FAt K G (J5 D H) F:=by
 have a:∀b,b∈j6 K G->J5 D H b=H b:=λb j=>by
  cases z:D.lookup b with
  | none=>exact u3 z
  | some o=>exact absurd j<|hD b o z
 refine#v[?_,λt g=>?_]
 .cases G with
  | none=>trivial
  | some p =>
   let(d,r):=p
   exact Feeds.congr f.1 (a d<|by simp[j6]) (a r<|by simp[j6])
 .let(i,m,l,k):=f.2 t g;refine#v[i,(a _<|uX<|HM g).trans m,l,λpos n q=>?_];let(c,h,e):=k pos n q;refine#v[c,h,?_];cases z:D.lookup c with
  | none=>rwa [u3 z]
  | some o=>rw[hs c o z]at e;cases e
theorem vz {σ:St}:∀{cap:List Nat},(∀j∈cap,∃v,σ[j]? = some (some v))->∃ws:List V,(cap.map λj=>(σ[j]?).join)=ws.map some
 | [],_=>#v[[],rfl]
 | j::cap,h=>by
  let(ws,e):=vz λj b=>h j<|kN _ b
  let(v,a):=h j ll;exact#v[v::ws,by rw[kX,kX,e,a];rfl]
def CH:Option (Option DV)->Bool
 | some (some<|.dat _)=>true
 | _=>false
end
end
section
section
variable {K:Frag}{W W':Hp}
def uS (o:HO):Prop:=(∃x,o = .frz x (.own 0))\/∃a,o = .ext a
mutual
theorem c6.junk (k:∀b o,W b=some o->uS o\/W' b=some o):∀(d:CD) (v:V),c6 K W d v->c6 K W' d v
 | .none,v,h=>by simpa only[c6] using h
 | .bool b,v,h=>by simpa only[c6] using h
 | .int i,v,h=>by simpa only[c6] using h
 | .str x,v,h=>by simpa only[c6] using h
 | .tuple ds,v,h=>by
  simp only[c6]at h ⊢;let(a,c,e,f,g):=h;refine#v[a,c,e,?_,b9.junk k ds c g];rcases f with (h | ⟨o,h⟩) | h
  .rcases k _ _ h with (⟨x,z⟩ | ⟨x,z⟩) | z
   .cases z
   .cases z
   .exact .inl<|.inl z
  .rcases k _ _ h with (⟨x,z⟩ | ⟨x,z⟩) | z
   .cases z
   .cases z
   .exact .inl<|.inr #v[o,z]
  .exact .inr h
 | .list ds,v,h=>by
  simp only[c6]at h ⊢;let(a,c,e,f,g):=h;refine#v[a,c,e,?_,b9.junk k ds c g];rcases k _ _ f with (⟨x,z⟩ | ⟨x,z⟩) | z
  .cases z
  .cases z
  .exact z
 | .dict d3,v,h=>by simp only[c6]at h
theorem b9.junk (k:∀b o,W b=some o->uS o\/W' b=some o):∀(ds:List CD) (xs:List V),b9 K W ds xs->b9 K W' ds xs
 | [],xs,h=>by simpa only[b9] using h
 | d::ds,xs,h=>by simp only[b9]at h ⊢;let(x,r,e,c,a):=h;exact#v[x,r,e,c6.junk k d x c,b9.junk k ds r a]
end
theorem KVs.junk (k:∀b o,W b=some o->uS o\/W' b=some o):∀{ps} {xs},KVs K W c ps xs->KVs K W' c ps xs
 | [],_,h=>h
 | _::_,_,#v[a,b,v,r,e,h1,h2,h3,h4]=>#v[a,b,v,r,e,h1,c6.junk k _ _ h2,c6.junk k _ _ h3,KVs.junk k h4]
theorem IVs.junk (k:∀b o,W b=some o->uS o\/W' b=some o):∀{ps} {xs},IVs K W ps xs->IVs K W' ps xs
 | [],_,h=>h
 | _::_,_,#v[i,v,r,e,h1,h3,h4]=>#v[i,v,r,e,h1,c6.junk k _ _ h3,IVs.junk k h4]
def eP.junk (k:∀b o,W b=some o->uS o\/W' b=some o)(h:eP K W c ps a φ):eP K W' c ps a φ:=by
 rcases h with ⟨f,g,e,h⟩ | ⟨f,d,i,j,e,h⟩
 .exact .inl #v[f,g,e,h.junk k]
 .exact .inr #v[f,d,i,j,e,h.junk k]
end
section

def tFv (P:QP)(w:QQ)(K:Frag)(mg:Str->Option My)(base:QW)(k i:Nat)(tl:TA):TE:=λd H Q=>∃a l j b c f e,d[i]? = some (some<|.ref a)/\FnOk P w K mg base CX0 k a c f e/\aW K c f [] /\
 tl d H λh g=>g a=some (.frz #v[l,j,.func c,b]<|.own 0)/\e h g Q E0
end
section
variable {K:Frag}
def xZ (P:QP)(w:QQ)(K:Frag)(mg:Str->Option My)(base:QW)(k n:Nat)(f:QN)(φ:Hp->Prop)(g:List CD->M CD):Prop :=
 ∃p o h i l j,FnOk P w K mg base CX0 k f i l j/\aW K i l []/\(∀H,φ H->H f=some (.frz #v[p,o,.func i,h]<|.own 0)) /\
  ∀e H Q,(∃G B F a d m,e.length=n/\(∀b∈j6 K G,b∈B)/\BOk H B/\FAt K G H F/\b9 K (hid H B) a e /\ φ (hid H B)/\g a F=some (d,m) /\
   ∀v c,Kp (j6 K G) H c->FAt K G c m->c6 K (hid c B) d v->Q v c)->j e H Q E0
def su (P:QP)(w:QQ)(K:Frag)(mg:Str->Option My)(base:QW)(k n:Nat)(S:QN->(Hp->Prop)->(List CD->M CD)->Sp):Sp:=λb H Q E=>∃f a g,xZ P w K mg base k n f a g/\S f a g b H Q E
variable {X:Cx}{i:Nat}{p:Pos}{f:QN}{φ:Hp->Prop}{g:List CD->M CD}
open Classical in
noncomputable def sFv (i:Nat)(f:QN)(φ:Hp->Prop)(g:List CD->M CD)(ms:DE->M (List CD)):DE->M CD:=λE F=>if E[i]? = some (some<|.fv f φ) then(ms E F).bind λp=>g p.1 p.2 else none
def La (hf:xZ P w K mg base k n f φ g)(hK:X.K=K)(hr:Room k X.A)(ha:Ea K X (e::es) tl ms)(hn:∀E F args F',ms E F=some (args,F')->args.length=n)(hN:‹X.N[i]? = some x›)(hvis:autoParam (Vis X.env.scope x) kA)
  (hd:autoParam (nDb x) gC) (hcd:autoParam (nCd x) gC) (he:‹QY (e::es) X.env=(false,eval e X.env)::QY es X.env›) (hpl:‹(Rb pos<|QY es X.env).any (·.1)=false›)
  (hP:‹X.prog=P›) (hw:‹X.w=w›) (hmg:‹X.mg=mg›) (hbs:‹X.base=base›) :
  Ev K X (.Call (.Name x p) (e::es) [] pos) (tFv P w K mg base k i tl) (sFv i f φ g ms):=by
 subst hK hP hw hmg hbs;refine#v[(by
  intro c s o H Q I #v[a,L,J,l,V,D,Z,m,F,b,q];refine Np (thn (A9 hN hvis hd hcd c s o H (λv H'=>v = .ref a/\H'=H) I #v[_,m,rfl,rfl]) ?_ );rintro u s1 ⟨v,Y,I1,rv,y,eH⟩;subst y eH;obtain rfl:=rv;have hh:=ha.pa pos c s1 o Y _ I1 q;rw[he]at hh ⊢;refine callWith_of (P:=λh=>h.get? a=some #v[L,J,.func V,l]) (by show((false||(Rb pos<|QY es X.env).any (·.1))||false)=false;rw[hpl];rfl) (λh X=>#v[.frame,.inl rfl,(Looks.ld X).andThen .now])<|Oh<|thn hh λus s2 #v[C,W,A,r,ea,q2]=>#v[(A.hok a _ ea).1,?_]
  have t:k8 (C++[]) (([] ++ Args.pos { pos := us })++[]):=r.append .nil;have hl:(([] ++ Args.pos { pos := us })++[]).length=D.length:=by rw[<-t.length,Am];exact F.len _ _ _ _ q2
  rw[Am]at t;have b1:=b s2 ([] ++ Args.pos { pos := us }) A.kIn hl;rw[Am]at b1 t;refine wpAny_call (OD (F.run X.A X.stack s2 W #v[([] ++ Args.pos { pos := us }),[]] _ _ Q E0 hr A.env0 b1 t q2) λrr s' T=>?_);cases rr with
  | error y=>exact (λy s' z=>z.elim) y s' T
  | ok fl =>
   cases fl with
   | ret u=>exact A.after T
   | _=>exact T.elim),λG B E F o H Q d F' I m q=>?_]
 unfold sFv at m;split at m;case isFalse=>cases m
 rename_i hi;obtain⟨⟨args,F1⟩,e2,e3⟩:=bS9 m;let(v,v1,rfl,R,O):=I.loc i _ hi;let(L,J,l,V,D,Z,Fn,Bd,U,S):=hf;refine#v[f,L,J,l,V,D,Z,v1,Fn,Bd,ha.ok G B E F o H _ args F1 I e2 λC Y N f1 h1=>?_];have j:=R _ _ (N.hid I.fB) O;exact#v[d9 _ _<|U _ j,S C Y Q #v[G,B,F1,args,d,F',by rw[h1.length];exact hn _ _ _ _ e2,I.fB,m9 I.bk N f1,f1,h1,j,e3,λv W k2 f2 h2=>q v W (N.trans k2) f2 h2]]
end
section
variable {K:Frag}{st:QU}{mt:DE->M Out}

def spC (K:Frag)(n:Nat)(f:List DV->M DV):Sp:=λd H Q _=>∃G B F a e g,d.length=n/\(∀b∈j6 K G,b∈B)/\BOk H B/\FAt K G H F/\U3 K G B H a d/\f a F=some (e,g) /\
 ∀v c,Kp (j6 K G) H c->FAt K G c g->iI K B H c e v->Q v c
def cSq (a:DE->M Out)(b:DE->M DV):DE->M DV:=λE F=>(a E F).bind λp=>match p.1 with
 | .nx E1=>b E1 p.2
 | _=>none
def zi (i:Nat):DE->M DV:=λE F=>match E[i]? with
 | some (some<|.dic true c ps)=>some (.dic true c ps,F)
 | _=>none
structure SsC (K:Frag) X sts ts (m:DE->M DV):Prop where
 ps:PSs X sts ts
 ok:∀G B0 H0 E F σ H D dv F',Sit K G B0 H0 E F σ H->m E F=some (dv,F') ->
  (∀v H',Kp (j6 K G) H0 H'->FAt K G H' F'->iI K B0 H0 H' dv v->D.rt v H')->ts D σ H
def JJ (i)(hN:‹X.N[i]? = some x›)(hv:autoParam (Vis X.env.scope x) kA)(hd:autoParam (nDb x) gC)
  (hcd:autoParam (nCd x) gC):SsC K X [.Return (some<|.Name x p) pos] (yQ<|P4 i) (zi i):=#v[X7<|bK<|A9 hN hv hd hcd,λG y u E F n H D t w S e q=>by
 let(B,s,o,I):=S.ex;unfold zi at e;split at e
 .rename_i c j f;cases e;let(v,g,a,h,rfl,m,r,l,k,hd):=I.loc i _ f;obtain⟨⟨n1,n2⟩,_⟩:=S.dic i c j a f g;exact#v[_,g,q _ H S.kp I.fd #v[rfl,a,h,rfl,n1,l,k,hd.same (C7 λb d=>by
   rcases oZ.1 d with rfl | d
   .exact m
   .exact s b d)]]
 .cases e]
def vX (h1:Ss K X st t mt)(h2:SsC K X rest u mu):SsC K X (st::rest) (qZ t u) (cSq mt mu):=#v[u9 h1.ps h2.ps,λG g c E F h H D j m S e q=>by
 obtain⟨⟨o,f⟩,i,e⟩:=bS9 e;refine h1.ok G g c E F h H _ o f S i ?_;cases o with
 | nx b=>exact λa l k=>h2.ok G g c b f a l D j m k e q
 | rt d=>cases e
 | bk b=>cases e
 | ct b=>cases e]
def Kj (N:List Str)(mf:DE->M DV):List DV->M DV:=λa F=>mf (t9 N a) F
def Cj (Fn:Fun K x qual st f fd)(S:FnScope N ps (c7 st))
  (hbody:∀dr A outer s H E,Room k (A.deeper<|envOfC qual (c7 st) (~~~s) f dr) ->
   ∃ts,SsC K (gB CX0 P w K mg base N qual (c7 st) f dr A outer s H E).nox (m4 st) ts mf):FnOk P w K mg base CX0 (k+1) f fd ps (spC K ps.length<|Kj N mf):=by
 refine Fn.ok S (λc H Q E h=>?_) (λdr A outer s H c Q E g h=>?_)
 .let(G,B,F,a,d,e,hl,_):=h;exact hl
 .let(G,B,F,a,n,e,hl,l,bk,j,i,m,q):=h;let(ts,b):=hbody dr A outer s H E g;exact#v[ts,b.ps,b.ok G B H (t9 N a) F (L2.P2 N c) H _ n e (Z8 l bk j i) m q]
end
end
section
section
noncomputable def vR (i:Nat)(r:DE->M (List DV)):DE->M (List DV):=λE F=>match E[i]? with
 | some (some<|.rdic c ps)=>(r E F).bind λq=>some (.rdic c ps::q.1,q.2)
 | _=>none
def dB :∀b∈wo B A,b∈B:=λb a=>(Z3.1 a).1
end
end
section
section
variable {K:Frag}
def dvs (l:List CD):DE:=l.map λd=>some<|.dat d
def zQ (me:DE->M CD)(ds:List CD):List CD->M CD:=λa F=>me (dvs<|a++ds) F
def Jk 
  (L:LamS ps cap scope) (hbind:∀us,us.length=ps.length->bindArgs (kla_fn "<lambda>" q params body scope cl pm (.ref c) ctv) #v[us,[]]=pure (ps.zip us))
  (hP:∀A outer s H E,Room k (A.deeper<|envX q scope (~~~s) f (.ref c) cl)->PE (cxM CX0 P w K mg base (ps++cap) q scope cl f c A outer s H E) body te) (hO:TEd K te me) :
  xZ P w K mg base (k+1) ps.length f (λH=>LamAt H cap scope f c (kla_obj "<lambda>" q params body scope cl pm c ctv) q cl C ws/\b9 K H ds ws) (zQ me ds):=by
 refine#v[_,_,_,_,_,_,Ks (C:=C) L (λ_ _ _ _ _ _ _ _ _ z=>z.elim) λA outer s H E T=>hP A outer s H E T,aW.all hbind,λH h=>h.1.fo,λJ H Q h=>?_];obtain⟨G,B,F,m,d,F',hl,t,bk,Y,W,⟨M,p⟩,U,q⟩:=h;have n:=M.same d9;refine#v[hl,ws,n,?_];have l:∀b o,C.lookup b=some o->b ∉ B:=λb o z a=>by have:=M.cells b o z;rw[A2 a]at this;cases this
 have r:∀b o,hid H B b=some o->uS o\/hid (J5 C H) B b=some o:=λb o z=>by
  by_cases a:b∈B
  .rw[A2 a]at z;cases z
  .rw[j5 a]at z ⊢;cases y:C.lookup b with
   | none=>exact .inr (by rwa [u3 y])
   | some x=>rw[n.cells b x y]at z;cases z;exact .inl<|.inl #v[_,rfl]
 have g:=b9.junk r _ _<|b9.append p W;have IL:SitE K G B (dvs<|m++ds) F (J.map some++ws.map some) (J5 C H):=by
  refine#v[Y.bare (λb o z a=>l b o z<|t b a) n.cells,t,λb a=>?_,?_,λi x u=>?_]
  .let(o,e):=bk b a;refine#v[o,?_];cases y:C.lookup b with
   | none=>rwa [u3 y]
   | some x=>exact absurd a<|l b x y
  .rw[<-yx,jI];unfold dvs;rw[jI,g.length]
  .unfold dvs at u;rw[sq]at u;let(d1,e1,e2):=sA.1 u;cases e2;let(v,O,N):=b9.item g e1;exact#v[v,by rw[<-yx,sq,O];rfl,N]
 refine hO G B _ F _ _ _ d F' IL U λv I S f5 X j=>?_
 have D:i5 I (D1 C I):=λb o z=>by
  cases y:C.lookup b with
  | some x=>rw[j b x y]at z;cases z
  | none=>rwa [t7 y]
 refine q v _ (λb o z R=>?_) (f5.same D)<|c6.same X<|Kp.hid (Kp.same D) t;cases y:C.lookup b with
 | some x=>rw[n.cells b x y]at z;cases z;exact L5 y
 | none=>rw[t7 y];exact S b o (by rwa[u3 y]) R
end
section

abbrev DW :=QN->QN->My->List V->Hp->Prop
abbrev TL :=St->Hp->DW->Prop
def LP (X:Cx)(π:List (QN×QZ))(σ:St)(q:Str)(params:Arguments)(body:QV)(scope:QS)(R:DW)(us:List My)(s:QO):Prop :=
 ∃f b a d H c,us=c++[.ref f]/\Inv X ((f,kla_obj "<lambda>" q params body scope (clX X scope) ((X.mg "__name__").getD .none) b a)::π) σ H s/\(~~~X.s₀)<=f/\H b=some (cdO b q)/\k8 d us/\R f b a d H
def PAL (X:Cx)(q:Str)(params:Arguments)(body:QV)(scope:QS)(es:List QV)(T:TL):Prop :=
 ∀c a s (b:St) H R,Inv X a b H s->T b H R->Re (model X.prog X.w) X.A (spliced<|Rb c<|QY es X.env) (LP X a b q params body scope R) X.xe s
def Bb (P:QN)(q:Str):TL:=λ_ H R=>eQ H P q/\∀f c a b,CU P q H b->eQ b P q->R f c a [.ref f] b
def Dx (te:TE)(T:TL):TL:=λb H R=>te b H λv g=>T b g λf d a c e=>R f d a (v::c) e
section

def qh (ha:PE X e te)(hr:PAL X q params body scope es T)(hs:QY (e::es) X.env=(false,eval e X.env)::QY es X.env):PAL X q params body scope (e::es) (Dx te T):=by
 intro b a s g H R I h;rw[hs];refine Jg (thn (ha a s g H _ I h) ?_ );rintro u s1 ⟨x,w,t,j,k⟩;refine thn (hr b a s1 g w _ t k) ?_;rintro us s2 ⟨f,o,d,i,v,c,n,p,l,m,r,z⟩
 exact#v[f,o,d,x::i,v,u::c,by rw[n];rfl,p,l,m,.cons j r,z]
end
def DP (X:Cx)(q:Str)(params:Arguments)(body:QV)(scope:QS)(cap:List Nat)(capN:List Str)(sp:Sp)(T:TL):TE:=λe H Q=>∃g,(cap.map λj=>(e[j]?).join)=g.map some/\T e H λf c a h d=>∀C,d f=none->(∀b o,C.lookup b=some o->d b=none)->d c=some (cdO c q) ->
  LamAt (D1 ((f,kla_obj "<lambda>" q params body scope (clX X scope) ((X.mg "__name__").getD .none) c a)::C) d) capN scope f c (kla_obj "<lambda>" q params body scope (clX X scope) ((X.mg "__name__").getD .none) c a) q (clX X scope) C g ->
  sp h (D1 ((f,kla_obj "<lambda>" q params body scope (clX X scope) ((X.mg "__name__").getD .none) c a)::C) d) (λv i=>Q v<|J5 ((f,kla_obj "<lambda>" q params body scope (clX X scope) ((X.mg "__name__").getD .none) c a)::C) i) E0
end
section
variable {K:Frag}
def TVL (K:Frag)(P:QN)(q:Str)(T:TL)(m:DE->M (List DV)):Prop:=∀G B E F e H R h i,SitE K G B E F e H->m E F=some (h,i) ->
 (∀f k c g b d A,Kp (j6 K G) H b->FAt K G b i->CU P q b d->eQ d P q->(∀a∈A,a ∉ j6 K G/\∃j,b a=some (.ext j))->U3 K G (wo B A) b h g->R f k c (g++[.ref f]) d)->T e H R
structure EvL K X P q params body scope es T m:Prop where
 pa:PAL X q params body scope es T
 ok:TVL K P q T m
def DI (LB:LamB K X.mg X.base y fd c P)(hcode:X.env.code = .ref c)(hq:X.env.qual ++ "<lambda>" = J8 y)
  (hfree:∀y∈scope.names,y.2 = .free->X.env.scope.names.lookup y.1=some .cell\/X.env.scope.names.lookup y.1=some .free) (hdef:‹defaultsOf params X.env=([],[])›)
  (he:‹QY [.Lambda params body scope lpos] X.env=[(false,eval (.Lambda params body scope lpos) X.env)]›):EvL K X P (J8 y) params body scope [.Lambda params body scope lpos] (Bb P<|J8 y) u8 :=
 #v[(by
  intro o m s n H R I #v[k,h];rw[he];refine Jg (qU I hdef (J9 λy p r=>by let(c,e):=I.ok.has y.1<|hfree y p r;unfold cellOf;rw[e];rfl) hcode LB.hd LB.bm k hq λf b a d s2 t l j i u=>NY #v[f,b,a,[.ref f],d,[],rfl,u,uj I.sz t,i,.cons rfl .nil,h f b a d l j] )),λG B E F n H R v w I e q=>by cases e;exact#v[I.fd.2 _ LB.mem,λf b a d l k=>q f b a [] H d [] Kp.refl I.fd l k (by simp) rfl]]
def KI (ha:Ev K X e te m)(hr:EvL K X P q params body scope es T ms)(hs:‹QY (e::es) X.env=(false,eval e X.env)::QY es X.env›):EvL K X P q params body scope (e::es) (Dx te T) (vD m ms) :=
 #v[qh ha.pe hr.pa hs,λG B E F b H R C J I e q=>by
  obtain⟨⟨x,h⟩,t,e⟩:=bS9 e;obtain⟨⟨i,D⟩,s,e⟩:=bS9 e;cases e;refine ha.ok G B E F b H _ x h I t λv z g r n=>hr.ok G B E h b z _ i _ (I.step g r) s λf u a c y w A d p o j k l=>q f u a (v::c) y w A (g.trans d) p o j k #v[v,c,rfl,rfl,(c6.same n<|d.hid I.fB).same<|C7 dB,l]]
def LD (i)(hr:EvL K X P q params body scope es T ms)(hN:‹X.N[i]? = some x›)(hv:autoParam (Vis X.env.scope x) kA)(hd:autoParam (nDb x) gC)
  (hcd:autoParam (nCd x) gC) (hs:‹QY (.Name x p::es) X.env=(false,eval (.Name x p) X.env)::QY es X.env›):EvL K X P q params body scope (.Name x p::es) (Dx (P4 i) T) (vR i ms) :=
 #v[qh (A9 hN hv hd hcd) hr.pa hs,λG B E F j H R L N I e q=>by
  unfold vR at e;split at e;case h_2=>cases e
  rename_i c J n;obtain⟨⟨k,M⟩,y,e⟩:=bS9 e;cases e;let(v,m,l):=I.loc i _ n;refine#v[_,m,hr.ok G B E F j H _ k _ I y λf z b d D C A g w u r s t=>q f z b (_::d) D C A g w u r s #v[_,d,rfl,rfl,?_,t]];let(a,h,rfl,o,hd):=l.step g I.fB;exact#v[a,h,rfl,C7 dB _ _ o,hd.same<|C7 dB]]
end
end
section
section
variable {K:Frag}{α:Type}
def spR (K:Frag)(n:Nat)(rel:List QN->Hp->Hp->α->V->Prop)(f:List DV->M α):Sp:=λe H Q _=>∃G B F a d g,e.length=n/\(∀b∈j6 K G,b∈B)/\BOk H B/\FAt K G H F/\U3 K G B H a e/\f a F=some (d,g) /\
 ∀v c,Kp (j6 K G) H c->FAt K G c g->rel B H c d v->Q v c
def iR (rel:List QN->Hp->Hp->α->V->Prop):Prop:=∀{g B} {d f e c} {r} {v},(∀C b o,hid e (C++g) b=some o->uS o\/hid c (C++B) b=some o)->(∀a,d a=none->f a=none)->(∀a o,d a=none->e a=some o->c a=some o)->rel g d e r v->rel B f c r v
def pV :iR (iI K):=λ{x B p u t o n v} k h g r=>by
 cases n with
 | dat d=>exact c6.junk (k []) _ _ r
 | feed=>exact r.elim
 | fn _=>exact r.elim
 | adr _=>exact r.elim
 | fv _ _=>exact r.elim
 | rdic _ _=>exact r.elim
 | own s =>let(a,j,rfl,b,f,e):=r;exact#v[a,j,rfl,h a b,g a _ b f,b9.junk (k [a]) _ _ e]
 | dic w c q =>let(l,a,i,rfl,b,f,m,e):=r;exact#v[l,a,i,rfl,h a b,g a _ b f,m,e.junk<|k [a]]
open Classical in
noncomputable def jK (Fm:QN->(Hp->Prop)->(List CD->M CD)->List DV->M α)(g:List CD->M CD):List DV->M α:=λargs F=>if h:∃r,∀f φ,Fm f φ g (args++[.fv f φ]) F=some r then some h.choose else none
def xR {r:α×FS}(h:∀f φ,Fm f φ g (args++[.fv f φ]) F=some r):jK Fm g args F=some r:=by
 unfold jK;have a:∃r,∀f φ,Fm f φ g (args++[.fv f φ]) F=some r:=#v[r,h];rw[dif_pos a];have:=a.choose_spec 0 λ_=>True
 rw[h]at this;exact this.symm
def yw {r:α×FS}(h:jK Fm g args F=some r):∀f φ,Fm f φ g (args++[.fv f φ]) F=some r:=by
 unfold jK at h;split at h;case isFalse=>cases h
 rename_i a;cases h;exact a.choose_spec
theorem U3.snoc (ho:x.ow=false)(hx:DVr K G B H x v):∀{zs} {us},U3 K G B H zs us->U3 K G B H (zs++[x]) (us++[v])
 | [],_,h=>by cases h;exact#v[v,[],rfl,ho,hx,rfl]
 | _::_,_,#v[u,r,e,n1,n2,n3]=>by subst e;exact#v[u,r++[v],rfl,n1,n2,n3.snoc ho hx]
def KN:Option (Option DV)->CD
 | some (some<|.dat d)=>d
 | _=>.none
def dI (cap:List Nat)(E:DE):List CD:=cap.map λj=>KN E[j]?
theorem lr {σ:St}:∀{cap} {ws},(∀j∈cap,∃dj vj,E[j]? = some (some<|.dat dj) /\ σ[j]? = some (some vj)/\c6 K W dj vj)->(cap.map λj=>(σ[j]?).join)=ws.map some->b9 K W (dI cap E) ws
 | [],[],_,_=>rfl
 | [],_::_,_,e=>nomatch e
 | _::_,[],_,e=>nomatch e
 | j::cap,w::ws,h,e=>by let(dj,vj,f,d,c):=h j ll;rw[kX,kX,d]at e;let(a,g):=Pr e;have a:=rn a;subst a;exact#v[vj,ws,rfl,by show c6 K W (KN E[j]?) vj;rwa[f],lr (λi b=>h i<|kN _ b) g]
end
def _root_.L2.LamAt.hide (M:LamAt H cap scope f c o q cl C ws)(hf:f ∉ B)(hc:c ∉ B)(hC:∀b o,C.lookup b=some o->b ∉ B):LamAt (hid H B) cap scope f c o q cl C ws :=
 #v[by rw[j5 hf];exact M.fo,by rw[j5 hc];exact M.co,λb a z=>by rw[j5<|hC b a z];exact M.cells b a z,M.inC,M.inj,M.has,M.val,M.len]
section
variable {K:Frag}{X:Cx}
def ub (Fm:QN->(Hp->Prop)->(List CD->M CD)->List DV->M α)(me:DE->M CD)(cap:List Nat)(ms:DE->M (List DV)):DE->M α:=λE F=>if (cap.all λj=>CH E[j]?)=true then(ms E F).bind λp=>jK Fm (zQ me<|dI cap E) p.1 p.2 else none
section

def Jd 
  (LB:LamB K X.mg X.base y fd c P) (hK:X.K=K) (Cg:m7 X.prog X.w X.K X.mg X.base x k ps (su X.prog X.w X.K X.mg X.base (kl+1) lp.length λf φ g=>spC X.K N<|Fm f φ g)) (hr:Room k X.A) (hkl:kl+1<=k) (L:LamS lp capN scope) (ha:EvL K X P (J8 y) params body scope (e::es) T ms) (hn:∀E F args F',ms E F=some (args,F')->args.length+1=N)
  (hE:∀cl f c' A outer s H E,Room kl (A.deeper<|envX (J8 y) scope (~~~s) f (.ref c') cl)->Ev K (cxM CX0 X.prog X.w X.K X.mg X.base (lp++capN) (J8 y) scope cl f c' A outer s H E) body te me)
  (hfree:∀y∈scope.names,y.2 = .free->X.env.scope.names.lookup y.1=some .cell\/X.env.scope.names.lookup y.1=some .free)
  (hcapN:(cap.map λj=>X.N[j]?)=capN.map some) (hcapf:∀y∈capN,(y,Ro.free)∈scope.names)
  (hbind:∀cl pm c' ctv us,us.length=lp.length->bindArgs (kla_fn "<lambda>" (J8 y) params body scope cl pm (.ref c') ctv) #v[us,[]]=pure (lp.zip us))
  (hfn:autoParam (∀x,X.fn x=true) qAk) (hg:‹Gl X x›) (hdb:autoParam (nDb x) gC)
  (he:‹QY (e::es) X.env=(false,eval e X.env)::QY es X.env›) (hpl:‹(Rb pos<|QY es X.env).any (·.1)=false›) :
  Ec K X (.Call (.Name x p) (e::es) [] pos) (DP X (J8 y) params body scope cap capN (su X.prog X.w X.K X.mg X.base (kl+1) lp.length λf φ g=>spC X.K N<|Fm f φ g) T) (ub Fm me cap ms):=by
 subst hK;exact#v[(by
  let(g,fd,G,m,kp,b):=Cg;intro ac s σ H Q I h;let(R,J,h):=h;refine Np<|nK I hg m ?_ hdb;have hh:=ha.pa pos ac s σ H _ I h;rw[he]at hh;refine callWith_K (h₀:=X.base) (first:=[]) I.ok.mod.kin kp ?_ he hpl;rw[he];refine thn hh λus s2 #v[f,c',ctv,vs,u,ba,e1,I2,hf,hc,r,z]=>#v[I2.kIn,?_]
  subst e1;exact zy G b hr hfn (λy hy hk=>I.ok.has y.1 (hfree y hy hk)) hcapN (λy hy=>hfree (y,.free) (hcapf y hy) rfl) hcapf J I2 hf hc r λC hn O LA=>z C hn O hc LA),λG B E F σ H Q r F' I e q=>(by
   unfold ub at e;walk_at "kb"
   rename_i an;obtain⟨⟨args,F1⟩,e1,t⟩:=bS9 e;have hm:=yw t;clear t e;have W:∀j∈cap,∃dj vj,E[j]? = some (some<|.dat dj) /\ σ[j]? = some (some vj)/\c6 X.K (hid H B) dj vj:=λj hj=>by
    have:=JG.1 an j hj;unfold CH at this;split at this
    .rename_i dj ej;let(v,hv,hd):=I.loc j _ ej;exact#v[dj,v,ej,hv,hd]
    .cases this
   let(R,J):=vz λj hj=>let #v[_,vj,_,h,_]:=W j hj;#v[vj,h]
   refine#v[R,J,ha.ok G B E F σ H _ args F1 I e1 λf c' ctv vs H1 u A k1 f1 gr hT hA l C U O am M=>?_];let(k2,f2):=vS LB.mem LB.nd f1 gr hT;generalize eD:(f,kla_obj "<lambda>" (J8 y) params body scope (clX X scope) ((X.mg "__name__").getD .none) c' ctv)::C=D at M ⊢;have Y:∀b o,D.lookup b=some o->u b=none:=λb o z=>by
    rw[<-eD,yH]at z;by_cases d:b=f
    . rwa[d]
    .rw[NT d]at z;exact O b o z
   have sD:i5 u (D1 D u):=λb o z=>by
    cases w:D.lookup b with
    | none=>rwa [t7 w]
    | some x=>rw[Y b x w]at z;cases z
   have ap:∀b o,D.lookup b=some o->b ∉ j6 X.K G:=λb o z d=>by let(o2,t):=f2.bok b d;rw[Y b o z]at t;cases t
   have fS:=f2.same sD;have a1:=m9 (m9 I.bk k1 f1) k2 f2;have al:=rD f2 am;have nB:∀b,u b=none->b ∉ B:=λb e z=>by let(o,t):=a1 b z;rw[e]at t;cases t
   obtain⟨i,eB⟩:∃i,i=wo (wo B A) [c']:=#v[_,rfl];have ab:∀b∈i,b∈wo B A:=λb d=>by rw[eB]at d;exact dB b d
   have sB:=λb d=>dB b (ab b d)
   have Z:=λb d=>Z3.2 #v[I.fB b d,λz=>(hA b z).1 d]
   have MB:=M.hide (λz=>nB f U<|sB f z) (λz=>by rw[eB]at z;exact(Z3.1 z).2 (by simp)) λb o z d=>nB b (O b o z) (sB b d)
   have a6:=lr (λj hj=>by let(dj,vj,g1,g2,g3):=W j hj;exact#v[dj,vj,g1,g2,c6.same g3 (λb o z=>C7 sB b o ((Kp.same sD).hid I.fB b o<|k2.hid I.fB b o<|k1.hid I.fB b o z)) ]) J
   have a2:=hr.mono hkl;obtain⟨φ,ad⟩:∃φ:Hp->Prop,φ = λH=>LamAt H capN scope f c' (kla_obj "<lambda>" (J8 y) params body scope (clX X scope) ((X.mg "__name__").getD .none) c' ctv) (J8 y) (clX X scope) C R/\b9 X.K H (dI cap E) R:=#v[_,rfl]
   refine#v[f,φ,zQ me<|dI cap E,(by rw[ad];exact Jk L (hbind _ _ _ _) (λA outer s H E hr=>(hE _ _ _ A outer s H E hr).pe) (hE (clX X scope) f c' X.A [] X.s₀ u E0<|a2.deeper _).ok),G,i,F1,args++[.fv f φ],r,F',?_,λb d=>?_,λb d=>(m9 a1 (Kp.same sD) fS) b<|sB b d,fS,U3.snoc rfl (by rw[ad];exact#v[rfl,λHa Hb s h=>#v[h.1.same s,b9.same h.2 s],MB,a6])<|((l.step k2 Z).step (Kp.same sD) Z).less ab,hm f φ,λv H3 k3 f3 r3=>?_]
   .rw[xy,l.length];exact hn _ _ _ _ e1
   .rw[eB];exact Z3.2 #v[Z b d,λz=>al<|(xp.1 z)▸d]
   .have S:=λb o z=>k3 b _ (L5 z) (ap b o z)
    have up:=λb o z n=>k3 b o (sD b o z) n
    have a0:∀b∈B,b ∉ i->∃φ,H3 b=some (.ext φ):=λb d hn=>by
     by_cases h1:b∈A
     .let(n,φ,z):=hA b h1;exact#v[φ,up b _ (k2 b _ z n) n]
     .have:b=c':=by
       rcases Classical.em (b=c') with z | z
       .exact z
       .exact absurd (by rw[eB];exact Z3.2 #v[Z3.2 #v[d,h1],λq=>z<|xp.1 q]) hn
      subst this;exact#v[_,up b _ am al]
    refine q v _ (λb o z nb=>?_) (f3.bare ap S) (pV (λC2 b o z=>?_) (λa z=>?_) (λa o z z3=>?_) r3)
    .have z2:=k2 b o (k1 b o z nb) nb;have w:D.lookup b=none:=by
      cases w:D.lookup b with
      | none=>rfl
      | some x=>rw[Y b x w]at z2;cases z2
     rw[u3 w];exact up b o z2 nb
    .by_cases d:b∈C2++i
     .rw[A2 d]at z;cases z
     .rw[j5 d]at z;by_cases h2:b∈B
      .let(φ,z2):=a0 b h2 (λq=>d (zj.2<|.inr q));rw[z2]at z;cases z;exact .inl (.inr #v[φ,rfl])
      .cases w:D.lookup b with
       | some x=>rw[S b x w]at z;cases z;exact .inl (.inl #v[_,rfl])
       | none=>exact .inr (by rwa[j5 λq=>(zj.1 q).elim (λq=>d (zj.2<|.inl q)) h2,u3 w])
    .have w:D.lookup a=none:=by
      cases w:D.lookup a with
      | none=>rfl
      | some x=>rw[L5 w]at z;cases z
     rw[t7 w]at z;exact(k1.trans k2).none z λq=>by let(o,t):=f2.bok a q;rw[z]at t;cases t
    .have w:D.lookup a=none:=by
      cases w:D.lookup a with
      | none=>rfl
      | some x=>rw[L5 w]at z;cases z
     rwa[u3 w])]
end
end
end
end L3
namespace L3
open PySem PySem.Spec PyProof.Rows L2 PySem.W

section
section

def bP (hv:s.heap.IsItemsView v d)(hm:K9 s.heap d es ep)
  (hQ:Q (.ref (~~~s)) { s with heap:=s.heap.push { cls:=.type "dict_itemiterator",data:=.fields #[.none,.bool false,.ref d,.int 0 0,.int es.size 0,.int ep 0,.none,.none] } }) :
  Re (model prog w) A (pyIter<|.ref v) Q E s:=by
 let(g,b,f,c):=id hv;let(o,e,h,a):=hm;refine Pb hv.typeIs Qg<|xw Qg hv.typeIs PySem.F.entry_dict_items_iter ?_<|PySem.F.args_dict_items_iter_1 _;refine iD<|iO<|iD<|iD<|zF b c rfl<|iO<|iD<|iD<|EE e a<|iD<|HR e a ?_;simp only[show Builtin.Dict_items.ownsTuple "dict_itemiterator" = true by decide,Bc];refine xI (iO #v[_,rfl,"dict_itemiterator",_,#v[_,ou _ rfl,rfl],zd.lookup,?_])
  (by simp only[sizeOk,Builtin.Dict_items.ownedTupleFields,tG,xy,qN,Ee,xD];lia)
 simpa [rawInt,Builtin.Dict_items.ownedTupleFields] using hQ
def bO (hit:IsItemIter s.heap it d i es.size ep ok ov)(hm:K9 s.heap d es ep)(hlt)
  (hQ:∀h',IsItemIterOut h' it d (i+1) es.size ep es[i].key es[i].val (~~~s)->h'.get? (~~~s)=some { cls:=.type "tuple",data:=.seq #[es[i].key,es[i].val] }->h'.objs.size= ~~~s+1 ->
   (∀b o,b≠it->s.heap.get? b=some o->h'.get? b=some o)->Q (some<|.ref (~~~s)) { s with heap:=h' }):Re (model prog w) A (pyNext<|.ref it) Q E s:=by
 let(C,g,O,K,L):=s;let(R,M,P,N):=hm;have J:QO.TypeIs #v[C,g,O,K,L] (.ref it) "dict_itemiterator":=#v[_,hit,rfl];unfold pyNext;refine iD (Fq (xW (name:=Str.ofString "__next__") J zd
  (xw zd J JQ (iD<|iO<|iD<|iD ?_)<|Ja _)));first | refine iD (DL J<|iO ?_) | refine iD<|Fc J<|iO ?_
 refine iD<|MC hit rfl ?_;simp only[show Builtin.Dict_items.ownsTuple "dict_itemiterator" = true by decide,Bc];show Re _ _ (if (My.ref d == My.none)=true then _ else _) _ _ _;rw[oj<|show ¬((My.ref d == My.none)=true) from tN];refine iD<|iO<|iD<|EE M N ?_;rw[oj<|by simp];refine iD<|iO<|iD<|HR M N ?_;rw[oj<|by simp];refine iO ?_;simp only[show ¬((i:Int)<0) from by lia,yz,yB,IU hlt];refine iD ?_;first | refine iD (DL J<|iO ?_) | refine iD<|Fc J<|iO ?_
 refine iD<|KO J ?_;show Re _ _ (setField (.ref it) 3 (rawInt<|(i:Int)+1) >>= _) _ _ #v[C,g,O,K,L];refine iD (Dg hit (by simp) λa m k=>?_);replace k:=k;replace m:IsItemIter a it d (i+1) es.size ep ok ov:=by
  have e:((i+1:Nat))=i+1:=by lia
  unfold IsItemIter;rw[e];simpa [rawInt] using m
 have u:QO.TypeIs #v[a,g,O,K,L] (.ref it) "dict_itemiterator":=#v[_,m,rfl];refine iD<|Ak<|iD<|KO u<|iD<|KO u<|iD<|Ob ?_;have l:IsItemIter (a.push { cls:=.type "tuple",data:=.seq #[es[i].key,es[i].val] }) it d (i+1) es.size ep ok ov:=jM _ m;generalize hh₂:a.push { cls:=.type "tuple",data:=.seq #[es[i].key,es[i].val] }=h₂ at l;have n:=k.1;have D:=pz hit;have F:h₂.objs.size=C.objs.size+1:=by rw[<-hh₂,AW,n]
 have H:∀b o,b≠it->C.get? b=some o->h₂.get? b=some o:=λb o I e=>by rw[<-hh₂];exact jM _<|k.extBut b o I e
 rw[n];refine iD<|iD<|zF l rfl rfl<|iO ?_;simp only[Bc];refine iD<|zF l rfl rfl<|iD<|zF l rfl rfl<|iD (Dg l (by simp) λB t j=>?_);replace j:=j;replace t:=t;refine iD (Dg t (by simp) λz r h=>?_);replace h:=h;replace r:=r;refine iD (Dg r (by simp) λy q f=>?_);replace f:=f;replace q:=q;refine iD (Dg q (by simp) λv p c=>?_);replace c:=c;replace p:=p;refine iD<|Nj<|iO<|iO #v[_,rfl,iO<|hQ v p ?_ ?_ ?_]
 .exact c.extBut _ _ (AS D)<|f.extBut _ _ (AS D)<|h.extBut _ _ (AS D)<|j.extBut _ _ (AS D) (by rw[<-hh₂,<-n];exact ou _ rfl)
 .rw[c.1,f.1,h.1,j.1,F]
 .exact λb o I e=>c.extBut b o I<|f.extBut b o I<|h.extBut b o I<|j.extBut b o I<|H b o I e
def cW (hh:A.handled=none)(hit:IsItemIter s.heap it d es.size es.size ep ok ov)(hm:K9 s.heap d es ep)
  (hQ:∀h',QW.ExtBut it s.heap h'->Q none { s with heap:=h' }):Re (model prog w) A (pyNext<|.ref it) Q E s:=by
 let(h,e,g,f):=hm;have c:s.TypeIs (.ref it) "dict_itemiterator":=#v[_,hit,rfl];refine iD (Fq (xW c zd
  (xw zd c JQ (iD<|iO<|iD<|iD ?_)<|Ja _)));first | refine iD (DL c<|iO ?_) | refine iD<|Fc c<|iO ?_
 refine iD<|MC hit rfl ?_;simp only[Bc];show Re _ _ (if (My.ref d == My.none)=true then _ else _) _ _ s;rw[oj<|show ¬((My.ref d == My.none)=true) from tN];refine iD<|iO<|iD<|EE e f ?_;rw[oj<|by simp];refine iD<|iO<|iD<|HR e f ?_;rw[oj<|by simp];refine iO ?_;simp only[yz,yB,NX<|qD _];refine iD ?_;first | refine iD (DL c<|iO ?_) | refine iD<|Fc c<|iO ?_
 show Re _ _ (setField (.ref it) 2 .none >>= _) _ _ s;refine iD (MH hit rfl (by simp) (iD ?_) );simp only[newExc];refine iD (xI (iD (Pj (by first | rfl | (simp only[firstArgMember];rfl)) ?_))<|by size_fits);refine xI ?_ (by size_fits);simp only[raiseNew];refine iD<|Pq ?_;rw[hh];refine iD<|iO<|Qi ?_;refine iD<|KY #v[_,ou _ rfl,rfl] Od<|iO<|hQ _<|((DG ..).extBut.push _).push _
end
end

section
section
variable {κ:NKey}{σ:L2.St}
def NFr.obj (d:NFr κ a xs es ep h):x5 P w H h a (.ext<|NFr κ a xs es ep):=by refine#v[d,let #v[_,o,e,_]:=d;#v[o,e],λn m d k=>?_];obtain⟨⟨z,y,i,r,o,b,f,e,c⟩,g,j,l⟩:=d;exact#v[#v[z,y,i,r,o,b,f,k o e,c],g,k g j,l]
def NFr.n (d:NFr κ a xs es ep h):gj a (NFr κ a xs es ep):=by let(_,o,e,b):=id d;exact#v[h,d,o,es,ep,e,b]
def ko (I:Inv X π σ H s)(e:H a=some (.ext<|NFr κ a xs es ep)):NFr κ a xs es ep s.heap:=(I.hok a _ e).1
end
section

def Gm (i:Nat)(te:TE):TE:=λd H Q=>∃c a b,d[i]? = some (some<|.ref a)/\H a=some (.ext<|NDi (m8 c) a b)/\∀es ep,gj a (NFr (m8 c) a b es ep) ->
 te d (upd H a<|.ext<|NFr (m8 c) a b es ep) λv e=>e a=some (.ext<|NFr (m8 c) a b es ep)/\Q v (upd e a<|.ext<|NDi (m8 c) a b)
def yY (h:PE X e te):PE X e (Gm i te):=by
 intro π s j H Q I #v[c,a,g,_,k,q];let(es,ep,t,dn):=(show ∃es ep,Inv X π j (upd H a<|.ext<|NFr (m8 c) a g es ep) s/\gj a (NFr (m8 c) a g es ep) by have d:=fc I k;let(z,y,w,r,o,es,ep,b,B,p,A,x):=id d;have f:NFr (m8 c) a g es ep s.heap:=#v[d,o,b,p];exact#v[es,ep,U0 I (by rw[k];exact True.intro) (iS _ _) #v[o,b] f.obj,f.n])
 exact thn (h π s j _ _ t<|q es ep dn) λu s1 #v[v,C,m,r,l,n]=>#v[v,_,(by let(d,o,b,_):=ko m l;refine U0 m (by rw[l];exact True.intro) (iS _ _) #v[o,b] ?_;rw[dH (m8 c) X.prog X.w]at d ⊢;exact d.obj),r,n]
end
section
variable {K:Frag}{α:Type}{rel:List QN->Hp->Hp->α->V->Prop}
def TRd (K:Frag)(rel:List QN->Hp->Hp->α->V->Prop)(te:TE)(m:DE->M α):Prop:=∀G B E F b H Q r c,SitE K G B E F b H->m E F=some (r,c) ->
 (∀v a,Kp (j6 K G) H a->FAt K G a c->rel B H a r v->Q v a)->te b H Q
def uJ (i:Nat)(E:DE):Bool:=(E.set i none).all λx=>match x with
 | some (.dic _ _ _)=>false
 | _=>true
def uU (h:uJ i E=true)(hj:i≠j)(e:E[j]? = some (some<|.dic w c ps)):False:=by have:=JG.1 h (some<|.dic w c ps) (uP (by rwa[sv hj]));cases this
noncomputable def pW (i:Nat)(m:DE->M α):DE->M α:=λE F=>match E[i]? with
 | some (some<|.dic _ c ps)=>if c≠9/\uJ i E=true then m (E.set i<|some<|.rdic c ps) F else none
 | _=>none
def HG (hb:iR rel)(h:TRd K rel te m):TRd K rel (Gm i te) (pW i m):=λG B E F Y H Q r F' I e q=>by
 unfold pW at e;split at e;case h_2=>cases e
 rename_i w c ps hi;walk_at "kb"
 rename_i hc;let(h9,S):=hc;let(v,Z,a,φ,rfl,hB,O,P,hn,U):=I.loc i _ hi;let(N,rfl,hd):=U.not9 h9;refine#v[c,a,N,Z,P,λes ep dn=>?_];obtain⟨p,n⟩:∃p,p=upd H a (.ext<|NFr (m8 c) a N es ep):=#v[_,rfl];have l:p a=some (.ext<|NFr (m8 c) a N es ep):=by rw[n];exact i3
 have g:∀b,b≠a->p b=H b:=λb hb=>by rw[n];exact h7 hb
 have D:i5 (hid H B) (hid p<|wo B [a]):=λb o z=>by
  by_cases hb:b∈B
  .rw[A2 hb]at z;cases z
  .rw[j5 hb]at z;rwa[j5 λy=>hb<|dB b y,g b λy=>hb<|y▸hB]
 have J:a ∉ wo B [a]:=λz=>(Z3.1 z).2 (by simp)
 have I1:SitE K G (wo B [a]) (E.set i<|some<|.rdic c ps) F Y p:=by
  refine#v[(by rw[n];exact I.fd.dict (x:=0) O P hn),λb hb=>Z3.2 #v[I.fB b hb,λz=>O<|(xp.1 z)▸hb],λb hb=>?_,by rw[As];exact I.ln,λj x L=>?_]
  .let(o,eo):=I.bk b<|dB b hb;exact#v[o,by rwa[g b λz=>J<|z▸hb]]
  .by_cases T:i=j
   .subst T;rw[sP ((pG.1 hi).1) ]at L;cases L;exact#v[_,Z,a,_,rfl,by rwa[j5 J],N,es,ep,rfl,hd.same D]
   .rw[sv T]at L;let(u,u1,k):=I.loc j x L;refine#v[u,u1,?_];cases x with
    | dat d=>exact c6.same (k) D
    | feed=>exact k
    | fn _=>exact k
    | adr _=>exact k
    | fv _ _=>exact#v[k.1,k.2.1,k.2.1 _ _ D k.2.2]
    | rdic _ _ =>let(a9,R,q1,q2,q4):=k;exact#v[a9,R,q1,D _ _ q2,q4.same D]
    | own ds =>
     let(b,ys,rfl,X,W,t,V):=k;have f:b≠a:=λz=>by rw[z,P]at t;cases t
     exact#v[b,ys,rfl,Z3.2 #v[X,λz=>f<|xp.1 z],W,by rwa[g b f],V.same D]
    | dic _ _ _=>exact(uU S T L).elim
 rw[<-n];refine h G (wo B [a]) _ F Y p _ r F' I1 e λv H3 k3 f3 r3=>?_
 have A:=k3 a _ l O;refine#v[A,q v _ (λb o z nb=>?_) (f3.dict (x:=0) O A dn)<|hb (λC b o z=>?_) (λb z=>?_) (λb o z z3=>?_) r3]
 .by_cases hb:b=a
  .subst hb;rw[i3,<-P,z]
  .rw[h7 hb];exact k3 b o (by rwa[g b hb]) nb
 .by_cases hb:b∈C++wo B [a]
  .rw[A2 hb]at z;cases z
  .rw[j5 hb]at z;by_cases s:b=a
   .subst s;rw[A]at z;cases z;exact .inl<|.inr #v[_,rfl]
   .refine .inr ?_;rwa[j5 λy=>(zj.1 y).elim (λy=>hb<|zj.2<|.inl y) λy=>hb<|zj.2<|.inr<|Z3.2 #v[y,λq=>s<|xp.1 q],h7 s]
 . rwa[<-g b (λy=>by rw[y,l]at z;cases z) ]
 . rwa[h7 (λy=>by rw[y,l]at z;cases z) ]
def JL (i)(h:Ec K X e te m):Ec K X e (Gm i te) (pW i m):=#v[yY h.pe,HG pV h.ok]
def Ic (i)(h:Ev K X e te m):Ev K X e (Gm i te) (pW i m):=#v[yY h.pe,HG (λk _ _ r=>c6.junk (k []) _ _ r) h.ok]
end
end

section
def ItN (κ:NKey)(a:QN)(xs:List (κ.K×QN×V))(es:Array DictEntry)(ep:Nat):It :=
 #v[λi H=>H a=some (.ext<|NFr κ a xs es ep)/\i<xs.length,λi H v b=>∃t x,v = .ref t/\H t=none/\b=upd H t (.tup [.ref x.2.1,x.2.2])/\xs[i]? = some x,λi H=>H a=some (.ext<|NFr κ a xs es ep)/\xs.length=i]
def jh (d:NFr κ a xs es ep h):K9 h a es ep/\es.size=xs.length/\∀i x,xs[i]? = some x->∃hi:i<es.size,es[i].key = .ref x.2.1/\l4 x.2.2 es[i].val:=by
 obtain⟨⟨z,y,E,r,o,C,D,c,B,f,b,G⟩,F,k,n⟩:=d;rw[c]at k;cases k;rw[f]at n;cases n;have hl:es.size=xs.length:=by have:=AZ List.length b;rw[jI,zq]at this;rw[this,<-Lq r]
 refine#v[#v[o,c,B,f],hl,λi x e=>?_];have hi:i<es.size:=by rw[hl];exact(pG.1 e).1
 have key:∀{l:List (κ.K×QN×V)} {m:List (κ.K×QN×My)} {i:Nat} {p},Paired (λp q=>p.1=q.1/\p.2.1=q.2.1/\l4 p.2.2 q.2.2) l m->l[i]? = some p->∃q,m[i]? = some q/\p.2.1=q.2.1/\l4 p.2.2 q.2.2:=λ{l m i p} v=>by
  induction v generalizing i with
  | nil=>intro e;cases e
  | cons A H u =>
   intro e;cases i with
   | zero=>cases e;exact#v[_,rfl,A.2]
   | succ i=>exact u (by simpa using e)
 let(q,w,t,s):=key r e;have j:es.toList[i]? = some #v[κ.hsh q.1,.ref q.2.1,q.2.2]:=by rw[b,sq,w];rfl
 rw[zS,IU hi]at j;have g:=rn j;exact#v[hi,by rw[g,t],by rwa[g]]
def qb {K}(κ) (a it) (xs) (es) (ep):Turn P w K (.Tuple el k pos) (ItN κ a xs es ep) [it] it (λi h=>a≠it/\∃ok ov,IsItemIter h it a i es.size ep ok ov) where
 mem:=by simp
 obj:=λi h st c hb=>by let(_,ok,ov,d):=st;rw[xp.1 hb];exact#v[_,d,λv z=>by cases(z)]
 keep:=λi h Y st kk=>by let(n,ok,ov,d):=st;exact#v[n,ok,ov,kk it (by simp) _ d]
 item:=by
  intro X T F U C i π s D H E I O st M;subst T F U;let(j,ok,ov,d):=st;let(m,q):=M;let(J,G,B):=jh<|ko I m;have t:=pz d;obtain⟨x,hx⟩:∃x,xs[i]? = some x:=#v[_,qK q];let(hi,k1,k2):=B i x hx;refine bO d J hi λY ho ht hz hk=>#v[_,rfl,wpAny_letOwnedTupleGo_items ho λW Q g=>?_];have g:=g;have I1:Inv X π D (upd H (~~~s)<|.tup [.ref x.2.1,x.2.2]) { s with heap:=s.heap.push { cls:=.type "tuple",data:=.seq #[es[i].key,es[i].val] },toks:=s.toks }:=by refine I.laid (λb u e=>jM _ e) (qD _)<|#v[uj (show 2<=10000 by decide) (by rw[xD];decide),[es[i].key,es[i].val],.cons (by rw[k1];exact rfl)<|.cons k2 .nil,#v[_,ou _ rfl,rfl,_,rfl],.mk (ou _ rfl) rfl]
  have r:∀c∈[it],bX X π (upd H (~~~s)<|.tup [.ref x.2.1,x.2.2]) c:=λc l=>by
   let(f0,f):=O c l;exact#v[by rwa[h7 (by rw[xp.1 l];exact uu t) ],f]
  have I2:Inv X π D (upd H (~~~s)<|.tup [.ref x.2.1,x.2.2]) { s with heap:=W,toks:=s.toks }:=by
   refine J0 (s:={ s with heap:=s.heap.push { cls:=.type "tuple",data:=.seq #[es[i].key,es[i].val] },toks:=s.toks }) I1 r λc o R p=>?_
   have c1:c≠it:=λz=>R (by simp[z])
   by_cases y:c= ~~~s
   .subst y;have:=p;rw[ou _ rfl]at this;rwa[g.extBut _ _ (AS t) ht ]
   .have Z:s.heap.get? c=some o:=by exact kF (by have h1:=pz p;rw[AW]at h1;exact Qn (Qu h1) y) p
    exact g.extBut c o c1<|hk c o c1 Z
  exact#v[.ref (~~~s),upd H (~~~s)<|.tup [.ref x.2.1,x.2.2],I2,rfl,#v[_,x,rfl,I.hok.fresh<|qD _,rfl,hx],#v[j,_,_,Q],λc l=>(r c l).1]
 done:=by
  intro X T F U C i π s D H E I O st M;subst T F U;let(j,ok,ov,d):=st;let(m,q):=M;let(J,G,B):=jh<|ko I m;have e:i=es.size:=by lia
  subst e;exact cW (I.ok.hd C) d J λY eb=>#v[rfl,J0 I O λc o C p=>eb c o (λz=>C<|by simp[z]) p]
 self:=λ_ _ _ _ _ st h=>by let(_,ok,ov,d):=st;exact jU d h
section

def wg (to:TE):TI:=λe H R=>to e H λx d=>∃c a b es ep,x = .ref a/\d a=some (.ext<|NFr (m8 c) a b es ep)/\R (ItN (m8 c) a b es ep) d
end
section
variable {K:Frag}
theorem vA :∀{ps} {xs} {j:Nat} {p},KVs K H c ps xs->ps[j]? = some p->∃k b v,xs[j]? = some (k,b,v)/\N5 c p.1=some k/\c6 K H p.1 (.ref b)/\c6 K H p.2 v
 | [],_,_,_,h,e=>by cases e
 | _::_,_,0,_,#v[k,b,v,r,ex,h1,h2,h3,h4],e=>by subst ex;cases e;exact#v[k,b,v,rfl,h1,h2,h3]
 | _::_,_,j+1,_,#v[k,b,v,r,ex,h1,h2,h3,h4],e=>by subst ex;let(d,i,a,g,f):=vA h4 (by simpa using e);exact#v[d,i,a,by simpa using g,f]
theorem ji :∀{ps} {xs},KVs K H c ps xs->xs.length=ps.length
 | [],_,h=>by cases h;rfl
 | _::_,_,#v[_,_,_,r,e,_,_,_,h4]=>by rw[e,qN,qN,ji h4]
def fP (i:Nat):DE->M (List CD):=λE F=>match E[i]? with
 | some (some<|.rdic c ps)=>some (ps.map λp=>.tuple [p.1,p.2],F)
 | _=>none
def yA (i)(hN:‹X.N[i]? = some x›)(hvis:autoParam (Vis X.env.scope x) kA)(hd:autoParam (nDb x) gC)(hcd:autoParam (nCd x) gC)
  (hbase:‹Rh (.Name x px) "items" X.env (eval (.Name x px) X.env)=eval (.Name x px) X.env›) (hline:‹(apos.endLine == cpos.line)=true›) :
  Ei K X (.Tuple el tk tp) (.Call (.Attribute (.Name x px) "items" apos) [] [] cpos) (wg<|P4 i) (fP i) :=
 #v[(by
  intro π s w H R I h;refine OX hbase hline (thn ((A9 hN hvis hd hcd) π s w H _ I h) ?_ );rintro v s1 ⟨x,H1,C,W,c,a,z,es,ep,ex,eH,q⟩;subst ex;obtain rfl:=W;have P:=ko C eH;let(T,Y,ab):=jh P;let(O,A,m,N):=id T;refine#v["dict","dict.items",LS,OW,PySem.F.type_dict_items,#v[O,A,m.1],(λb q=>by cases q;exact#v[O,A,m.2.1]),KB rfl<|Qa ?_];refine km A m P.1.2.1 ?_;obtain⟨f,g⟩:∃f,f=s1.heap.push { cls:=.type "dict_items",data:=.fields #[.ref a] }:=#v[_,rfl];rw[<-g];have l:f.objs.size= ~~~s1+1:=by rw[g,AW]
  have p:∀b u,s1.heap.get? b=some u->f.get? b=some u:=λb u e=>by rw[g];exact jM _ e
  refine bP #v[_,(by rw[g];exact ou _ rfl),rfl,rfl] (T.at'<|p a) ?_;refine#v[f.objs.size,[f.objs.size],_,_,_,rfl,C.kept λb u e=>jM _ (p b u e),qb (m8 c) a f.objs.size z es ep,#v[by rw[l];exact uu<|FJ (pz A),.none,.none,ou _ rfl],λb hb=>?_,q];rw[xp.1 hb];exact C.fpOk (by rw[l];exact KD _)<|C.hok.fresh (by rw[l];exact KD _)),λG B E F w H R ds F' I e q=>by
  unfold fP at e;split at e;case h_2=>cases e
  rename_i c ps Z;cases e;let(u,V,a,φ,rfl,Q,z,es,ep,rfl,J):=I.loc i _ Z;refine#v[_,V,c,a,z,es,ep,rfl,d9 _ _ Q,q _ H (Kp.refl) I.fd λH2 B2 k=>?_];have n:=d9 _ _<|k a _ Q;have r:=J.same k;refine#v[λj d N=>?_,#v[n,by rw[jI];exact ji r]];rw[sq]at N;let(pp,M,rfl):=sA.1 N;let(kk,b,v,U,e2,e3,e4):=vA r M;refine#v[#v[n,(pG.1 U).1],λx H3 y=>?_];let(t,kv,rfl,S,rfl,o):=y;rw[U]at o;cases o;refine#v[i5.upd S,λbk=>Q3 bk S #v[_,_,rfl,e3,_,_,rfl,e4,rfl] ]]
end
end
section
section

def iP (hit:s.heap.IsValIter it d i es.size ep)(hm:K9 s.heap d es ep)(hlt)
  (hQ:∀h',h'.IsValIter it d (i+1) es.size ep->QW.SameBut it s.heap h'->Q (some es[i].val) { s with heap:=h' }):Re (model prog w) A (pyNext<|.ref it) Q E s:=by
 let(o,f,h,e):=id hit;let(j,b,g,c):=hm;refine iD (Fq (xW hit.typeIs Ge
  (xw Ge hit.typeIs Oz (iD<|iO<|iD<|iD ?_)<|Ou _)));first | refine iD (Ls hit.typeIs<|iO ?_) | refine iD<|NK hit.typeIs<|iO ?_
 refine iD<|MC f e ?_;simp only[xn];show Re _ _ (if (My.ref d == My.none)=true then _ else _) _ _ s;rw[oj<|show ¬((My.ref d == My.none)=true) from tN];refine iD<|iO<|iD<|EE b c ?_;rw[oj<|by simp];refine iD<|iO<|iD<|HR b c ?_;rw[oj<|by simp];refine iO ?_;simp only[yz,yB,IU hlt];refine iD ?_;first | refine iD (Ls hit.typeIs<|iO ?_) | refine iD<|NK hit.typeIs<|iO ?_
 refine iD<|Pz hit.typeIs ?_;show Re _ _ (setField (.ref it) 1 (rawInt<|i+1) >>= _) _ _ s;refine iD (MH f e (by simp) ?_);have a:(s.heap.update it (QZ.mapFields (·.setIfInBounds 1 (rawInt<|i+1)))).IsValIter it d (i+1) es.size ep :=
  #v[_,FC _ f<|Py<|Nu e _,(QZ.cls_mapFields ..).trans h,by rw[Nu e];simp[rawInt]]
 refine iD<|Ak<|iD (Pz a.typeIs (iD (Pz a.typeIs ?_)) );exact iO<|iO #v[_,rfl,iO<|hQ _ a<|DG ..]
def gw (hh:A.handled=none)(I d) (hne:d≠I)(es) (ep) :
  Walks prog w A I [I,d] [I] es.size (λi v=>∃h,v=es[i].val) (λi h=>h.IsValIter I d i es.size ep/\K9 h d es ep) where
 sub:=λb c=>by simp at c;simp[c]
 frame:=λ_ _ _ st r=>#v[st.1.at λo e=>r I (by simp) o e,st.2.at' λo e=>r d (by simp) o e]
 item:=λi s Q E t st l=>iP st.1 st.2 t λp j f=>l _ p s.toks #v[t,rfl] #v[j,st.2.at' λo e=>f.extBut d o hne e] λb o c e=>f.extBut b o (λh=>c<|by simp[h]) e
 done:=λs Q E st l=>(by
  let(o,q,z,u):=id st.1;let(y,g,x,k):=st.2;refine iD (Fq (xW st.1.typeIs Ge
   (xw Ge st.1.typeIs Oz (iD<|iO<|iD<|iD ?_)<|Ou _)));first | refine iD (Ls st.1.typeIs<|iO ?_) | refine iD (NK st.1.typeIs<|iO ?_)
  refine iD<|MC q u ?_;simp only[xn];show Re _ _ (if (My.ref d == My.none)=true then _ else _) _ _ s;rw[oj<|show ¬((My.ref d == My.none)=true) from tN];refine iD<|iO<|iD<|EE g k ?_;rw[oj<|by simp];refine iD<|iO<|iD<|HR g k ?_;rw[oj<|by simp];refine iO ?_;simp only[yz,yB,NX<|qD _];refine iD ?_;first | refine iD (Ls st.1.typeIs<|iO ?_) | refine iD (NK st.1.typeIs<|iO ?_)
  show Re _ _ (setField (.ref I) 0 .none >>= _) _ _ s;refine iD (MH q u (by simp) (iD ?_) );simp only[newExc];refine iD (xI (iD (Pj (by first | rfl | (simp only[firstArgMember];rfl)) ?_))<|by size_fits);refine xI ?_ (by size_fits);simp only[raiseNew];refine iD<|Pq ?_;rw[hh];refine iD<|iO<|Qi ?_;refine iD<|KY #v[_,ou _ rfl,rfl] Od<|iO<|(λp n=>l p s.toks λb o c e=>n b o (λh=>c<|by simp[h]) e) _<|((DG ..).extBut.push _).push _)
 self:=λ_ _ _ _ st l=>wpAny_pyIter_valiter st.1 l
def jJ :KdlSrc prog w "dict_values" v d es.size (λi u=>∃h,u=es[i].val) (λh=>h.IsValuesView v d/\K9 h d es ep) where
 type:=λ_ a=>a.1.typeIs
 there:=λ_ a=>#v[let #v[_,c,_]:=a.1;pz c,a.2.lt]
 keep:=λ_ _ a k=>#v[let #v[o,c,x]:=a.1;#v[o,k v (.inl rfl) o c,x],a.2.at' λo e=>k d (.inr rfl) o e]
 notList:=by decide
 notTuple:=by decide
 hint:=λ_ _ _ _ a f=>kdl_hint_values a.1.typeIs f
 iter:=λ_ _ l a=>#v[_,_,(λ_ _ f=>(by let(n,g,m,j):=id a.1;let(o,c,p,b):=a.2;refine Pb a.1.typeIs PY<|xw PY a.1.typeIs PySem.F.entry_dict_values_iter ?_<|PySem.F.args_dict_values_iter_1 _;refine iD<|iO<|iD<|iD<|zF g j rfl<|iO<|iD<|iD<|EE c b<|iD<|HR c b ?_;simp only[show Builtin.Dict_items.ownsTuple "dict_valueiterator" = false by decide,xn,yz];refine xI<|iO #v[_,rfl,"dict_valueiterator",_,#v[_,ou _ rfl,rfl],Ge.lookup,?_];simpa [rawInt] using f)),gw l _ d (uu a.2.lt) es ep,#v[#v[_,ou _ rfl,rfl,rfl],a.2.at' λo e=>jM _ e]]
def DT (hh:A.handled=none)(hv:s.heap.IsValuesView v d)(hm:K9 s.heap d es ep)(val) (hval:∀i u,(∃h,u=es[i].val)->∃t,u=My.int (val i) t)
  (h:∀h' tk t',(∀b o,s.heap.get? b=some o->h'.get? b=some o)->Q (.int (preSum val es.size) t') { s with heap:=h',toks:=tk }) :
  Re (model prog w) A (call (.builtin "sum") [.ref v]) Q E s:=by
 refine call_sum_walkAnyS ?_;have K:=jJ (prog:=prog) (w:=w) (v:=v) (d:=d) (es:=es) (ep:=ep);let(oI,St,f,W,st):=K.iter A.in1 s hh #v[hv,hm];refine f _ _ #v[~~~s,_,_,_,es.size,_,_,val,rfl,W.toS,st,λb g=>?_,hval,λc t' a=>?_]
 .rw[AW];rcases oZ.1 g with e | g
  .rw[e];exact Gs _
  .rw[xp.1 g];exact FJ hm.lt
 .have j:=λb o e =>
   a.heap b o (λk=>absurd (pz e) (by rw[xp.1 k];exact Bl _)) (jM _ e)
  rw[Moved.eq_with a];exact h c.heap c.toks t' j
def DM (hm:K9 s.heap d es ep)(hd:(d == sysModules)=false)(hfit:es.size<=QX)(h:∀t k,Q (.int es.size t) { s with toks:=k }) :
  Re (model prog w) A (call (.builtin "len") [.ref d]) Q E s:=by
 let(o,b,e,a):=id hm;refine Oy kind_len plain_len entry_len (args_len1 _)<|iD<|iO<|iD (xW hm.typeIs PySem.F.slot_dict_len
  (xw PySem.F.slot_dict_len hm.typeIs PySem.F.entry_dict_len ?_<|PySem.F.args_dict_len_1 _))
 show Re _ _ (dictSize d >>= _) _ _ s;refine iD<|iD<|EE b a<|iO<|iD<|wpAny_pendingCount_other hd<|wpAny_ret_mkInt ?_;have c:es.size<2 ^ 63:=by rw[xD]at hfit;lia
 refine iD<|Ak<|iO<|iD<|Nj ?_;rw[oj<|by lia];rw[oj<|by lia];exact iD<|wpAny_mkInt<|iO #v[_,rfl,h _ _]
end
end
section
def dQ (H:Hp)(c) (a:QN)(xs:List ((m8 c).K×QN×V)):Prop:=H a=some (.ext<|NDi (m8 c) a xs)\/∃es ep,H a=some (.ext<|NFr (m8 c) a xs es ep)
def xC (p a:QN):QW->Prop:=λh=>h.IsValuesView p a
section
variable {σ:L2.St}{c:Nat}
def eL (I:Inv X π σ H s)(h:dQ H c a xs):∃es ep,K9 s.heap a es ep/\es.size=xs.length/\(a == sysModules)=false/\xs.length<=QX/\∀i x,xs[i]? = some x->∃hi:i<es.size,es[i].key = .ref x.2.1/\l4 x.2.2 es[i].val:=by
 obtain⟨es,ep,b⟩:∃es ep,NFr (m8 c) a xs es ep s.heap:=by
  rcases h with h | ⟨es,ep,h⟩
  .have d:=fc I h;let(z,y,l,r,o,es,ep,j,p,k,n,m):=id d;exact#v[es,ep,d,o,j,k]
  .exact#v[es,ep,ko I h]
 let(g,f,e):=jh b;exact#v[es,ep,g,f,b.1.2.1,b.1.1,e]
def Hv :List V->Hp->VK->Prop:=λb H Q=>∃c a xs,b=[.ref a]/\dQ H c a xs/\Q (.int xs.length) H
def Hq (to:TE):TE:=λσ H Q=>to σ H λx b=>∃c a xs,x = .ref a/\dQ b c a xs/\∀p,b p=none->Q (.ref p) (upd b p<|.ext<|xC p a)
def Gq (ho:PE X o to)(hbase:Rh o "values" X.env (eval o X.env)=eval o X.env)(hline:(apos.endLine == cpos.line)=true) :
  PE X (.Call (.Attribute o "values" apos) [] [] cpos) (Hq to):=by intro π s σ H Q I h;refine OX hbase hline (thn (ho π s σ H _ I h) ?_ );rintro v s1 ⟨x,A,i,m,c,a,xs,u,t,q⟩;subst u;obtain rfl:=m;let(es,ep,g,_,p,_,_):=eL i t;let(j,l,f,z):=id g;refine#v["dict","dict.values",LS,PySem.F.slot_dict_values,PySem.F.type_dict_values,#v[j,l,f.1],(λb q=>by cases q;exact#v[j,l,f.2.1]),KB rfl<|Qa (xw PySem.F.slot_dict_values g.typeIs PySem.F.entry_dict_values ?_<|PySem.F.args_dict_values_1 _) ];refine iD<|iD<|Px g.typeIs<|iO ?_;unfold Builtin.Dict.showsAll;rw[oj (by rw[p];exact tN)];refine iD<|iO<|iD<|xI<|iO #v[_,rfl,?_];refine#v[.ref (~~~s1),_,i.laid (o:=.ext<|xC (~~~s1) a) (λ_ _ q=>jM _ q) (qD _) #v[#v[_,ou _ rfl,rfl,rfl],#v[_,ou _ rfl],λy w d k=>?_],rfl,q _<|i.hok.fresh<|qD _];let(o,e,r):=d;exact#v[o,k o e,r]
def GJ :List V->Hp->VK->Prop:=λd H Q=>∃(p:QN) (c:Nat) (a:QN) (xs:List ((m8 c).K×QN×V)) (b:List Int),d=[.ref p]/\H p=some (.ext<|xC p a)/\dQ H c a xs/\xs.map (·.2.2)=b.map V.int/\Q (.int b.sum) H
theorem ic:∀ns:List Int,preSum (λi=>(ns[i]?).getD 0) ns.length=ns.sum
 | []=>rfl
 | n::r=>by rw[qN,kdu_shift,CP,<-ic r];rfl
end
section
variable {K:Frag}
def uN (E:DE)(i:Nat):Option (Nat×List (CD×CD)):=match E[i]? with
 | some (some<|.dic _ c ps)=>if c≠9 then some (c,ps) else none
 | some (some<|.rdic c ps)=>some (c,ps)
 | _=>none
def zw (I:SitE K G B E F σ H)(e:uN E i=some (c,ps)) :
  ∃a xs,σ[i]? = some (some<|.ref a)/\∀H',Kp (j6 K G) H H'->dQ H' c a xs/\KVs K (hid H' B) c ps xs:=by
 unfold uN at e;split at e
 .rename_i w o d f;split at e;case isFalse=>cases e
  rename_i n;cases e;let(v,b,a,l,rfl,q,m,j,p,g):=I.loc i _ f;let(xs,rfl,h):=g.not9 n;exact#v[a,xs,b,λH' k=>#v[.inl<|k a _ j m,h.same<|k.hid I.fB]]
 .rename_i o d f;cases e;let(v,b,a,l,rfl,j,xs,es,ep,rfl,h):=I.loc i _ f;exact#v[a,xs,b,λH' k=>#v[.inr #v[es,ep,d9 _ _<|k.hid I.fB _ _ j],h.same<|k.hid I.fB]]
 .cases e
theorem pS :∀{ps} {xs} {ns:List Int},KVs K W c ps xs->ps.map (·.2)=ns.map CD.int->xs.map (·.2.2)=ns.map V.int
 | [],_,[],h,_=>by cases h;rfl
 | [],_,_::_,_,e=>nomatch e
 | _::_,_,[],_,e=>nomatch e
 | p::ps,_,n::ns,#v[k,b,v,r,ex,h1,h2,a,h4],e=>by
  subst ex;rw[kX,kX]at e;let(f,d):=Pr e;rw[f]at a;have a:v = .int n:=by simpa only[c6] using a
  rw[kX,kX,a,pS h4 d]
def Hz (i:Nat):DE->M CD:=λE F=>(uN E i).bind λd=>some (.int d.2.length,F)
def Gu (i)(hm:X.mg "len" = none)(hN:‹X.N[i]? = some x›)(hvis:autoParam (Vis X.env.scope x) kA)(hd:autoParam (nDb x) gC)(hcd:autoParam (nCd x) gC)
  (hv:Ri "len" = some (.builtin "len"):=by kernel_rfl) (hg:‹Gl X "len"›) (hs:‹QY [.Name x px] X.env=(false,eval (.Name x px) X.env)::QY [] X.env›) (hpl:‹(Rb pos<|QY [] X.env).any (·.1)=false›) :
  Ev K X (.Call (.Name "len" p) [.Name x px] [] pos) (tCB Hv<|z9 (P4 i) T7) (Hz i) :=
 #v[ag (by
  rintro π s j H y us Q I r ⟨c,a,f,rfl,hd,q⟩;let(u,rfl,m):=C5 r;cases m;let(es,ep,g,d,v,n,_):=eL I hd;refine DM g v (by rwa[d]) λt k=>#v[.int f.length,H,I.kept λb o e=>e,#v[t,by rw[d]],q]) hg hm hv (r8 (A9 hN hvis hd hcd) A3 hs) (by decide) (by decide) hs hpl,λG B E F j H Q r A I e q=>by obtain⟨⟨c,z⟩,w,e⟩:=bS9 e;cases e;let(a,f,l,hd):=zw I w;let(g,d):=hd H Kp.refl;refine#v[_,l,c,a,f,rfl,g,q _ H Kp.refl I.fd ?_];rw[ji d];exact c6.int]
def wx (i:Nat):DE->M CD:=λE F=>(uN E i).bind λd=>(G7 (d.2.map (·.2))).bind λa=>some (.int a.sum,F)
def DY (i)(hh:X.A.handled=none)(hm:X.mg "sum" = none)(hN:‹X.N[i]? = some x›)(hvis:autoParam (Vis X.env.scope x) kA)(hd:autoParam (nDb x) gC)(hcd:autoParam (nCd x) gC)
  (hbase:‹Rh (.Name x px) "values" X.env (eval (.Name x px) X.env)=eval (.Name x px) X.env›) (hline:‹(apos.endLine == cpos.line)=true›)
  (hv:Ri "sum" = some (.builtin "sum"):=by kernel_rfl) (hg:‹Gl X "sum"›) (hs:‹QY [.Call (.Attribute (.Name x px) "values" apos) [] [] cpos] X.env=(false,eval (.Call (.Attribute (.Name x px) "values" apos) [] [] cpos) X.env)::QY [] X.env›) (hpl:‹(Rb pos<|QY [] X.env).any (·.1)=false›) :
  Ev K X (.Call (.Name "sum" p) [.Call (.Attribute (.Name x px) "values" apos) [] [] cpos] [] pos) (tCB GJ<|z9 (Hq<|P4 i) T7) (wx i) :=
 #v[ag ((by
  rintro π s z H O us Q I r ⟨p,c,a,f,b,rfl,j,hd,n,q⟩;let(u,rfl,D):=C5 r;cases D;let(es,ep,k,w,T,S,M):=eL I hd;have hl:b.length=es.size:=by have:=AZ List.length n;rw[jI,jI]at this;lia
  refine DT hh ((I.hok p _ j).1) k (λi=>(b[i]?).getD 0) (λi u J=>?_) λU C t' L=>#v[.int b.sum,H,I.kept L,#v[t',?_],q]
  .let(R,rfl):=J;have o:i<b.length:=by lia
   have g:i<f.length:=by lia
   let(_,_,d):=M i f[i]<|qK g;have y:=AZ (λl=>l[i]?) n;simp only[sq,qK o,qK g,Nw]at y;rw[rn y]at d;let(t,d):=d;exact#v[t,by rw[d,qK o];rfl]
  .rw[<-hl,ic])) hg hm hv (r8 (Gq (A9 hN hvis hd hcd) hbase hline) A3 hs) (by decide) (by decide) hs hpl,λG B E F z H Q r V I e q=>by obtain⟨⟨c,P⟩,N,e⟩:=bS9 e;let(b,d,e):=bS9 e;cases e;let(a,f,A,hd):=zw I N;refine#v[_,A,c,a,f,rfl,(hd H Kp.refl).1,λv j=>?_];have m:Kp (j6 K G) H (upd H v<|.ext<|xC v a):=Kp.upd j;let(k,w):=hd _ m;exact#v[v,c,a,f,b,rfl,i3,k,pS w<|B4 d,q _ _ m (I.fd.same<|i5.upd j) c6.int]]
def uZ (i:Nat)(m:DE->M DV):DE->M Out:=λE F=>(m E F).bind λp=>if i<E.length then some (.nx<|E.set i<|some p.1,p.2) else none
def FA (i)(hN:X.N.Nodup)(he:Ec K X e te mc)(hi:‹X.N[i]? = some x›)(hx:autoParam (Loc X.env.scope x) gV)(hs:‹Rg e (some<|.Name x pos') pos.line X.env=pure false›)(hf:autoParam (X.fn x=true\/X.env.scope.names.lookup x=some .local) gV) :
  Ss K X (.Assign [.Name x pos'] e pos) (cf te<|Q9 i) (uZ i mc) :=
 #v[L6 hN hi hx he.pe hs hf,λG m j E F a H D r l S e q=>by
  obtain⟨⟨g,k⟩,f,e⟩:=bS9 e;walk_at "kb"
  rename_i hl;cases e;let(B,s,b,I):=S.ex;exact he.ok G B E F a H _ g _ I f λv h c d r=>q _ _ (S.putC s b I c d r hl).1]
end
end
end L3
namespace L3
open PySem PySem.W PySem.Spec PyProof.Rows L2
section
variable {K:Frag}{X:Cx}
def Ie:∀E F args F',j3 E F=some (args,F')->args.length=0:=λE F args F' e=>by cases e;rfl
def vg (h:∀E F args F',ms E F=some (args,F')->args.length=n):∀E F args F',d4 m ms E F=some (args,F')->args.length=n+1:=λE F args F' e=>by obtain⟨⟨x,f⟩,c,e⟩:=bS9 e;obtain⟨⟨b,d⟩,a,e⟩:=bS9 e;cases e;rw[qN,h _ _ _ _ a]
def He (h:∀E F args F',ms E F=some (args,F')->args.length=n):∀E F args F',vR i ms E F=some (args,F')->args.length=n+1:=λE F args F' e=>by
 unfold vR at e;split at e
 .obtain⟨⟨b,c⟩,a,e⟩:=bS9 e;cases e;rw[qN,h _ _ _ _ a]
 .cases e
def Ku {ms:DE->M (List DV)}(h:∀E F args F',ms E F=some (args,F')->args.length=n):∀E F args F',ms E F=some (args,F')->args.length+1=n+1:=λE F args F' e=>by rw[h _ _ _ _ e]
def Au (LB:LamB K X.mg X.base y fd c P)(hcode:X.env.code = .ref c)(hq:X.env.qual ++ "<lambda>" = J8 y)(hosc:X.env.scope=osc)
  (hfree:∀y∈scope.names,y.2 = .free->osc.names.lookup y.1=some .cell\/osc.names.lookup y.1=some .free) (hdef:‹defaultsOf params X.env=([],[])›)
  (he:‹QY [.Lambda params body scope lpos] X.env=[(false,eval (.Lambda params body scope lpos) X.env)]›):EvL K X P (J8 y) params body scope [.Lambda params body scope lpos] (Bb P<|J8 y) u8 :=
 DI LB hcode hq (by rwa[hosc]) hdef he

def IF 
  (LB:LamB K X.mg X.base y fd c P) (hK:X.K=K) (Cg:m7 X.prog X.w X.K X.mg X.base x k ps (su X.prog X.w X.K X.mg X.base (kl+1) lp.length λf φ g=>spC X.K N<|Fm f φ g)) (hr:Room k X.A) (hkl:kl+1<=k) (L:LamS lp capN scope) (ha:EvL K X P (J8 y) params body scope (e::es) T ms) (hn:∀E F args F',ms E F=some (args,F')->args.length+1=N)
  (hE:∀cl f c' A outer s H E,Room kl (A.deeper<|envX (J8 y) scope (~~~s) f (.ref c') cl)->Ev K (cxM CX0 X.prog X.w X.K X.mg X.base (lp++capN) (J8 y) scope cl f c' A outer s H E) body te me)
  (hosc:X.env.scope=osc) (hfree:∀y∈scope.names,y.2 = .free->osc.names.lookup y.1=some .cell\/osc.names.lookup y.1=some .free)
  (hcapN:(cap.map λj=>X.N[j]?)=capN.map some) (hcapf:∀y∈capN,(y,Ro.free)∈scope.names)
  (hbind:∀cl pm c' ctv us,us.length=lp.length->bindArgs (kla_fn "<lambda>" (J8 y) params body scope cl pm (.ref c') ctv) #v[us,[]]=pure (lp.zip us))
  (hfn:autoParam (∀x,X.fn x=true) qAk) (hg:‹Gl X x›) (hdb:autoParam (nDb x) gC)
  (he:‹QY (e::es) X.env=(false,eval e X.env)::QY es X.env›) (hpl:‹(Rb pos<|QY es X.env).any (·.1)=false›) :
  Ec K X (.Call (.Name x p) (e::es) [] pos) (DP X (J8 y) params body scope cap capN (su X.prog X.w X.K X.mg X.base (kl+1) lp.length λf φ g=>spC X.K N<|Fm f φ g) T) (ub Fm me cap ms) :=
 Jd LB hK Cg hr hkl L ha hn hE (by rwa[hosc]) hcapN hcapf hbind hfn hg hdb he hpl
end
end L3
namespace L3
open PySem PySem.Spec PyProof.Rows L2 PySem.W
variable {ep:Nat}
section
section

def oH (hit:KdxIt s.heap it d i es.size ep ok ov a fl)(ha:s.heap.get? a=some oa)(hai:a≠it)(hm:K9 s.heap d es ep)(hlt)
  (hQ:∀h',KdxIt h' it d (i+1) es.size ep ok ov a true->h'.get? (~~~s)=some { cls:=.type "tuple",data:=.seq #[es[i].key,es[i].val] }->h'.objs.size= ~~~s+1 ->
   (∀b o,b≠it->s.heap.get? b=some o->h'.get? b=some o)->Q (some<|.ref (~~~s)) { s with heap:=h' }):Re (model prog w) A (pyNext<|.ref it) Q E s:=by
 let(r,g,C,z,B):=s;let(J,D,I,F):=hm;have y:QO.TypeIs #v[r,g,C,z,B] (.ref it) "dict_itemiterator":=#v[_,hit,rfl];unfold pyNext;refine iD (Fq (xW (name:=Str.ofString "__next__") y zd
  (xw zd y JQ (iD<|iO<|iD<|iD ?_)<|Ja _)));first | refine iD (DL y<|iO ?_) | refine iD<|Fc y<|iO ?_
 refine iD<|MC hit rfl ?_;simp only[show Builtin.Dict_items.ownsTuple "dict_itemiterator" = true by decide,Bc];show Re _ _ (if (My.ref d == My.none)=true then _ else _) _ _ _;rw[oj<|show ¬((My.ref d == My.none)=true) from tN];refine iD<|iO<|iD<|EE D F ?_;rw[oj<|by simp];refine iD<|iO<|iD<|HR D F ?_;rw[oj<|by simp];refine iO ?_;simp only[show ¬((i:Int)<0) from by lia,yz,yB,IU hlt];refine iD ?_;first | refine iD (DL y<|iO ?_) | refine iD<|Fc y<|iO ?_
 refine iD<|KO y ?_;show Re _ _ (setField (.ref it) 3 (rawInt<|(i:Int)+1) >>= _) _ _ #v[r,g,C,z,B];refine iD (Dg hit (by simp) λf l j=>?_);replace j:QW.SameBut it r f:=j;replace l:KdxIt f it d (i+1) es.size ep ok ov a fl:=by
  have e:((i+1:Nat):Int)=(i:Int)+1:=by lia
  unfold KdxIt;rw[e];simpa [rawInt] using l
 have p:QO.TypeIs #v[f,g,C,z,B] (.ref it) "dict_itemiterator":=#v[_,l,rfl];refine iD<|Ak<|iD<|KO p<|iD<|KO p ?_;show Re _ _ (Builtin.Dict_items.pairFromOwner (.ref it) 6 es[i].key es[i].val) _ _ #v[f,g,C,z,B];unfold Builtin.Dict_items.pairFromOwner;refine iD<|Ob ?_;have k:KdxIt (f.push { cls:=.type "tuple",data:=.seq #[es[i].key,es[i].val] }) it d (i+1) es.size ep ok ov a fl:=jM _ l;generalize hh₂:f.push { cls:=.type "tuple",data:=.seq #[es[i].key,es[i].val] }=h₂ at k;have m:f.objs.size=r.objs.size:=j.1;have t:h₂.objs.size=r.objs.size+1:=by rw[<-hh₂,AW,m]
 have q:∀b o,b≠it->r.get? b=some o->h₂.get? b=some o:=λb o G e=>by rw[<-hh₂];exact jM _<|j.extBut b o G e
 rw[m];have v:=q a oa hai ha;refine iD<|iD<|zF k rfl rfl ?_;show Re _ _ (loadIfAlive ((a:Int).toNat) >>= _) _ _ _;rw[yB];refine iD<|kdx_alive v ?_;simp only[xn];refine iD<|zF k rfl (x:=.bool fl) rfl ?_;have fin:∀c:QW,KdxIt c it d (i+1) es.size ep ok ov a true->QW.SameBut it h₂ c->Q (some<|.ref r.objs.size) #v[c,g,C,z,B]:=λc n h =>
  hQ c n (h.extBut _ _ (AS (pz hit) ) (by rw[<-hh₂,<-m];exact ou _ rfl) ) (by rw[h.1,t]) λb o G e=>h.extBut b o G<|q b o G e
 cases fl with
 | true =>rw[oj<|show ¬((My.bool true != My.bool true)=true) from tN];refine iO ?_;simp only[xn,yz];exact iO<|iO #v[_,rfl,iO<|fin h₂ k<|QW.SameBut.refl _ _]
 | false =>rw[nY<|show(My.bool false != My.bool true)=true from rfl];refine iD (Dg k (by simp) λc n h=>iO ?_ );simp only[yz];exact iO<|iO #v[_,rfl,iO<|fin c n h]
def qa (hh:A.handled=none)
  (hit:s.heap.get? it=some { cls:=.type "dict_itemiterator",dict:=none,data:=.fields #[x0,.bool fl,.ref d,.int es.size 0,.int es.size 0,.int ep 0,ok,ov],slots:=#[] }) (hm:K9 s.heap d es ep)
  (hQ:∀h',QW.ExtBut it s.heap h'->Q none { s with heap:=h' }):Re (model prog w) A (pyNext<|.ref it) Q E s:=by
 let(h,e,g,f):=hm;have c:s.TypeIs (.ref it) "dict_itemiterator":=#v[_,hit,rfl];refine iD (Fq (xW c zd
  (xw zd c JQ (iD<|iO<|iD<|iD ?_)<|Ja _)));first | refine iD (DL c<|iO ?_) | refine iD<|Fc c<|iO ?_
 refine iD<|MC hit rfl ?_;simp only[Bc];show Re _ _ (if (My.ref d == My.none)=true then _ else _) _ _ s;rw[oj<|show ¬((My.ref d == My.none)=true) from tN];refine iD<|iO<|iD<|EE e f ?_;rw[oj<|by simp];refine iD<|iO<|iD<|HR e f ?_;rw[oj<|by simp];refine iO ?_;simp only[yz,yB,NX<|qD _];refine iD ?_;first | refine iD (DL c<|iO ?_) | refine iD<|Fc c<|iO ?_
 show Re _ _ (setField (.ref it) 2 .none >>= _) _ _ s;refine iD (MH hit rfl (by simp) (iD ?_) );simp only[newExc];refine iD (xI (iD (Pj (by first | rfl | (simp only[firstArgMember];rfl)) ?_))<|by size_fits);refine xI ?_ (by size_fits);simp only[raiseNew];refine iD<|Pq ?_;rw[hh];refine iD<|iO<|Qi ?_;refine iD<|KY #v[_,ou _ rfl,rfl] Od<|iO<|hQ _<|((DG ..).extBut.push _).push _
def pq (hst:KdxSt s.heap it d S i es.size ep)(hS:S< ~~~s)(hm:K9 s.heap d es ep)(hlt)
  (hQ:∀h',KdxSt h' it d S (i+1) es.size ep->h'.get? (~~~s)=some { cls:=.type "tuple",data:=.seq #[es[i].key,es[i].val] }->h'.objs.size= ~~~s+1 ->
   (∀b o,b≠it->s.heap.get? b=some o->h'.get? b=some o)->Q (some<|.ref (~~~s)) { s with heap:=h' }):Re (model prog w) A (pyNext<|.ref it) Q E s:=by
 rcases hst with ⟨rfl,ok,ov,e⟩ | ⟨ok,ov,a,f,m,e,n,g,l⟩
 .exact bO e hm hlt λh' c h k j=>hQ h' (.inr #v[_,_,_,false,_,c,h,AS<|pz e,AS hS]) h k j
 .exact oH e n g hm hlt λh' c h k j=>hQ h' (.inr #v[ok,ov,a,true,m,c,j a m g n,g,l]) h k j
def uQ (hh:A.handled=none)(hst:KdxSt s.heap it d S es.size es.size ep)(hm:K9 s.heap d es ep)(hQ:∀h',QW.ExtBut it s.heap h'->Q none { s with heap:=h' }):Re (model prog w) A (pyNext<|.ref it) Q E s:=by
 rcases hst with ⟨e,ok,ov,b⟩ | ⟨ok,ov,a,f,c,b,_,_,_⟩
 .exact cW hh (e▸b:IsItemIter s.heap it d es.size es.size ep ok ov) hm hQ
 .exact qa hh b hm hQ
structure RawG (es:Array DictEntry) lo (h:QW) (as:List QN):Prop where
 nd:as.Nodup
 above:∀a∈as,lo<a
 pairs:∀j a,as[j]? = some a->∃hj:j<es.size,h.get? a=some { cls:=.type "tuple",data:=.seq #[es[j].key,es[j].val] }
def RawG.keep {lo}(g:RawG es lo h as)(k:∀b o,lo<b->h.get? b=some o->h'.get? b=some o):RawG es lo h' as :=
 #v[g.nd,g.above,λj a e=>let #v[c,z]:=g.pairs j a e;#v[c,k a _ (g.above a<|uP e) z]]
def RawG.more {lo}(g:RawG es lo h as)(hl:lo<a)(hn:∀b∈as,b≠a)(hi) (e:h.get? a=some { cls:=.type "tuple",data:=.seq #[es[as.length].key,es[as.length].val] }):RawG es lo h (as++[a]):=by
 refine#v[Pf.2 #v[g.nd,by simp,λb d c k=>by rw[xp.1 k];exact hn b d],λb d=>?_,λj b f=>?_]
 .rcases zj.1 d with d | d
  .exact g.above b d
  . rwa[xp.1 d]
 .by_cases l:j<as.length
  .rw[EL l]at f;exact g.pairs j b f
  .have i:j=as.length:=by have:=(pG.1 f).1;rw[xy,List.length_singleton]at this;lia
   subst i;have:a=b:=by simpa using f
   subst this;exact#v[hi,e]
end
section
variable {s:QO}
def Bv (hh:A.handled=none)(hSI:S<I)(hSd:d≠S)(hId:d≠I)(hn:es.size<=QX)(res){h₁:QW}
  (hR:∀h' tk acc c as,(∀b o,b≠S->b≠I->h₁.get? b=some o->h'.get? b=some o)->h'.get? S=some { cls:=.type "list",dict:=none,data:=.seq acc c,slots:=#[] }->as.length=es.size->RawG es I h' as ->
   acc.toList=as.map My.ref->R (.ok<|.ret res) { s with heap:=h',toks:=tk }) :
  ∀k h tk c acc as,es.size-as.length=k->as.length<=es.size->KdxSt h I d S as.length es.size ep->K9 h d es ep->(∀b o,b≠S->b≠I->h₁.get? b=some o->h.get? b=some o) ->
   h.get? S=some { cls:=.type "list",dict:=none,data:=.seq acc c,slots:=#[] }->acc.toList=as.map My.ref->RawG es I h as->I<h.objs.size ->
   codeAny (model prog w) A (.builtin "list.extend.loop" #v[[.ref S,.ref I,res],[]]) R { s with heap:=h,toks:=tk }:=by
 have p:=uu hSI;intro k;induction k with
 | zero =>
  intro h tk c acc as M O l E a B f D r;have x:as.length=es.size:=by lia
  rw[x]at l;refine IS PySem.F.entry_extend_loop ?_;rw[Im Lm _];refine iD (uQ hh l E λh' G=>iO (hR h' tk acc c as (λb o F C e=>G b o C<|a b o F C e) (G S _ p B) x (D.keep λb o n e=>G b o (AS n) e) f) )
 | succ k K =>
  intro h tk c acc as M O l E a B f D r;have q:as.length<es.size:=by lia
  have u:acc.size=as.length:=by rw[<-zq,f,jI]
  refine IS PySem.F.entry_extend_loop ?_;rw[Im Lm _];refine iD (pq l (pz B) E q λh' v J L i=>?_);have y:=i S _ p B;have t:∀b o,b≠S->h'.get? b=some o->(h'.update S (QZ.mapSeq (·.push (My.ref h.objs.size)))).get? b=some o:=λb o n e=>(En _ _<|DO n).trans e
  have m:=t _ _ (AS (pz B) ) J;refine iD ?_;have g:(as++[h.objs.size]).length=as.length+1:=by rw[xy];rfl
  refine NU y rfl (iO #v[KS Lm _,K _ tk _ (acc.push<|My.ref h.objs.size) (as++[h.objs.size]) (by rw[g];lia) (by rwa[g]) (by rw[g];exact v.keep t<|DO p) (E.at' λo e=>t d o hSd<|i d o hId e)
   (λb o F C e=>t b o F<|i b o C<|a b o F C e) (FC _ y rfl) (by rw[Array.toList_push,f,yx];rfl) ((D.keep λb o n e=>t b o (AS<|OC hSI n)<|i b o (AS n) e).more r (λb n z=>?_) q m) ?_]) (by rw[u];lia) (by rw[Array.size_push,u];lia)
  .let(j,N):=List.mem_iff_getElem?.1 n;let(_,e):=D.pairs j b N;exact absurd (pz e) (by rw[z];exact Bl _)
  .exact OC r<|pz m
end
section

def ER (hh:A.handled=none)(hv:s.heap.IsItemsView r d)(hm:K9 s.heap d es ep)(S) (hSr:S≠r)(hSd:d≠S)(res) (c₀) (hS:s.heap.get? S=some { cls:=.type "list",data:=.seq #[] c₀ })
  (hR:∀h' tk acc c as,(∀b o,b≠S->s.heap.get? b=some o->h'.get? b=some o)->h'.get? S=some { cls:=.type "list",dict:=none,data:=.seq acc c,slots:=#[] }->as.length=es.size->RawG es (~~~s) h' as ->
   acc.toList=as.map My.ref->R (.ok<|.ret res) { s with heap:=h',toks:=tk }) (hn:es.size<=QX) :
  Re (model prog w) A.in1 (Builtin.List.listExtendWith (.ref S) (.ref r) res)
   (λfin s'=>match fin with | .done f=>R (.ok f) s' | .again c'=>c'.quiet=true/\codeAny (model prog w) A c' R s') (λe s'=>R (.error e) s') s:=by
 have q:=pz hS;have n:∀h k tk,(∀b o,b≠S->(s.heap.push { cls:=.type "dict_itemiterator",data:=.fields #[.none,.bool false,.ref d,.int 0 0,.int es.size 0,.int ep 0,.none,.none] }).get? b=some o->h.get? b=some o) ->
   h.get? S=some { cls:=.type "list",data:=.seq #[] k }->codeAny (model prog w) A (.builtin "list.extend.loop" #v[[.ref S,.ref (~~~s),res],[]]) R { s with heap:=h,toks:=tk }:=by
  intro h k tk v g;have z:=v (~~~s) _ (AS q)<|ou _ rfl;exact Bv hh q hSd (uu hm.lt ) hn res (λh' t acc c as u y hl F p=>hR h' t acc c as (λb o m e=>u b o m (uu<|pz e) e) y hl F p)
   es.size h tk k #[] [] (PL _) (CW _) (.inl #v[rfl,.none,.none,z]) (hm.at' λo e=>v d o hSd<|jM _ e) (λb o m _ e=>v b o m<|jM _ e) g rfl
   #v[OP,(λ_ E=>nomatch E),(λj a C=>by simp at C)] (pz z)
 refine iD<|Nq hv.typeIs ?_;simp only[show Builtin.List.listSameRef (.ref S) (.ref r)=false by simp[Builtin.List.listSameRef,hSr]];refine iD<|bP hv hm ?_;have g:=jM { cls:=.type "dict_itemiterator",data:=.fields #[.none,.bool false,.ref d,.int 0 0,.int es.size 0,.int ep 0,.none,.none] } hS;refine iD (Ak<|kdx_hint (let #v[o,B,D,_]:=hv;#v[o,jM _ B,D]) (wpAny_ite_split (λ_=>?_) (λ_=>iO #v[KS Lm _,n _ c₀ _ (λb o _ e=>e) g])) );refine iD<|JV<|iD<|iD<|NU g rfl ?_;have i:=FC (QZ.mapSeq (·.push My.none)) g rfl;refine NU i rfl ?_;refine iO #v[KS Lm _,n _ _ _ (λb o m e=>(En _ _<|DO m).trans<|(En _ _<|DO m).trans e ) (FC (QZ.mapSeq (·.pop)) i rfl) ]
def rq {R} (hh:A.handled=none)(hv:s.heap.IsItemsView r d)(hm:K9 s.heap d es ep)(hn:es.size<=QX)
  (h:∀h' tk as,(∀b o,s.heap.get? b=some o->h'.get? b=some o)->as.length=es.size->RawG es (~~~s) h' as->R (as.map My.ref) { s with heap:=h',toks:=tk }) :
  Re (model prog w) A (collect<|.ref r) R E s:=by
 unfold collect;refine iD<|wpAny_runValue<|IS entry_proto_collect' ?_;rw[Im PySem.F.plain_proto_collect _];show Re _ A.in1 (newList [] >>= λl=>again<|.builtin "list.__iadd__" #v[[l,.ref r],[]]) _ _ s;refine iD<|xI<|iO #v[KS PySem.F.plain_list_iadd _,IS entry_list_iadd' ?_];rw[Im PySem.F.plain_list_iadd _];show Re _ A.in1 (Builtin.List.listExtendWith (.ref (~~~s)) (.ref r)<|.ref (~~~s)) _ _ _;have t:=ER (prog:=prog) (w:=w) (s:={ s with heap:=s.heap.push { cls:=.type "list",data:=.seq ([]:List My).toArray } }) (ep:=ep)
  (R:=λ(q:Result) (p:QO)=>∃(h':QW) (tk:Nat) (c:Array My) (j:Nat) (as:List QN),q = .ok (.ret<|.ref (~~~s))/\p={ s with heap:=h',toks:=tk } /\
   (∀b o,s.heap.get? b=some o->h'.get? b=some o)/\h'.get? (~~~s)=some { cls:=.type "list",dict:=none,data:=.seq c j,slots:=#[] }/\as.length=es.size/\RawG es (~~~s) h' as/\c.toList=as.map My.ref)
  hh (let #v[o,u,x]:=hv;#v[o,jM _ u,x]) (hm.at' λo e=>jM _ e) (~~~s) (AS (let #v[_,u,_]:=hv;pz u) ) (uu hm.lt) (.ref (~~~s)) 0 (ou _ rfl)
  (λh' tk c j as m i hl k g=>#v[h',tk,c,j,as,rfl,rfl,λb o e=>m b o (uu<|pz e)<|jM _ e,i,hl,#v[k.nd,λa C=>Nat.lt_of_succ_lt (by have:=k.above a C;rwa [AW ..]at this),k.pairs],g]) hn
 have done:∀(h':QW) (tk:Nat) (c:Array My) (j:Nat) (as:List QN),(∀b o,s.heap.get? b=some o->h'.get? b=some o)->h'.get? (~~~s)=some { cls:=.type "list",dict:=none,data:=.seq c j,slots:=#[] }->as.length=es.size->RawG es (~~~s) h' as->c.toList=as.map My.ref->R c.toList { s with heap:=h',toks:=tk }:=λh' tk c j as m _ hl k g=>by rw[g];exact h h' tk as m hl k
 refine Dp t (λfin p x=>?_) λe p x=>?_
 .cases fin with
  | done f =>
   let(h',tk,c,j,as,e,rfl,m,i,hl,k,g):=x
   cases e
   exact iD<|wpAny_load i<|iO<|done h' tk c j as m i hl k g
  | again z =>
   refine#v[x.1,OD x.2 λq v y=>?_]
   let(h',tk,c,j,as,rfl,rfl,m,i,hl,k,g):=y
   exact iD<|wpAny_load i<|iO<|done h' tk c j as m i hl k g
 .let(_,_,_,_,_,D,_):=x;cases D
end
end
section
section

def rh (h:Re (model prog w) A.in1 (collect x) (λvs s1=>(bS vs.length/\vs.length<=5000)/\∃(kd:SortKind) (κ:Nat->Int),
   (2<=vs.length->∀h' Q,(∀b o,s1.heap.get? b=some o->h'.get? b=some o)->Q kd { s1 with heap:=h' }->Re (model prog w) A.in1.in1 (keyKind' vs.toArray) Q E { s1 with heap:=h' }) /\
   (∀h',(∀b o,s1.heap.get? b=some o->h'.get? b=some o)->fD prog w A.in1.in1 { s1 with heap:=h' } kd (pairsOf vs) κ) /\
   ∀out p,out.size=vs.length->(∀i,i<vs.length->out.toList[i]? = vs[p i]?)->SoS κ p vs.length->Q (.ref (~~~s1)) { s1 with heap:=sortedHeap (s1.heap.push<|seqObj "list" vs.toArray 0) (~~~s1) vs out }) E s) :
  Re (model prog w) A (call (.builtin "sorted") [x]) Q E s:=by
 refine Oy kind_sorted plain_sorted entry_sorted (args_sorted1 _)<|iD<|iO<|iD (Dp h (?_ ) λ_ _ e=>e);rintro vs s1 ⟨d,kd,κ,a,g,f⟩;refine iD (Oq ?_ (by rw[xD];lia));have c:(s1.heap.push<|seqObj "list" vs.toArray 0).get? (~~~s1)=some (seqObj "list" vs.toArray 0):=ou _ rfl;have keep:∀b o,s1.heap.get? b=some o->(s1.heap.push<|seqObj "list" vs.toArray 0).get? b=some o/\b≠(~~~s1):=λb o q=>#v[jM _ q,uu<|pz q]
 refine iD (Ak (xw slot_list_sort #v[_,c,rfl] entry_list_sort (fR c d.2 d.1
  (λk h' Q j f=>a k h' Q (λb o e=>j b o (keep b o e).2 (keep b o e).1) f) (λh' j=>g h' λb o e=>j b o (keep b o e).2 (keep b o e).1) λout p r n l=>#v[_,rfl,iO #v[_,rfl,f out p r n l] ])<|args_list_sort _))
end
section

def xY (hu:X.A.units+64<Rl){σ:St}{ds:List (List CD)}(I:Inv X π σ H s)(rv:k8 zs its)(hlz:zs.length=ds.length)
  (hD:∀(i:Nat) z d,zs[i]? = some z->ds[i]? = some d->c6 X.K H (.tuple d) z) (hG:∀d∈ds,ir d) (hK:∀i j di dj,i≠j->ds[i]? = some di->ds[j]? = some dj->ltM di dj=some (decide (κ i < κ j))) (h64:(bS ds.length/\ds.length<=5000)) :
  ∃kd,(2<=its.length->∀h' Q,(∀b o,s.heap.get? b=some o->h'.get? b=some o)->Q kd { s with heap:=h' }->Re (model X.prog X.w) X.A.in1.in1 (keyKind' its.toArray) Q X.xe { s with heap:=h' }) /\
   ∀h',(∀b o,s.heap.get? b=some o->h'.get? b=some o)->fD X.prog X.w X.A.in1.in1 { s with heap:=h' } kd (pairsOf its) κ:=by
 have ab:=rv.length.symm;have item:∀i v d,its[i]? = some v->ds[i]? = some d->∃as,Reads s.heap v (.tuple d) as:=λi v d l q=>by
  have N:i<zs.length:=by have:=(pG.1 l).1;lia
  let(u,G,S):=rv.get<|qK N;rw[l]at G;cases G;exact E3 I _ _ _ (hD i _ d (qK N) q) S
 let(fs,K,hT):=bF (by lia) item hG;have U:∀{h'},(∀b o,s.heap.get? b=some o->h'.get? b=some o)->∀{g} {fs},T4 s.heap g fs->T4 h' g fs:=by
  intro h' k g;induction g with
  | nil=>intro fs t;cases fs with | nil=>exact t | cons _ _=>exact t.elim
  | cons v g L =>
   intro fs t;cases fs with
   | nil=>exact t.elim
   | cons f fs =>obtain⟨⟨a,o,T,n,l,q,G⟩,t⟩:=t;exact#v[#v[a,o,T,n,l,k _ _ q,G],L t]
 refine#v[lO fs,λh2 h' Q' k F=>?_,λh' k=>?_]
 .refine Ao (U k K) (by have:=K.len;lia) (λf W=>?_) F;let(c,J,O):=bF (by lia) (λi v d l q=>let #v[as,r]:=item i v d l q;#v[as,JP k r]) hG;have:∀{g} {fs c},T4 h' g fs->T4 h' g c->fs=c:=by
   intro g;induction g with
   | nil =>
    intro fs c t w;cases fs with
    | cons _ _=>exact t.elim
    | nil =>
     cases c with
     | nil=>rfl
     | cons _ _=>exact w.elim
   | cons v g L =>
    intro fs c t w;cases fs with
    | nil=>exact t.elim
    | cons f fs =>
     cases c with
     | nil=>exact w.elim
     | cons f' c =>obtain⟨⟨a,o,T,n,l,q,G,S,e5⟩,t⟩:=t;obtain⟨⟨a',o',Z,n',p,A,g3,Y,g5⟩,w⟩:=w;rw[l]at p;cases p;rw[q]at A;cases A;rw[S]at Y;cases Y;rw[<-e5,<-g5,L t w]
  rw[this (U k K) J]at W;exact O _ f W
 .intro i j x y M R P E Q' F;rw[<-zS,pairsOf_toList,EO]at R P;have N:=(pG.1 R.1).1;have hj:=(pG.1 P.1).1;have di:ds[i]? = some (ds[i]'(by lia)):=qK (by lia);have dj:ds[j]? = some (ds[j]'(by lia)):=qK (by lia);let(as,C):=item i _ _ R.1 di;let(bs,B):=item j _ _ P.1 dj;have C:=JP k C;have B:=JP k B;have p:=hG _ (Ii<|show i<ds.length by lia);have A:=hG _ (Ii<|show j<ds.length by lia);have lt:=hK i j _ _ M di dj;have D:X.A.in1.in1.units+min (CD.depthAll ds[i]+1) (CD.depthAll ds[j]+1)<Rl:=by have e:X.A.in1.in1.units=X.A.units+1+1:=rfl;have:=p.2.1;lia
  unfold lO;split
  .exact jW C B p.1 A.1 (by lia) lt F
  .split
   .exact my C B p.1 A.1 D lt F
   .exact mr C B p.1 A.1 D lt F
end
end
end L3
namespace L3
open PySem PySem.Spec PyProof.Rows L2 PySem.W
section
def uC (p a:QN):QW->Prop:=λh=>h.IsItemsView p a
def dW (H:Hp)(l:List (QN×List V)):Hp:=λb=>match l.lookup b with
 | some a=>some<|.tup a
 | none=>H b
def mT (e:l.lookup b=some xs):dW H l b=some (.tup xs):=by unfold dW;rw[e]
def G9 (e:l.lookup b=none):dW H l b=H b:=by unfold dW;rw[e]
theorem eN {α:Type}:∀{as:List QN} {ys} {a} {y:α},(as.zip ys).lookup a=some y->∃j:Nat,as[j]? = some a/\ys[j]? = some y
 | [],_,_,_,e=>by simp at e
 | _::_,[],_,_,e=>by simp at e
 | b::as,z::ys,a,y,e=>by
  rw[Fo,yH]at e;by_cases h:a=b
  .subst h;rw[On]at e;cases e;exact#v[0,rfl,rfl]
  .rw[NT h]at e;let(j,d,c):=eN e;exact#v[j+1,by simpa using d,by simpa using c]
theorem oi {α:Type}:∀{as:List QN} {ys} {j:Nat} {a} {y:α},as.Nodup->as[j]? = some a->ys[j]? = some y->(as.zip ys).lookup a=some y
 | [],_,_,_,_,_,e,_=>by simp at e
 | _::_,[],_,_,_,_,_,e=>by simp at e
 | b::as,z::ys,0,a,y,_,c,h2=>by
  simp at c h2;rw[Fo,yH,c,On,h2]
 | b::as,z::ys,j+1,a,y,d,c,h2=>by
  have d:=FY.1 d;have c:as[j]? = some a:=by simpa using c
  have f:a≠b:=λe=>d.1<|e▸uP c
  rw[Fo,yH,NT f];exact oi d.2 c (by simpa using h2)
section
variable {σ:L2.St}
def Bm {l:List (QN×List V)}(I:Inv X π σ H s)(hk:∀b o,s.heap.get? b=some o->h'.get? b=some o)
  (hl:∀a xs,l.lookup a=some xs-> ~~~s<=a/\∃us,k8 xs us/\xs.length<=QX/\h'.get? a=some { cls:=.type "tuple",data:=.seq us.toArray }):Inv X π σ (dW H l) { s with heap:=h',toks:=tk }:=by
 have f:∀{b} {o},s.heap.get? b=some o->l.lookup b=none:=λ{b o} e=>by
  cases z:l.lookup b with
  | none=>rfl
  | some xs=>exact absurd (pz e)<|Nat.not_lt.2 (hl b xs z).1
 have d:∀{b} {u},H b=some u->l.lookup b=none:=λ{b u} e=>by
  cases z:l.lookup b with
  | none=>rfl
  | some xs=>rw[I.hok.fresh (hl b xs z).1]at e;cases e
 refine I.un #v[λb o e _ _ _=>hk b o e,λb o e _ _ _=>#v[o.slots,hk b o e],λb o e n _=>by rwa[G9<|f e],λb o e _=>#v[o,hk b o e],λb xs e=>by rwa[G9<|d e],λb o u e=>by rwa[G9<|d e],λb i e=>#v[#[],by rw[G9<|d e,e];simp]] λb u e=>?_
 cases z:l.lookup b with
 | none =>rw[G9 z]at e;exact(I.hok b u e).stay (λc v _ q=>hk c v q) (λc q=>by rwa[G9<|d q]) λc xs q=>by rwa[G9<|d q]
 | some xs =>rw[mT z]at e;cases e;let(_,us,r,h,g):=hl b xs z;exact#v[h,us,r,#v[_,g,rfl,_,rfl],.mk g rfl]
def Cd (to:TE):TE:=λσ H Q=>to σ H λx b=>∃c a d,x = .ref a/\dQ b c a d/\∀p,b p=none->Q (.ref p) (upd b p<|.ext<|uC p a)
def BC (ho:PE X o to)(hbase:Rh o "items" X.env (eval o X.env)=eval o X.env)(hline:(apos.endLine == cpos.line)=true) :
  PE X (.Call (.Attribute o "items" apos) [] [] cpos) (Cd to):=by intro π s σ H Q I h;refine OX hbase hline (thn (ho π s σ H _ I h) ?_ );rintro v s1 ⟨x,D,i,l,c,a,w,u,t,q⟩;subst u;obtain rfl:=l;let(A,B,p,_,n,_,_):=eL i t;let(j,g,f,C):=id p;refine#v["dict","dict.items",LS,OW,PySem.F.type_dict_items,#v[j,g,f.1],(λb q=>by cases q;exact#v[j,g,f.2.1]),KB rfl<|Qa (km g f n ?_) ];refine#v[.ref (~~~s1),_,i.laid (o:=.ext<|uC (~~~s1) a) (λ_ _ q=>jM _ q) (qD _) #v[#v[_,ou _ rfl,rfl,rfl],#v[_,ou _ rfl],λz y d k=>?_],rfl,q _<|i.hok.fresh<|qD _];let(o,e,r):=d;exact#v[o,k o e,r]
end
section
variable {K:Qf}
def zT (K:Frag):List V->Hp->VK->Prop:=λg H Q=>∃(p:QN) (c:Nat) (a:QN) (f:List ((m8 c).K×QN×V)) (e:List (List CD)) (h:Nat->Int),g=[.ref p]/\H p=some (.ext<|uC p a)/\dQ H c a f/\f.length=e.length /\
 (∀(i:Nat) x d,f[i]? = some x->e[i]? = some d->∃k v,d=[k,v]/\c6 K H k (.ref x.2.1)/\c6 K H v x.2.2)/\(∀d∈e,ir d) /\
 (∀i j m l,i≠j->e[i]? = some m->e[j]? = some l->ltM m l=some (decide (h i < h j)))/\(bS e.length/\e.length<=5000) /\
 ∀(as:List QN) p g,as.length=f.length->as.Nodup->(∀b∈as,H b=none)->p ∉ as->H p=none->StK h (as.map V.ref) g->Q (.ref p) (upd (dW H<|as.zip<|f.map λx=>[V.ref x.2.1,x.2.2]) p<|.lst g)
def qT (e:W a=some (.tup [x,y]))(h1:c6 K W k x)(h2:c6 K W v y):c6 K W (.tuple [k,v]) (.ref a) :=
 c6.tup e #v[_,_,rfl,h1,_,_,rfl,h2,rfl]
end
end
section
theorem xf {K:Frag}:∀{ds} {xs},xs.length=ds.length->(∀(i:Nat) d v,ds[i]? = some d->xs[i]? = some v->c6 K W d v)->b9 K W ds xs
 | [],[],_,_=>rfl
 | [],_::_,h,_=>by simp at h
 | _::_,[],h,_=>by simp at h
 | d::ds,x::xs,h,k=>#v[x,xs,rfl,k 0 d x rfl rfl,xf (by simpa using h) λi d v b a=>k (i+1) d v (by simpa using b)<|by simpa using a]
section
variable {K:Qf}
def oJ (i:Nat):DE->M CD:=λE F=>(uN E i).bind λd=>some (.list<|d.2.map λp=>.tuple [p.1,p.2],F)
def AR (i)(hh:X.A.handled=none)(hK:X.K=K)(hu:X.A.units+64<Rl)(hm:X.mg "sorted" = none)(hv:Ri "sorted" = some (.builtin "sorted"))(hN:‹X.N[i]? = some x›)(hvis:autoParam (Vis X.env.scope x) kA)(hd:autoParam (nDb x) gC)(hcd:autoParam (nCd x) gC)
  (hbase:‹Rh (.Name x px) "items" X.env (eval (.Name x px) X.env)=eval (.Name x px) X.env›) (hline:‹(apos.endLine == cpos.line)=true›)
  (hg:‹Gl X "sorted"›) (hs:‹QY [.Call (.Attribute (.Name x px) "items" apos) [] [] cpos] X.env=(false,eval (.Call (.Attribute (.Name x px) "items" apos) [] [] cpos) X.env)::QY [] X.env›) (hpl:‹(Rb pos<|QY [] X.env).any (·.1)=false›) :
  Ev K X (.Call (.Name "sorted" p) [.Call (.Attribute (.Name x px) "items" apos) [] [] cpos] [] pos) (tCB (zT K)<|z9 (Cd<|P4 i) T7) (sN aY<|d4 (oJ i) j3) :=
 #v[ag ((by
  subst hK;intro T s σ H m us Q I r h;let(p,c,a,Y,t,O,rfl,hp,hd,cc,hD,hG,b0,ba,q):=h;let(u,rfl,rx):=C5 r;cases rx;let(es,ep,hr,b7,_,cd,bt):=eL I hd;refine rh (rq (A:=X.A.in1) hh ((show x5 X.prog X.w H s.heap p (.ext<|uC p a) from I.hok p _ hp).1) hr (by lia) λw tk as hk bv N=>?_);obtain⟨l,S⟩:∃l,l=as.zip (Y.map λx=>[V.ref x.2.1,x.2.2]):=#v[_,rfl];have ac:∀b∈as,~~~s<=b:=λb hb=>Ir (N.above b hb)
  have I1:Inv X T σ (dW H l) { s with heap:=w,toks:=tk }:=Bm I hk λb m e=>by
   rw[S]at e;let(j,f,W):=eN e;rw[sq]at W;let(x,e3,e4):=sA.1 W;let(hj,g):=N.pairs j b f;let(_,k1,k2):=bt j x e3;refine#v[ac b<|uP f,[es[j].key,es[j].val],?_,?_,g]
   .rw[<-e4];exact .cons (by rw[k1];exact rfl) (.cons k2 .nil)
   .rw[<-e4];exact uj (show 2<=10000 by decide) (by rw[xD];decide)
  have an:i5 H (dW H l):=λb o e=>by
   rw[G9]
   .exact e
   .cases z:l.lookup b with
    | none=>rfl
    | some m =>
     rw[S]at z
     let(j,f,_):=eN z
     rw[I.hok.fresh<|ac b<|uP f]at e;cases e
  have ab:k8 (as.map V.ref) (as.map My.ref):=by
   have:∀l:List QN,k8 (l.map V.ref) (l.map My.ref):=λl=>by
    induction l with
    | nil=>exact .nil
    | cons b l ih=>exact .cons rfl ih
   exact this as
  have ad:as.length=t.length:=by lia
  have b3:∀(i:Nat) (z:V) (d:List CD),(as.map V.ref)[i]? = some z->t[i]? = some d->c6 X.K (dW H l) (.tuple d) z:=λi z d f W=>by rw[sq]at f;let(b,e3,e4):=sA.1 f;subst e4;obtain⟨x,e5⟩:∃x,Y[i]? = some x:=#v[_,qK (by have:=(pG.1 e3).1;lia)];let(k,v,rfl,g1,R):=hD i x d e5 W;exact qT (mT<|(λj b x f W=>by rw[S];exact oi N.nd f (by rw[sq,W];rfl)) i b x e3 e5) (c6.same g1 an) (c6.same R an)
  let(kd,m1,m2):=xY hu I1 ab (by rwa[jI]) b3 hG b0 ba;refine#v[by rwa[jI,ad],kd,O,m1,m2,λout J a1 a2 a3=>?_];generalize hits:as.map My.ref=its at *;generalize hzs:as.map V.ref=D at *;have ap:D.length=its.length:=ab.length;have ce:its.length=t.length:=by rwa[<-hits,jI]
  let(b4,he):=sortedHeap_at (h:=w.push<|seqObj "list" its.toArray 0) (a:=w.objs.size) (vs:=its) (n:=0) (out:=out)<|ou _ rfl;have P:((List.range its.length).map λi=>D.getD (J i) .non).length=its.length:=by rw[jI,xB]
  have am:∀i,i<its.length->((List.range its.length).map λi=>D.getD (J i) .non)[i]? = D[J i]?:=λi hi=>by rw[sq,IE hi];have ca:=a3.2.2 i hi;show some (D.getD (J i) .non)=_;rw[uE,qK<|by lia];rfl
  have I2:Inv X T σ (upd (dW H l) w.objs.size<|.lst<|(List.range its.length).map λi=>D.getD (J i) .non) { s with heap:=sortedHeap (w.push<|seqObj "list" its.toArray 0) w.objs.size its out,toks:=tk } :=
   I1.laid (a:=w.objs.size) (λb o ho=>by
    have a4:b<w.objs.size:=pz ho;show(sortedHeap _ _ _ _).get? b=_;rw[sortedHeap_old (uu a4) (by rw[size_push'];exact FJ a4)];exact jM _ ho) (qD _) #v[by rw[P,xD];lia,out.toList,b4,M9 (by rw[P,atl out,a1]) (λi x u hx hu=>by
    have hi:i<its.length:=by have:=(pG.1 hx).1;rwa [P]at this
    rw[am i hi]at hx;rw[a2 i hi]at hu;let(u',g1,R):=ab.get hx;rw[g1]at hu;rwa[<-rn hu]),by rw[he]]
  have U:w.objs.size ∉ as:=λhb=>by let(j,hj):=List.mem_iff_getElem?.1 hb;let(_,g):=N.pairs j _ hj;exact absurd (pz g) (Bl _)
  have b1:H w.objs.size=none:=by
   have:=I1.hok.fresh (a:=w.objs.size)<|qD _;rw[G9]at this
   .exact this
   .cases z:l.lookup w.objs.size with
    | none=>rfl
    | some m =>
     rw[S]at z
     let(j,f,_):=eN z
     exact absurd (uP f) U
  have hq:=q as w.objs.size ((List.range its.length).map λi=>D.getD (J i) .non) (by lia) N.nd (λb hb=>I.hok.fresh<|ac b hb) U b1 (by rw[hzs];exact#v[by rw[P,ap],J,by rwa[ap],λi hi=>am i<|by lia]);rw[<-S]at hq;exact#v[.ref w.objs.size,_,I2,rfl,hq])) hg hm hv (r8 (BC (A9 hN hvis hd hcd) hbase hline) A3 hs) (by decide) (by decide) hs hpl,λG B E F σ H Q r F' I e q=>by
  obtain⟨⟨D,F1⟩,f,e⟩:=bS9 e;obtain⟨⟨y,F2⟩,W,f⟩:=bS9 f;cases f;let(z,hf,e):=bS9 e;cases e;obtain⟨⟨c,ps⟩,e4,e5⟩:=bS9 W;cases e5;unfold aY at hf;dsimp only at hf;split at hf;case isFalse=>cases hf
  rename_i br;cases hf;let(t,O,et,hS):=br;have et:(ps.map λp=>CD.tuple [p.1,p.2])=t.map CD.tuple:=et;have b8:ps.length=t.length:=by have:=AZ List.length et;simpa using this
  have a0:∀(j:Nat) (d:List CD),t[j]? = some d->∃Z,ps[j]? = some Z/\d=[Z.1,Z.2]:=λj d ed=>by have e9:=AZ (λl=>l[j]?) et;simp only[sq,ed,Nw]at e9;let(Z,h1,h2):=sA.1 e9;exact#v[Z,h1,(CD.tuple.inj h2).symm]
  let(a,Y,v1,a8):=zw I e4;refine#v[_,v1,c,a,Y,rfl,(a8 H Kp.refl).1,λv hp=>?_];obtain⟨C,al⟩:∃C,C=upd H v (.ext<|uC v a):=#v[_,rfl];have s1:i5 H C:=by rw[al];exact i5.upd hp
  have k1:Kp (j6 K G) H C:=Kp.same s1;rw[<-al];let(h1,h2):=a8 C k1;have b6:=ji h2;have f1:=I.fd.same s1;have bd:=m9 I.bk k1 f1;refine#v[v,c,a,Y,t,O,rfl,(by rw[al];exact i3),h1,by lia,λj x d ex ed=>?_,hS.2.1,hS.2.2,hS.1,λas J m bv bm a9 bg bi o=>?_]
  .let(Z,g1,rfl):=a0 j d ed;let(kk,b,v',R,_,g3,g4):=vA h2 g1;rw[ex]at R;cases R;exact#v[_,_,rfl,c6.same g3 d9,c6.same g4 d9]
  .obtain⟨l,S⟩:∃l,l=as.zip (Y.map λx=>[V.ref x.2.1,x.2.2]):=#v[_,rfl];rw[<-S];have a6:∀b m,l.lookup b=some m->b∈as:=λb m z=>by rw[S]at z;let(j,f,_):=eN z;exact uP f
   have s2:i5 C (dW C l):=(λb o e=>by
    rw[G9]
    .exact e
    .cases z:l.lookup b with
     | none=>rfl
     | some m=>rw[(λb m z=>a9 b<|a6 b m z) b m z]at e;cases e)
   have k2:Kp (j6 K G) C (dW C l):=Kp.same s2;have f2:=f1.same s2;have hW:=k2.hid I.fB;have M:dW C l J=none:=by
    rw[G9]
    .exact bi
    .cases z:l.lookup J with
     | none=>rfl
     | some m=>exact absurd (a6 J m z) bg
   have bp:b9 K (hid (dW C l) B) (t.map CD.tuple) (as.map V.ref):=xf (by rw[jI,jI];lia) λj d u ed eu=>by rw[sq]at ed eu;let(d',g1,rfl):=sA.1 ed;let(b,R,rfl):=sA.1 eu;let(Z,g3,rfl):=a0 j d' g1;let(kk,b',v',g4,_,g5,g6):=vA h2 g3;refine qT ?_ (c6.same g5 hW)<|c6.same g6 hW;rw[j5<|bd.nin<|a9 b<|uP R];refine mT ?_;rw[S];exact oi bm R (by rw[sq,g4];rfl)
   have a5:(as.map V.ref).length=t.length:=by rw[jI];lia
   generalize as.map V.ref=D at *;have eo:cT ((List.range t.length).map λi=>V.int<|O i) D m:=by
    let(hy,p2,L,M):=o;have ek:∀i,i<D.length->T2 ((List.range t.length).map λi=>V.int<|O i) i = O i:=λi hi=>by unfold T2;rw[uE,sq,IE<|by lia];rfl
    refine#v[hy,p2,#v[λi j bn hj=>?_,L.2.1,L.2.2],M];have:=L.1 i j bn hj;unfold Lx at this ⊢;rwa[ek _<|L.2.2 i<|by lia,ek _<|L.2.2 j hj]
   have ey:=ff eo (by rw[jI,xB,a5]);rw[sJ,show(iH ∘ λi=>V.int<|O i) = O from rfl]at ey;subst ey;have:=(jR (ns:=(List.range t.length).map O) bp).sort.dats;rw[lI hS]at this;rw[et,ay]at q;exact q _ _ ((k1.trans k2).trans<|Kp.upd M) (f2.same<|i5.upd M)<|G3 (m9 bd k2 f2) M this]
end
end
end L3
namespace L3
open PySem PySem.Spec PyProof.Rows L2

section
section


def iF :typeLookup (.type "zip") "__getattr__" = pure none:=by rw[typeLookup_type,builtinLookup_eq_fast];kernel_rfl
def nT :typeLookup (.type "zip") "keys" = pure none:=by rw[typeLookup_type,builtinLookup_eq_fast];kernel_rfl
def qA :entryFor table "zip.__getattribute__" = some Builtin.«object.__getattribute__» :=
 entryFor_alias (id':="object.__getattribute__") (by kernel_rfl) (by decide +kernel) (by decide +kernel) (by kernel_rfl)
def cN :entryFor table "dict.update.loop" = some Builtin.«dict.update.loop»:=entryFor_of_tree (by kernel_rfl)
def Q2 :plainId "dict.update.loop" = true:=by decide +kernel
def BD (a) (fs) (sl) (u) :
  Meets (Builtin.«object.__getattribute__» #v[[.ref a,.str "keys" u],[]]) (λA R s=>s.heap.get? a=some { cls:=.type "zip",dict:=none,data:=.fields fs,slots:=sl }/\raisesAttr (.ref a) "keys" A R s) :=
 Meets.of_wp λprog w A R s b=>by
  let(j,g,d,f,h):=s;let(i,b):=b;have e:=nT;have k:(#v[j,g,d,f,h]:QO).TypeIs (.ref a) "zip":=#v[_,i,rfl];have c:(["__module__","__name__","__qualname__","__doc__","__annotations__"]:List Str).contains ("keys")=false:=by decide
  repeat (any_goals (first | assumption | wp_step))
  exact wpAny_raiseAttrError b.1 b.2 (attrMsg_fits (by decide +kernel)<|by decide +kernel)
def Eh (hx:s.heap.get? z=some { cls:=.type "zip",dict:=none,data:=.fields fs,slots:=sl })(hA:A.handled=none)
  (h:∀h' tk,(∀b o,s.heap.get? b=some o->h'.get? b=some o)->Q none { s with heap:=h',toks:=tk }) :
  Re (model prog w) A (getAttr? (.ref z) "keys") Q E s:=by
 let(j,g,d,tk,i):=s;have f:∀a,(#v[j,g,d,a,i]:QO).TypeIs (.ref z) "zip":=λ_=>#v[_,hx,rfl]
 have r:=sub_AttributeError;have q:=OY.lookup;have p:=OY.bind<|.ref z;have n:=iF;repeat (any_goals (first | assumption | exact f _ | ((with_reducible show Re _ _ (call (My.builtin "zip.__getattribute__") _ _) _ _ _);refine NQ OY (f _) qA (F.args_zip_getattribute_2 _ _) (BD z fs sl _) #v[hx,hA,λh' a e c=>?_]) | wp_step))
 let(l,k,m):=c.there;show Re _ _ (getattributeRaised _ _ _ _ _ _ _) _ _ _;repeat (any_goals (first | assumption | wp_step))
 exact h _ _ c.keeps
end
end
section
section
def FT {s:QO}(m1:K5 b s.heap l1 xs)(m2:s.heap.IsList l2 ys)
  (h:∀h',IsZip h' (~~~s+4) (~~~s+2) (~~~s+3) .none->IsPair h' (~~~s+2) (.ref (~~~s)) (.ref<|~~~s+1) ->
   IsPair h' (~~~s+3) .none .none->y8 b h' (~~~s) l1 0->y8 true h' (~~~s+1) l2 0->(∀c o,s.heap.get? c=some o->h'.get? c=some o)->Q (.ref<|~~~s+4) { s with heap:=h' }) :
  Re (model prog w) A (call (.type "zip") [.ref l1,.ref l2]) Q E s:=by
 cases b
 .exact rT m1 m2 h
 .exact call_zip_2 m1 m2 λh' i g f e d _ a=>h h' i g f e d a
end
section
def Dr:Bool->CD->Option (List CD)
 | false,.tuple xs=>some xs
 | true,.list xs=>some xs
 | _,_=>none
end
end
section
section

def pB (κ:NKey)(L:Qf)(p:QN):List (V×V)->Hp->(Hp->Prop)->Prop
 | [],H,Q=>Q H
 | (y,v)::r,H,Q=>∃a,EC κ L H p y v a/\pB κ L p r a Q
end
end
end L3
namespace L3
open PySem PySem.Spec PyProof.Rows L2 PySem.W

section
variable {σ:L2.St}
def qS (hu:A.units+9<Rl)(hd:κ.dp<=8)(I:Inv X π σ H s)(g:EC κ X.K H a y v H')(ry:l4 y u)(rv:l4 v r)(h:∀s',QW.SameBut a s.heap s'.heap->Inv X π σ H' s'->Q () s') :
  Re (model X.prog X.w) A (dictSet a u r) Q E s:=by
 let(i,k,b,e,t,rfl,kb,hl,rfl):=g;cases(ry);rw[dH κ X.prog X.w]at e h;let(z,d,m,c,K):=(EM I e).dict λx p=>κ.ok I<|t x p
 have o:m.length<=QX:=by rwa[<-Lq c]
 refine wpAny_dictSet_heap (κ.room _ _ _ (by lia)) (κ.ok I kb) K λF f j=>h _ j ?_
 let(q,G,J,l,D,C,B,_,w):=f;have n:dA (κ.kind X.prog X.w) a (jH i k b v) F:=#v[by have:=ky i k b v;lia,d,_,PV.put c k rv,q,G,J,l,D,C,B,w];exact U0 I (by rw[e];exact True.intro) j #v[q,l] n.obj
end
section
variable {σ:L2.St}
variable {b2:Bool}{TI TO i2:QN}
def BQ {S:QN}(hh:A.handled=none)(hu:A.units+10<Rl)(hd:κ.dp<=8)(hn:xs.size<=QX)(hxy:xs.size=ys.size)(D:ZipApart z TI TO i1 i2 l1 l2)(L:Bel S z TI TO i1 i2 l1 l2) :
  ∀l k i t s H,k+l.length=xs.size->(∀j p,l[j]? = some p->∃u v,xs[k+j]? = some u/\ys[k+j]? = some v/\l4 p.1 u/\l4 p.2 v) ->
  ZSt s.heap z TI TO i1 i2->IsPair s.heap TI (.ref i1) (.ref i2)->y8 b1 s.heap i1 l1 k->y8 b2 s.heap i2 l2 k->K5 b1 s.heap l1 xs->K5 b2 s.heap l2 ys ->
  Inv X π σ H s->(∀c∈[z,TO,i1,i2],bX X π H c)->(∃o es ep,s.heap.get? S=some o/\o.cls = .type "dict" /\ o.data = .dict es ep)->pB κ X.K S l H Q ->
  (∀H' s',Inv X π σ H' s'->Q H'->R (.ok<|.ret .none) s') ->
  codeAny (model X.prog X.w) A (.builtin "dict.update.loop" #v[[.ref S,.ref z,.int i t,.none],[]]) R s:=by
 have d:∀{a},a<S->S≠a:=λh=>AS h
 intro l;induction l with
 | nil =>
  intro k i t s H K hl C B h1 h2 x w I M hS F Z;subst (by simpa using K);refine IS cN ?_;rw[Im Q2 _];refine iD (Kn hh D C B h1 h2 x w (by simp) λJ eb=>?_);refine iD<|iO<|iO<|Z H _ (J0 I M λc o f ec=>eb c o (λq=>f<|by simp[q]) (λq=>f<|by simp[q]) (λq=>f<|by simp[q]) (λq=>f<|by simp[q]) ec) F
 | cons p l ih =>
  intro k i t s H K hl C B h1 h2 x w I M hS F Z;let(y,v):=p;let(H',g,F):=F;let(u,r,hx,hy,ry,rv):=hl 0 (y,v) rfl;simp only[Nat.add_zero]at hx hy;refine IS cN ?_;rw[Im Q2 _];refine iD (Ez D C B h1 h2 x w hx hy λJ E ad ac hT hz n=>?_);let(oS,es,ep,ho,f,am):=hS;have Y:=n S _ (d L.a) (d L.c) (d L.d) (d L.e) ho;refine iD<|Ak<|iD<|Oe<|iD<|Nq #v[_,hT,rfl] ?_;rw[nY<|by decide];refine iD<|Ej hT rfl<|iO<|Ak (qS (by lia) hd (J0 I M λc o f ec=>n c o (λq=>f<|by simp[q]) (λq=>f<|by simp[q]) (λq=>f<|by simp[q]) (λq=>f<|by simp[q]) ec) g ry rv λs2 sb I2=>?_);have m:∀b o,b≠S->J.get? b=some o->s2.heap.get? b=some o:=λb o U e=>(sb.2 b U).trans e
  have ab:∀c,c≠S->H' c=H c:=λc f=>by let(N,k',b',_,_,_,_,_,e9):=g;rw[e9,h7 f]
  refine iO #v[KS Q2 _,ih (k+1) _ _ s2 H' (by simp only[qN]at K;lia) (λj q e=>?_) ?_ ?_ ?_ ?_ ?_ ?_ I2 (λc f=>?_) (by let(N,k',b',_,_,_,_,_,e9):=g;have nd:=fc I2 (by rw[e9];exact i3);let(_,_,vs,_,o,es,ep,e1,ex,ed,_):=nd;exact#v[o,es,ep,e1,ex.1,ed]) F Z]
  .have:=hl (j+1) q e;rwa[show k+(j+1)=k+1+j by lia]at this
  .refine E.at λb o U e=>m b o ?_ e
   rcases U with rfl | G
   .exact DO<|d L.a
   .intro q;subst q;rw[Y]at e;cases e;rw[f]at G;simp at G
  .exact m TI _ (DO<|d L.b)<|n TI _ D.TIz D.TITO D.TIi1 D.TIi2 B
  .exact ad.at λo e=>m i1 _ (DO<|d L.d) e
  .exact ac.at λo e=>m i2 _ (DO<|d L.e) e
  .exact(x.at λo e=>n l1 o D.l1z D.l1TO D.l1i1 D.l1i2 e).at λo e=>m l1 _ (DO<|d L.f) e
  .exact(w.at λo e=>n l2 o D.l2z D.l2TO D.l2i1 D.l2i2 e).at λo e=>m l2 _ (DO<|d L.g) e
  .let(f0,f1):=M c f;have P:c≠S:=by
    rcases oZ.1 f with rfl | f
    .exact DO<|d L.a
    rcases oZ.1 f with rfl | f
    .exact DO<|d L.c
    rcases oZ.1 f with rfl | f
    .exact DO<|d L.d
    .rw[xp.1 f];exact DO<|d L.e
   exact#v[by rwa[ab c P],f1]
def sy (hh:A.handled=none)(hu:A.units+11<Rl)(hdp:κ.dp<=8)(hn:xs.size<=QX)(hxy:xs.size=ys.size)(hlen:l.length=xs.size)
  (hl:∀(j:Nat) p,l[j]? = some p->∃u v,xs[j]? = some u/\ys[j]? = some v/\l4 p.1 u/\l4 p.2 v)
  (D:ZipApart z TI TO i1 i2 l1 l2) (L:Bel (~~~s) z TI TO i1 i2 l1 l2)
  (hz:IsZip s.heap z TI TO .none) (hTI:IsPair s.heap TI (.ref i1) (.ref i2)) (hTO:IsPair s.heap TO a b) (h1:y8 b1 s.heap i1 l1 0) (h2:y8 b2 s.heap i2 l2 0) (hl1:K5 b1 s.heap l1 xs) (hl2:K5 b2 s.heap l2 ys)
  (I:Inv X π σ H s) (hf:∀c∈[z,TO,i1,i2],bX X π H c) (hq:pB κ X.K (~~~s) l (upd H (~~~s)<|.ext<|NDi κ (~~~s) []) QH)
  (q:∀H' s',Inv X π σ H' s'->QH H'->Q (.ref (~~~s)) s') :
  Re (model X.prog X.w) A (call (.type "dict") [.ref z]) Q E s:=by
 refine callType_codes (Q₁:=λobj h=>obj = .ref (~~~s)/\h={ s with heap:=s.heap.push { cls:=.type "dict",data:=.dict #[] } }) PySem.F.kt_called_dict (PySem.F.kt_typeCall_dict_1 _) PySem.F.entry_dict_init (kt_code_dict_new _ #v[rfl,rfl]) ?_;rintro obj h ⟨rfl,rfl⟩;have i:(s.heap.push { cls:=.type "dict",data:=.dict #[] }).get? (~~~s)=some { cls:=.type "dict",data:=.dict #[] }:=ou _ rfl;have w:QO.TypeIs { s with heap:=s.heap.push { cls:=.type "dict",data:=.dict #[] } } (.ref (~~~s)) "dict":=#v[_,i,rfl];refine#v[w,PySem.F.args_dict_init_2 _ _,?_];have B:∀b o,s.heap.get? b=some o->(s.heap.push { cls:=.type "dict",data:=.dict #[] }).get? b=some o:=λb o e=>jM _ e
 have m:=B _ _ hz;refine iD<|iD<|Px w<|iO<|iD<|Nq #v[_,m,rfl] ?_;rw[nY<|by decide];refine iD (Eh m hh λx n g=>?_);rw[nY<|by rfl];refine iD<|JV ?_;have t:=g _ _ m;refine iD<|wpAny_pyIter_zip t ?_;have all:=λb o e=>g b o<|B b o e
 refine iO #v[KS Q2 _,?_];have J:Inv X π σ (upd H (~~~s)<|.ext<|NDi κ (~~~s) []) { s with heap:=s.heap.push { cls:=.type "dict",data:=.dict #[] } } :=
  I.laid (λ_ _ q=>jM _ q) (qD _) (by have d:=oh (κ:=κ) I;rw[dH κ X.prog X.w]at d ⊢;exact d.obj)
 refine BQ (A:=A.in1) hh (by lia) hdp hn hxy D L l 0 _ _ { s with heap:=x,toks:=n } _ (by simpa using hlen) (λj p e=>by simpa using hl j p e) (.inl #v[t,a,b,all _ _ hTO]) (all _ _ hTI) (h1.at λo e=>all _ o e) (h2.at λo e=>all _ o e) (hl1.at λo e=>all _ o e) (hl2.at λo e=>all _ o e) (J.kept g) (λc k=>?_) #v[_,_,_,g _ _ i,rfl,rfl] hq λH' s' K z=>#v[rfl,q H' s' K z]
 let(F,C):=hf c k;refine#v[?_,C];rw[h7 ?_]
 .exact F
 .have y:c<( ~~~s):=by
   rcases oZ.1 k with rfl | k
   .exact L.a
   rcases oZ.1 k with rfl | k
   .exact L.c
   rcases oZ.1 k with rfl | k
   .exact L.d
   .rw[xp.1 k];exact L.e
  exact uu y
end
end L3
namespace L3
open PySem PySem.Spec PyProof.Rows L2
section
variable {K:Qf}
def yF (K:Qf)(H:Hp):List (CD×CD)->List (V×V)->Prop
 | [],ps=>ps=[]
 | d::ds,ps=>∃y v r,ps=(y,v)::r/\c6 K H d.1 y/\c6 K H d.2 v/\yF K H ds r
theorem yF.same (s:i5 H H'):∀{ds} {ps},yF K H ds ps->yF K H' ds ps
 | [],_,h=>h
 | _::_,_,#v[y,v,r,e,h1,h2,h3]=>#v[y,v,r,e,h1.same s,h2.same s,h3.same s]
def zG :∀ds ps d3 xs H,H p=some (.ext<|NDi (m8 c) p xs)->KVs K W c d3 xs->yF K W ds ps->(ds.all λd=>(N5 c d.1).isSome)=true ->
  (∀H',(∀b,b≠p->H' b=H b)->∀b ys,SqT K W b ys->SqT K H' b ys)->xs.length+ds.length<=1000 ->
  (∀H' xs',(∀b,b≠p->H' b=H b)->H' p=some (.ext<|NDi (m8 c) p xs')->KVs K W c (ds.foldl (λd kv=>G2 c d kv.1 kv.2) d3) xs'->Q H')->pB (m8 c) K p ps H Q
 | [],ps,d3,xs,H,hp,hk,hr,ha,up,hl,q=>by
  cases hr;exact q H xs (λ_ _=>rfl) hp hk
 | d::ds,ps,d3,xs,H,hp,hk,#v[y,v,r,e,h1,h2,h3],ha,up,hl,q=>by
  subst e;rw[List.all_cons,Jz]at ha;let(k,h):=Cc.1 ha.1;let(b,rfl,j):=jL h h1;have a:=up H λ_ _=>rfl
  rw[qN]at hl;refine#v[_,#v[xs,k,b,hp,λx i=>(m8 c).keeps (cG hk x i) a,rfl,(m8 c).keeps j a,xr (show xs.length<=1000 by lia) (by rw[xD];decide),rfl],?_];refine zG ds r (G2 c d3 d.1 d.2) (jH xs k b v) _ i3 (Dt hk h h1 h2) h3 ha.2 (λH' g=>up H' λc f=>by rw[g c f,h7 f]) (by have:=ky xs k b v;lia) λH' xs' n m l=>q H' xs' (λc f=>by rw[n c f,h7 f]) m l
end
end L3
namespace L3
open PySem PySem.Spec PyProof.Rows L2 PySem.W
def LI (b:Bool)(c:Nat)(K:Qf)(tl:TA):TE:=λk H Q=>tl k H λl d=>∃i g,l=[.ref i,.ref g]/\∃a e,SqA b K d i a/\SqL K d g e/\a.length=e.length/\a.length<=1000 /\
 ∀p,d p=none->(∃h,NDi (m8 c) p [] h)->pB (m8 c) K p (a.zip e) (upd d p<|.ext<|NDi (m8 c) p []) λj=>(∀f,j p=some (.ext f)->∃h,f h)->Q (.ref p) j
section
variable {K:Qf}
theorem rH :∀{xs ys} {vs ws},b9 K W xs vs->b9 K W ys ws->yF K W (xs.zip ys) (vs.zip ws)
 | [],_,vs,_,h,_=>by
  subst (by simpa only[b9] using h);rfl
 | x::xs,[],vs,ws,h,a=>by
  subst (by simpa only[b9] using a);rw[List.zip_nil_right,List.zip_nil_right];rfl
 | x::xs,y::ys,vs,ws,h,a=>by simp only[b9]at h a;let(v,e,rfl,d,c):=h;let(w,wr,rfl,b,b2):=a;exact#v[v,w,_,rfl,d,b,rH c b2]
noncomputable def FG (k:Bool)(i c:Nat)(a b:DE->M CD):DE->M Out:=λE F=>(a E F).bind λp=>(b E p.2).bind λr=>match Dr k p.1,r.1 with
 | some xs,.list ys=>if i<E.length/\xs.length=ys.length/\xs.length<=1000/\((xs.zip ys).all λd=>(N5 c d.1).isSome)=true then some (.nx<|E.set i<|some<|.dic true c<|(xs.zip ys).foldl (λd kv=>G2 c d kv.1 kv.2) [],r.2) else none
 | _,_=>none
def Ag (b) (i c)(hN:X.N.Nodup)(hu:X.A.units+11<Rl)(h1:Ev K X e1 te1 m1)(h2:Ev K X e2 te2 m2)(hc:X.calm=true)(hm:X.mg "zip" = none)(hm2:X.mg "dict" = none)(h9:autoParam (c≠9) gC)(hi:‹X.N[i]? = some x›)(hx:autoParam (Loc X.env.scope x) gV)(hK:‹X.K=K›)(hg:‹Gl X "zip"›)(hg2:‹Gl X "dict"›)
  (hsw:‹Rg (.Call (.Name "dict" p) [.Call (.Name "zip" p2) [e1,e2] [] pos2] [] p3) (some<|.Name x pos') pos.line X.env=pure false›) (hf:autoParam (X.fn x=true\/X.env.scope.names.lookup x=some .local) gV)
  (hs:‹QY [e1,e2] X.env=(false,eval e1 X.env)::QY [e2] X.env›) (hs2:‹QY [e2] X.env=[(false,eval e2 X.env)]›) (hp:‹(Rb pos2<|QY [e2] X.env).any (·.1)=false›)
  (hs3:‹QY [.Call (.Name "zip" p2) [e1,e2] [] pos2] X.env=[(false,eval (.Call (.Name "zip" p2) [e1,e2] [] pos2) X.env)]›) (hp2:‹(Rb p3<|QY [] X.env).any (·.1)=false›) :
  Ss K X (.Assign [.Name x pos'] (.Call (.Name "dict" p) [.Call (.Name "zip" p2) [e1,e2] [] pos2] [] p3) pos) (cf (LI b c K<|z9 te1<|z9 te2 T7)<|Q9 i) (FG b i c m1 m2) :=
 #v[L6 hN hi hx ((by
  subst hK;refine λg s σ H Q I h=>Call_<|Z2 I hg2 hm2 boot_dict<|Fw ?_ hs3 hp2;rw[hs3];show Re _ _ (spliced ((false,eval (.Call (.Name "zip" p2) [e1,e2] [] pos2) X.env)::[])) _ _ s;refine Jg<|Call_ (Z2 I hg hm boot_zip<|Fw (thn ((r8 h1.pe (r8 h2.pe A3 hs2) hs) pos2 g s σ H _ I h) λus s1 #v[vs,H1,Y,C,q1]=>?_) hs hp);let(a1,a2,e,zs,ws,a8,a7,hl,hz,q):=q1;subst e;cases C with
  | cons r rr =>
   cases rr with
   | cons r' rr =>
    cases rr;cases r;cases r';let(n,ad,p1):=SqA.get (b:=b) Y a8;let(m,ac,k):=SqA.get (b:=true) Y a7;have k:s1.heap.IsList a2 m.toArray:=k;have n1:n.length=zs.length:=pZ ad;have e1:a1<( ~~~s1):=(by
     cases b
     .let(o,z,_):=(show (QO.heap s1).IsTuple a1 (List.toArray n) from p1);exact pz z
     .let(o,z,_):=(show (QO.heap s1).IsList a1 (List.toArray n) from p1);exact pz z)
    have e2:a2<( ~~~s1):=by let(o,z,_):=k;exact pz z
    refine FT p1 k λJ P a5 a4 an am hk=>?_
    have R: ~~~s1<=J.objs.size:=Ir<|xr (QG _ 4)<|pz P;refine NY ?_;have V:Inv X g σ H1 { s1 with heap:=J }:=Y.kept (t':=s1.toks) hk;have fz:∀j,bX X g H1 (~~~s1+j):=λj=>Y.fpOk (QG _ j) (Y.hok.fresh<|QG _ j)
    refine sy (κ:=m8 c) (s:={ s1 with heap:=J }) (b1:=b) (Y.ok.hd hc) hu (wQ c) (by rw[tG,n1];exact Ir<|hV hz) (by rw[tG,tG,n1,pZ ac,hl]) (by rw[QJ,tG,n1,hl];simp) (λj pr e=>?_) (by generalize (~~~s1)=N at e1 e2;exact zf e1 e2) (by exact#v[pz P,pz a5,pz a4,by let(o,z,_):=an.obj;exact pz z,by let(o,z,_):=am.obj;exact pz z,uz e1 R,uz e2 R]) P a5 a4 an am
     (K5.at p1 λo e=>hk _ o e) (show J.IsList a2 m.toArray from by let(o,z,r):=k;exact#v[o,hk _ o z,r]) V (λc hc=>?_) (q _ (Y.hok.fresh R) #v[_,oh V]) λM s3 I3 z=>#v[.ref J.objs.size,M,I3,rfl,z λφ e=>#v[_,(I3.hok _ _ e).1]]
    .let(e1,e2):=EO.1 e;let(u,hu,ru):=ad.get e1;let(v,hv,rv):=ac.get e2;exact#v[u,v,by simpa using hu,by simpa using hv,ru,rv]
    .rcases oZ.1 hc with rfl | hc
     .exact fz 4
     rcases oZ.1 hc with rfl | hc
     .exact fz 3
     rcases oZ.1 hc with rfl | hc
     .exact fz 0
     .rw[xp.1 hc];exact fz 1)) hsw hf,λG B0 H0 E F σ H D r F' S e q=>by
  subst hK;obtain⟨⟨y,F1⟩,e1,e⟩:=bS9 e;obtain⟨⟨z,F2⟩,e2,e⟩:=bS9 e;let(B,s,sn,I):=S.ex;refine h1.ok G B E F σ H _ y F1 I e1 λv H1 k1 f1 C=>h2.ok G B E F1 σ H1 _ z F2 (I.step k1 f1) e2 λu w k2 f2 r2=>?_
  have C:=C.same<|k2.hid I.fB;have V:=(I.step k1 f1).step k2 f2;have S2:=S.step (k1.trans k2) f2;cases hsq:Dr b y with
  | none=>rw[hsq]at e;cases e
  | some O =>
   rw[hsq]at e;cases z with
   | list zs =>
    dsimp only at e;split at e;case isFalse=>cases e
    rename_i hl;let(ba,al,U,bd):=hl;cases e;let(a,A,rfl,ha,T):=(show ∃a A,v = .ref a/\SqA b (Cx.K X) w a A/\b9 (Cx.K X) (hid w B) O A by
     cases b
     .cases y <;> simp only[Dr]at hsq <;> try cases hsq
      simp only[c6]at C;let(a,A,rfl,ha,T):=C;exact#v[a,A,rfl,ha.same d9,T]
     .cases y <;> simp only[Dr]at hsq <;> try cases hsq
      simp only[c6]at C;let(a,A,rfl,ha,T):=C;exact#v[a,A,rfl,SqL.of<|d9 _ _ ha,T])
    simp only[c6]at r2;let(a',a6,rfl,bg,a0):=r2;refine#v[a,a',rfl,A,a6,ha,SqL.of<|d9 _ _ bg,by rwa[T.length,a0.length],by rwa[T.length],λt hn bp=>?_];have a9:=V.bk.nin hn;have sm:i5 (hid w B) (hid (upd w t<|.ext<|NDi (m8 c) t []) (t::B)):=eG hn;refine zG (O.zip zs) _ [] [] _ i3 rfl ((rH T a0).same sm) bd (λH' bi b ys z=>?_) (by rw[Ee,QJ];lia) λM ab g1 g2 g3 ap=>?_
    .exact z.same λb o Z=>by
      rw[bi b (λe=>by subst e;rw[A2 ll]at Z;cases Z) ];exact d9 b o Z
    .have bm:M=upd w t (.ext<|NDi (m8 c) t ab):=by
      funext b;by_cases f:b=t
      .rw[f,g2];exact i3.symm
      .rw[g1 b f,h7 f,h7 f]
     have eh:hid M (t::B)=hid (upd w t<|.ext<|NDi (m8 c) t []) (t::B):=by
      funext b;by_cases f:b∈t::B
      .rw[A2 f,A2 f]
      .rw[j5 f,j5 f,g1 b λe=>f (by rw[e];exact ll)]
     have r:iI X.K B w M (.dic true c<|(O.zip zs).foldl (λd kv=>G2 c d kv.1 kv.2) []) (.ref t):=#v[rfl,t,_,rfl,hn,g2,let #v[_,z]:=ap _ g2;z.n,.inl #v[h9,ab,rfl,by rwa[eh]]];exact q _ _ (S2.putC s sn V (λb o Z f=>by have a3:=k9 Z hn;rw[g1 b a3,h7 a3];exact Z) (by rw[bm];exact V.fd.same (i5.upd hn)) r ba).1
   | _=>cases e]
end
end L3
namespace L3
open PySem PySem.W PySem.Spec PyProof.Rows L2
section
section
variable {K:Frag}
def Lb (i)(hr:Evs K X es tl ms)(hN:‹X.N[i]? = some x›)(hv:autoParam (Vis X.env.scope x) kA)(hd:autoParam (nDb x) gC)
  (hcd:autoParam (nCd x) gC) (hs:‹QY (.Name x p::es) X.env=(false,eval (.Name x p) X.env)::QY es X.env›):Evs K X (.Name x p::es) (z9 (P4 i) tl) (vR i ms) :=
 #v[r8 (A9 hN hv hd hcd) hr.pa hs,λG B E F b H Q n r I e q=>by
  unfold vR at e;split at e
  .rename_i h;obtain⟨⟨c,o⟩,l,e⟩:=bS9 e;cases e;let(v,g,f):=I.loc i _ h;refine#v[v,g,hr.ok G B E F b H _ c _ I l λd m a k j=>q _ m a k #v[v,d,rfl,rfl,f.step a I.fB,j]]
  .cases e]
end
end
end L3
namespace L3
open PySem PySem.W PySem.Spec PyProof.Rows L2
section
def Cw:CD->Option (List CD)
 | .tuple (.list ds::_)=>some ds
 | _=>none
def se (K:Frag):List QN->Hp->Hp->CD->V->Prop:=λB H b d v=>c6 K (hid b B) d v/\∃t a f c,v = .ref t/\H t=none/\b t=some (.tup (.ref a::f))/\H a=none/\b a=some (.lst c)/\∀e,Cw d=some e->c.length=e.length
section
variable {K:Frag}{st:QU}{mt:DE->M Out}

def xG (a:DE->M Out)(b:DE->M CD):DE->M CD:=λE F=>(a E F).bind λp=>match p.1 with
 | .nx E1=>b E1 p.2
 | _=>none
def wI (a:DE->M (List CD))(b:DE->M CD):DE->M CD:=λE F=>(a E F).bind λp=>(b E p.2).bind λq=>some (.tuple [.list p.1,q.1],q.2)
structure SsT (K:Frag) X sts ts (m:DE->M CD):Prop where
 ps:PSs X sts ts
 ok:∀G B0 H0 E F σ H D d F',Sit K G B0 H0 E F σ H->m E F=some (d,F') ->
  (∀v H',Kp (j6 K G) H0 H'->FAt K G H' F'->se K B0 H0 H' d v->D.rt v H')->ts D σ H
def EG {kt pt}(h1:Ef K X e1 t1 m1)(h2:Ev K X e2 t2 m2)
  (hs1:‹QY [e1,e2] X.env=(false,eval e1 X.env)::QY [e2] X.env›) (hs2:‹QY [e2] X.env=(false,eval e2 X.env)::QY [] X.env›) :
  SsT K X [.Return (some<|.Tuple [e1,e2] kt pt) pos] (yQ<|EJ<|z9 t1<|z9 t2 T7) (wI m1 m2):=#v[X7<|bK<|sO<|r8 h1.pe (r8 h2.pe A3 hs2) hs1,λG n H0 E F r H D d F' S e q=>by
 obtain⟨⟨T,N⟩,e1,e⟩:=bS9 e;obtain⟨⟨d2,F2⟩,e2,e⟩:=bS9 e;cases e;let(B,s,sn,I):=S.ex;refine h1.ok G B E F r H _ T N I e1 λa O U A P w Y t=>?_
 have i:=I.bk.nin A;have c:=λz=>i (I.fB a z)
 have l:=I.moreC (dv:=.own T) w Y #v[a,O,rfl,A,P,t];refine h2.ok G (a::B) E N r U _ d2 _ l e2 λy m g R V=>#v[by rw[xD];simp,λp k=>?_]
 have u:Kp (j6 K G) m (upd m p<|.tup [.ref a,y]):=Kp.upd k;have j:=u a _ (g a _ P c) c;have L:=m9 l.bk g R;have f:∀b∈n,b∈a::B:=λb W=>kN _ (s b W)
 have h:=λz=>(L.nin k) (f p z)
 have Q:=λb o z=>C7 f b o (u.hid l.fB b o z)
 refine q _ _ (((S.kp.trans w).trans g).trans u) (R.same<|i5.upd k) #v[c6.tup (by rw[j5 h];exact i3) #v[_,_,rfl,c6.lst (by rwa[j5 (λz=>i (s a z)) ])<|b9.same (b9.same t<|g.hid l.fB) Q,_,_,rfl,c6.same V Q,rfl],p,a,[y],O,rfl,((S.kp.trans w).trans g).none k<|λz=>h<|S.fB p z,i3,S.kp.none A c,j,λZ e=>by cases e;exact t.length]]
def kh (h1:Ss K X st t mt)(h2:SsT K X rest u mu):SsT K X (st::rest) (qZ t u) (xG mt mu):=#v[u9 h1.ps h2.ps,λG g c E F h H D j m S e q=>by
 obtain⟨⟨o,f⟩,i,e⟩:=bS9 e;refine h1.ok G g c E F h H _ o f S i ?_;cases o with
 | nx b=>exact λa l k=>h2.ok G g c b f a l D j m k e q
 | rt d=>cases e
 | bk b=>cases e
 | ct b=>cases e]
def Sit.pub (S:Sit K G B0 H0 E F σ H)(e4:Y1 E i=some ds):Sit K G B0 H0 (E.set i<|some<|.dat<|.list ds) F σ H:=by
 let(B,s,T,I):=S.ex;have y:=aI e4;let(w,J,a,xs,rfl,hB,Y,Q,N):=I.loc i _ y;have Z:=S.own i ds a y J;have o:∀b∈B.filter (λb=>decide (b≠a)),b∈B:=λb e=>(xM.1 e).1
 have n:∀b∈B,b≠a->b∈B.filter (λb=>decide (b≠a)):=λb e L=>xM.2 #v[e,xq L]
 have p:i5 (hid H B) (hid H<|B.filter<|λb=>decide (b≠a)):=C7 o;have get:∀j,j≠i->(E.set i<|some<|.dat<|.list ds)[j]? = E[j]?:=λj l=>by rw[sv<|DO l]
 have g:(E.set i<|some<|.dat<|.list ds)[i]? = some (some<|.dat<|.list ds):=by rw[sP ((pG.1 y).1) ]
 refine#v[#v[_,λb e=>n b (s b e) λz=>Z.2<|z▸e,λb e=>T b<|o b e,#v[I.fd,λb e=>n b (I.fB b e) λz=>Y<|z▸e,λb e=>I.bk b<|o b e,by rw[As];exact I.ln,λj x f=>?_]],S.fB,S.kp,λj u b f=>?_,λj k u fs b f A=>?_,S.dic.set1 nofun]
 .by_cases l:j=i
  .subst l;rw[g]at f;cases f;refine#v[_,J,c6.lst (by rwa[j5 (λe=>absurd rfl<|xO (xM.1 e).2) ])<|N.same p]
  .rw[get j l]at f;let(v,P,h):=I.loc j x f;refine#v[v,P,?_];cases x with
   | dat d=>exact c6.same h p
   | feed=>exact h
   | fn _=>exact h
   | adr _=>exact h
   | fv _ _=>exact#v[h.1,h.2.1,h.2.1 _ _ p h.2.2]
   | rdic _ _ =>let(a9,C,W,V,U):=h;exact#v[a9,C,W,p _ _ V,U.same p]
   | own u =>let(b,D,O,t,r,m,q):=h;subst O;exact#v[b,D,rfl,n b t λz=>l<|S.inj j i u ds a f y (z▸P) J,r,m,q.same p]
   | dic w c ps =>let(b,D,O,t,r,m,L,q):=h;subst O;exact#v[b,D,rfl,n b t λz=>(by rw[z,Q]at m;cases m),r,m,L,q.same p]
 .by_cases l:j=i
  .subst l;rw[g]at f;cases f
  .rw[get j l]at f;exact S.own j u b f
 .by_cases l:j=i
  .subst l;rw[g]at f;cases f
  .by_cases R:k=i
   .subst R;rw[g]at A;cases A
   .rw[get j l]at f;rw[get k R]at A;exact S.inj j k u fs b f A
def vP (i:Nat)(m:DE->M CD):DE->M CD:=λE F=>(Y1 E i).bind λa=>m (E.set i<|some<|.dat<|.list a) F
def Gn (i) (h:SsT K X rest u mu):SsT K X rest u (vP i mu):=#v[h.ps,λG g c E F a H D d f S e q=>by let(j,b,e):=bS9 e;exact h.ok G g c _ F a H D d f (S.pub b) e q]
def Jo (N:List Str)(mf:DE->M CD):List DV->M CD:=λa F=>mf (t9 N a) F
def EW (Fn:Fun K x qual st f fd)(S:FnScope N ps (c7 st))
  (hbody:∀dr A outer s H E,Room k (A.deeper<|envOfC qual (c7 st) (~~~s) f dr) ->
   ∃ts,SsT K (gB CX0 P w K mg base N qual (c7 st) f dr A outer s H E).nox (m4 st) ts mf):FnOk P w K mg base CX0 (k+1) f fd ps (spR K ps.length (se K)<|Jo N mf):=by
 refine Fn.ok S (λc H Q E h=>?_) (λdr A outer s H c Q E g h=>?_)
 .let(G,B,F,a,d,e,hl,_):=h;exact hl
 .let(G,B,F,a,n,e,hl,l,bk,j,i,m,q):=h;let(ts,b):=hbody dr A outer s H E g;exact#v[ts,b.ps,b.ok G B H (t9 N a) F (L2.P2 N c) H _ n e (Z8 l bk j i) m q]
end
end
section
section
variable {K:Frag}
def SitE.drop (I:SitE K G B E F σ H):SitE K G B (E.set i none) F (σ.set i y) H :=
 #v[I.fd,I.fB,I.bk,by rw[As,As];exact I.ln,λj x e=>by
  by_cases a:i=j
  .subst a;by_cases hl:i<E.length
   .rw[sP hl]at e;cases e
   .rw[Ep (by rw[As];lia)]at e;cases e
  .rw[sv a]at e ⊢;exact I.loc j x e]
def ft {α:Type}{E:List (Option α)}{x} (e:(E.set i none)[j]? = some (some x)):i≠j/\E[j]? = some (some x):=by
 by_cases a:i=j
 .subst a;by_cases hl:i<E.length
  .rw[sP hl]at e;cases e
  .rw[Ep (by rw[As];lia)]at e;cases e
 .rw[sv a]at e;exact#v[a,e]
def Sit.drop (S:Sit K G B0 H0 E F σ H):Sit K G B0 H0 (E.set i none) F (σ.set i y) H:=by
 let(B,s,l,I):=S.ex;refine#v[#v[B,s,l,I.drop],S.fB,S.kp,λj g a b e=>?_,λj k g n a b f e h=>?_,S.dic.of λj w c o b=>?_]
 .let(d,b):=ft b;rw[sv d]at e;exact S.own j g a b e
 .let(d,b):=ft b;let(m,f):=ft f;rw[sv d]at e;rw[sv m]at h;exact S.inj j k g n a b f e h
 .let(d,_):=ft b;exact#v[sv d,sv d]
noncomputable def oP (i:Nat)(f:List DV->M CD)(ms:DE->M (List DV))(mc:DE->M Bool)(mb:DE->M Out)(ma:DE->M CD)(mu:DE->M Out):DE->M Out:=λE F=>(ms E F).bind λp=>(f p.1 p.2).bind λq =>
 if i<E.length then(mc (E.set i<|some<|.dat q.1) q.2).bind λr =>
  if r.1=true then(mb (E.set i<|some<|.dat q.1) r.2).bind λz=>match z.1 with
   | .rt d=>some (.rt d,z.2)
   | _=>none
  else(Cw q.1).bind λds=>if ds.length<QX then(ma (E.set i<|some<|.dat q.1) r.2).bind λz=>mu (E.set i none) z.2 else none
 else none
variable {X:Cx}{p4:Pos}
def Iy (i){j9}(hK:X.K=K)(hNd:X.N.Nodup)(C:m7 X.prog X.w X.K X.mg X.base g k ps (spR K n (se K) f))(hr:Room k X.A)(ha:Evs K X (e::es) tl ms)(hn:∀E F args F',ms E F=some (args,F')->args.length=n)
  (hc:Et K X cnd tt mc) (hb:Sss K X thenB tb mb) (hv:Ev K X ea te ma) (hrest:Sss K X rest u mu)
  (hN:‹X.N[i]? = some x›) (hx:autoParam (Loc X.env.scope x) gV) (hvis:autoParam (Vis X.env.scope x) kA) (hf:autoParam (X.fn x=true\/X.env.scope.names.lookup x=some .local) gV)
  (hd:autoParam (nDb x) gC) (hcd:autoParam (nCd x) gC)
  (hg:‹Gl X g›) (hdb:autoParam (nDb g) gC) (he:‹QY (e::es) X.env=(false,eval e X.env)::QY es X.env›) (hpl:‹(Rb p2<|QY es X.env).any (·.1)=false›)
  (hs:‹Rg (.Call (.Name g p1) (e::es) [] p2) (some<|.Name x p3) p4.line X.env=pure false›)
  (hbase:‹Rh (.Subscript (.Name x p6) (.Constant (.int 0) j9 p7) p8) "append" X.env (eval (.Subscript (.Name x p6) (.Constant (.int 0) j9 p7) p8) X.env)=eval (.Subscript (.Name x p6) (.Constant (.int 0) j9 p7) p8) X.env›)
  (hfew:‹((Rb pc<|QY [ea] X.env).all (λx=>!x.1)&&(Rp pc<|Rq [] X.env).all (λx=>x.1.isSome)
   && decide ([ea].length+([]:List Rc).length+(if ([]:List Rc).isEmpty then 0 else 1)<30))=true›)
  (hline:‹(p9.endLine == pc.line)=true›) (hst:‹QY [ea] X.env=(false,eval ea X.env)::QY [] X.env›) (hplain:‹(Rb pc<|QY [] X.env).any (·.1)=false›) (hpi:oQ (.Constant (.int 0) j9 p7):=by intro _ _;rfl)
   (hsA:‹Rg (.Call (.Attribute (.Subscript (.Name x p6) (.Constant (.int 0) j9 p7) p8) "append" p9) [ea] [] pc) none pA.line X.env=pure false›) :
  Sss K X (.Assign [.Name x p3] (.Call (.Name g p1) (e::es) [] p2) p4 :: .If cnd thenB [] p5 :: .Expr (.Call (.Attribute (.Subscript (.Name x p6) (.Constant (.int 0) j9 p7) p8) "append" p9) [ea] [] pc) pA::rest)
   (qZ (cf (eY (spR K n (se K) f) [] E0 tl)<|Q9 i)<|qZ (Ia tt tb Bj)<|qZ (mM<|tBM K "list" iU (tOp (HZ K) (P4 i)<|tC<|.int 0)<|z9 te T7) u) (oP i f ms mc mb ma mu):=by
 subst hK;refine#v[u9 (L6 hNd hN hx (cK C hr hg ha.pa hdb he hpl) hs hf)<|u9 (vp hc.pt hb.ps jg)<|u9 (oO (Bn OV PySem.F.slot_list_append PySem.F.type_list_append cE (Dz zp (A9 hN hvis hd hcd) x9 hpi) (r8 hv.pe A3 hst) hbase hfew hline hst hplain) hsA) hrest.ps,λG B0 H0 E F P H D r F' S c q=>?_];obtain⟨⟨args,F1⟩,e1,c⟩:=bS9 c;obtain⟨⟨d,R⟩,e2,c⟩:=bS9 c;split at c;case isFalse=>cases c
 rename_i hl;obtain⟨⟨b,F3⟩,e3,c⟩:=bS9 c;let(B,s,sn,I):=S.ex;refine ha.ok G B E F P H _ args F1 I e1 λvs H1 W Q h1=>?_
 rw[Am];have m:=m9 I.bk W Q;refine#v[G,B,F1,args,d,R,by rw[h1.length];exact hn _ _ _ _ e1,I.fB,m,Q,h1,e2,λv H2 U f2 r2=>?_];let(an,t,a,ys,p,rfl,Y,ht,J,ap,L):=r2;have I1:=I.step W Q;have S1:=S.step W Q;have I2:=I1.step U f2;have l:=λz=>(m.nin J)<|I.fB a z
 have Z:=λz=>(m.nin Y)<|I.fB t z
 have J2:=I2.set an hl;have S2:=(S1.step U f2).bind s sn J2 λj hj=>by
  by_cases h:i=j
  .subst h;exact absurd (sP hl)<|hj d
  .exact#v[sv h,sv h]
 refine hc.ok G B _ R _ H2 _ b F3 J2 e3 λH3 A f3=>?_
 cases b with
 | true =>
  rw[nY rfl]at c;obtain⟨⟨o,F4⟩,e4,c⟩:=bS9 c;refine hb.ok G B0 H0 _ F3 _ H3 _ o F4 (S2.step A f3) e4 ?_;cases o with
  | rt d'=>cases c;exact q
  | nx E'=>cases c
  | bk E'=>cases c
  | ct E'=>cases c
 | false =>
  rw[oj<|by simp]at c;let(ds,e4,c):=bS9 c;split at c;case isFalse=>cases c
  rename_i am;obtain⟨⟨d5,F5⟩,e5,c⟩:=bS9 c;have O:=A a _ ap l;refine#v[.ref t,by rw[sP (by rw[<-I.ln];exact hl) ],t,.ref a::ys,0,.ref a,rfl,rfl,SqT.of (A t _ ht Z),by unfold atI ixN;simp,.inl #v[rfl,p,SqL.of O],?_];refine hv.ok G B _ F3 _ H3 _ d5 F5 (J2.step A f3) e5 λy H4 k4 f4 h4=>?_
  have N:=k4 a _ O l;refine#v[a,p,y,rfl,rfl,N,by rwa[L ds e4 ],?_];have V:Kp (j6 X.K G) H1 (upd H4 a<|.lst<|p++[y]):=λb o z T=>by
   rw[h7 (λe=>by rw[e,J]at z;cases z) ];exact k4 b o (A b o (U b o z T) T) T
  exact hrest.ok G B0 H0 _ F5 _ _ D r F' ((S1.step V (f4.congr λb hb=>h7 (λe=>hb.elim (λhb=>l<|e▸hb) λ#v[φ,q]=>by rw[e,N]at q;cases q)) ).drop) c q
end
end
section
section
variable {K:Frag}
def IV :oP i f ms mc mb ma mu=mSq (oP i f ms mc mb ma mNx) mu:=by
 funext E F;unfold oP mSq;try dsimp only
 cases ms E F with
 | none=>rfl
 | some p =>
  dsimp only[Option.bind_some];cases f p.1 p.2 with
  | none=>rfl
  | some q =>
   dsimp only[Option.bind_some];split
   .cases mc (E.set i<|some<|.dat q.1) q.2 with
    | none=>rfl
    | some r =>
     dsimp only[Option.bind_some]
     split
     .cases mb (E.set i<|some<|.dat q.1) r.2 with
      | none=>rfl
      | some z =>
       let(o,b):=z
       cases o <;> rfl
     .cases Cw q.1 with
      | none=>rfl
      | some a =>
       dsimp only[Option.bind_some]
       split
       .cases ma (E.set i<|some<|.dat q.1) r.2 with
        | none=>rfl
        | some z=>rfl
       .rfl
   .rfl
def EZ (C:m7 P w K mg base x k ps (spR K n (se K) f)):m7 P w K mg base x k ps (spD K n f):=by
 let(g,p,F,m,kp,b):=C;exact#v[g,p,F.imp λu H Q E h=>(by let(G,B,F,a,d,t,o,l,j,i,e,c,q):=h;exact#v[G,B,F,a,d,t,o,l,j,i,e,c,λv s k f r=>q v s k f r.1]),m,kp,b]
end
end
end L3
namespace L3
open PySem PySem.Spec PyProof.Rows L2

section
section
variable {St:Nat->QW->Prop}
def Hs (bt:Nat->Nat->Bool)(P:Nat->My->Prop)(dv:My)(n:Nat)(v:My):Prop:=(n=0/\v=dv)\/(0<n/\P (argBest bt<|n-1) v)
def Iu (bt:Nat->Nat->Bool)(P:Nat->My->Prop)(i:Nat)(old:Array My):Prop:=(i=0/\old = #[])\/∃j a,i=j+1/\P (argBest bt j) a/\old = #[a,a]
def xH (W:Walks prog w A.in1 I fp wr n P St)(bt) (hcmp:CmpOf prog w A.in1 .Gt P bt)(S) (hSf:S ∉ fp) :
  ∀k i s old c,n-i=k->i<=n->St i s.heap->Iu bt P i old ->
  s.heap.get? S=some { cls:=.type "list",dict:=none,data:=.seq old c,slots:=#[] } ->
  (∀v h' tk,Hs bt P dv n v->(∀b o,b ∉ wr->b≠S->s.heap.get? b=some o->h'.get? b=some o)->R (.ok<|.ret v) { s with heap:=h',toks:=tk }) ->
  codeAny (model prog w) A (.builtin "max.loop" #v[[.ref I,.none,.ref S],[("default",dv)]]) R s:=by
 have D:=λh=>hSf<|W.sub _ h
 have p:(toString "max" ++ toString ".loop") = "max.loop":=by decide
 intro k;induction k with
 | zero =>
  intro i s old c M N r L z E;have y:i=n:=by lia
  refine IS F.entry_max_loop ?_;rw[Im NL _];rcases L with ⟨rfl,rfl⟩ | ⟨j,B,rfl,G,rfl⟩
  .refine iD<|Ej z rfl<|iD (Oe<|W.done s _ _ (y▸r) λh' tk d=>?_);refine iD<|JV<|iO<|E dv h' tk (.inl #v[y.symm,rfl]) λb o a _ e=>d b o a e
  .refine iD<|Ej z rfl<|iD (Oe<|W.done s _ _ (y▸r) λh' tk d=>?_);refine iD<|NU (d S _ D z) rfl<|iD<|Nj<|iO<|E B _ tk (.inr #v[by lia,by rwa[<-y]]) λb o a f e=>(En _ _<|DO f).trans<|d b o a e
 | succ k K =>
  intro i s old c M N r L z E;have t:i<n:=by lia
  refine IS F.entry_max_loop ?_;rw[Im NL _];rcases L with ⟨rfl,rfl⟩ | ⟨j,B,rfl,J,rfl⟩
  .refine iD<|Ej z rfl<|iD (Oe<|W.item 0 s _ _ t r λv h' tk G q d=>?_);have m:=d S _ D z;show Re _ A.in1 (updateSeq S (λ_=>#[v,v]) >>= _) _ _ _;refine iD<|NU m rfl ?_;rw[p];refine iO #v[KS NL _,K 1 _ #[v,v] _ (by lia) t (W.frame _ _ _ q λb C o e=>?_) (.inr #v[0,v,rfl,G,rfl]) (FC _ m rfl) λH x g u l=>?_]
   .exact(En _ _ (λh:S=b=>hSf (by rwa[h]))).trans e
   .exact E H x g u λb o a f e=>l b o a f<|(En _ _<|DO f).trans<|d b o a e
  .refine iD<|Ej z rfl<|iD (Oe<|W.item (j+1) s _ _ t r λv h' tk G q d=>?_);have m:=d S _ D z;show Re _ A.in1 (tryCatch (holding [v,v]<|richCompare .Gt v B >>= _) _ >>= _) _ _ _;refine iD<|Oe<|Ak<|iD<|hcmp (j+1) (argBest bt j) v B _ _ _ G J<|iD<|Ak<|Kl<|iD<|Nj<|iO ?_;cases hb:bt (j+1) (argBest bt j) with
   | true =>
    simp only[Bc];refine iD<|NU m rfl<|iD<|Nj ?_;rw[p];refine iO #v[KS NL _,K (j+2) _ #[v,v] _ (by lia) t (W.frame _ _ _ q λb C o e=>?_) (.inr #v[j+1,v,rfl,by simp only[argBest,hb];exact G,rfl]) (FC _ m rfl)
     λH x g u l=>?_]
    .exact(En _ _ (λh:S=b=>hSf (by rwa[h]))).trans e
    .exact E H x g u λb o a f e=>l b o a f<|(En _ _<|DO f).trans<|d b o a e
   | false =>simp only[yz];refine iD<|Nj ?_;rw[p];refine iO #v[KS NL _,K (j+2) _ #[B,B] c (by lia) t q (.inr #v[j+1,B,rfl,by simp only[argBest,hb];exact J,rfl]) m λH x g u l=>E H x g u λb o a f e=>l b o a f<|d b o a e ]
end
section
variable {s:QO}
def pd {id}(hk:builtinKind id=none)(hp:plainId id=true)
  (hb:entryFor table id=some b) (ha:argsOk id #v[args,kw])
  (hc:Re (model prog w) A.in1 (b #v[args,kw]) (λfin s'=>match fin with
   | .done f=>(match (Except.ok f:Result) with | .ok (.ret v)=>Q v s' | .ok _=>False | .error e=>E e s')
   | .again c'=>c'.quiet=true/\codeAny (model prog w) A c' (λr s'=>match r with | .ok (.ret v)=>Q v s' | .ok _=>False | .error e=>E e s') s') E s) :
  Re (model prog w) A (call (.builtin id) args kw) Q E s:=by
 refine wpAny_call<|codeAny_call_builtin hp hb ?_;simp only[checkBuiltinCall,hk];cases hsig:Manifest.signature? id with
 | none=>exact iO hc
 | some a =>
  simp only[(by simpa only[argsOk,hsig] using ha) ];exact iO hc
def oR (hh:A.handled=none)(hl:s.heap.IsList l (intItems xs))
  (h:∀v h' tk,Hs (λi j=>decide (numAt xs i > numAt xs j)) (λi v=>(intItems xs)[i]? = some v) dv xs.size v->(∀b o,s.heap.get? b=some o->h'.get? b=some o)->Q v { s with heap:=h',toks:=tk }) :
  Re (model prog w) A (call (.builtin "max") [.ref l] [("default",dv)]) Q E s:=by
 have a:(toString "max" ++ toString ".loop") = "max.loop":=by decide
 refine pd F.kind_max F.plain_max F.entry_max ((by kernel_rfl))<|iD<|Pj rfl<|iD<|iO<|iD (iter_intList hl λg e st d c=>?_);subst e;refine iD<|xI ?_;rw[a];have W:=Walks.list (prog:=prog) (w:=w) (A:=A.in1) hh _ l c<|intItems xs;refine iO #v[KS NL _,xH W _ (CmpOf.ints_gt (numAt xs)<|λ_ _=>Pm) _ (λk=>Bl _<|d _ k) _ 0 _ #[] _ rfl (CW _) (W.frame _ _ _ st λb _ o e=>jM _ e) (.inl #v[rfl,rfl]) (ou _ rfl) λv h' tk n m=>h v h' tk (by simpa [intItems] using n) (old_kept λb o f e=>m b o f (uu<|pz e)<|jM _ e) ]
end
section
variable {K:Qf}
def xT (hK:X.K=K)(hc:X.calm=true){σ:St}(I:Inv X π σ H s)(hq:SqL K H a (ns.map V.int))(ry:l4 y u)
  (q:Q (if ns=[] then y else .int (iN ns)) H):Re (model X.prog X.w) X.A (call (.builtin "max") [.ref a] [("default",u)]) (EP X π σ Q) X.xe s:=by
 subst hK;let(b,o,p,M):=I.list hq;have l:b.length=ns.length:=by rw[<-o.length,jI]
 have n:=P5 o;let(c,g):=n.allInts.items;have C:c.size=ns.length:=by
  have:(intItems c).size=b.length:=by rw[<-g];simp
  rw[<-l,<-this];simp[intItems]
 have h:∀(i:Nat) v,b.toArray[i]? = some v->∃t,v = .int (ns.getD i 0) t:=λi v f=>by
  have f:b[i]? = some v:=by simpa using f
  let(n,_):=pG.1 f;have D:(ns.map V.int)[i]? = some (V.int<|ns.getD i 0):=by rw[sq,qK<|by lia];simp[qK<|show i<ns.length by lia]
  let(u,w,B):=o.get D;rw[f]at w;cases w;exact B
 have d:∀i,i<ns.length->numAt c i=ns.getD i 0:=λi n=>by
  have m:i<b.length:=by lia
  let(t,e):=h i b[i] (by simp[m]);have e2:(intItems c)[i]? = some b[i]:=by rw[<-g];simp[m]
  let(L,A):=Pm e2;rw[e]at A;injection A with G _
  exact G.symm
 refine oR (I.ok.hd hc) (g▸p.isList) λv P J f z=>?_
 rcases f with ⟨O,rfl⟩ | ⟨x,f⟩
 .have:ns=[]:=Kf.1 (by lia);rw[nY this]at q;exact#v[y,H,I.kept z,ry,q]
 .have k:ns≠[]:=NM.1 (by lia);rw[oj k]at q;let(N,E):=argBest_gt (numAt c)<|c.size-1;let(t,e):=Pm f;subst e;generalize argBest (λi j=>decide (numAt c i > numAt c j)) (c.size-1)=j at *;have r:j<ns.length:=by lia
  have F:numAt c j=iN ns:=by rw[d j r];refine QK (pf<|getD_mem r) ?_;let(i,n,e):=mem_getD<|kE k;have:=E i (by lia);rw[d i n,d j r]at this;rwa[<-e]
  rw[F];exact#v[.int<|iN ns,H,I.kept z,#v[t,rfl],q]
def iq:List CD->Option CD
 | [.list ds,z]=>(G7 ds).bind λa=>if a=[] then(match z with
  | .int i=>some (.int i)
  | _=>none) else some (.int<|iN a)
 | _=>none
def zm (X:Cx)(r:List V->Hp->VK->Prop):Prop:=∀{π} {s} {a:St} {H} {b} {y} {us} {z} {Q},Inv X π a H s->k8 b us->l4 y z->r (b++[y]) H Q->Re (model X.prog X.w) X.A (call (.builtin "max") us [("default",z)]) (EP X π a Q) X.xe s
def Gj (hK:X.K=K)(hc:X.calm=true):zm X (rDN K iq):=λ{π s A H g y us z Q} I r k h=>by
 let(E,B,t,d,bk,p,c,q):=h;unfold iq at c;split at c <;> try cases c
 rename_i t w;let(m,e,b):=bS9 c;cases B4 e;obtain⟨D,j,f,⟨a,C,rfl,o,n⟩,v⟩:=LL p rfl;cases bY n;obtain⟨rfl,rfl⟩:g=[.ref a]/\y=j:=by
  match g,f with
  | [x],f=>cases f;exact#v[rfl,rfl]
  | x::x2::r,f=>simp at f
 let(u,rfl,l):=C5 r;cases l;refine xT hK hc I (SqL.of<|d9 _ _ o) k ?_;by_cases i:m=[]
 .rw[nY i]at b ⊢;cases w <;> simp at b;subst b;cases v;exact q _ H (i5.refl H) c6.int
 .rw[oj i]at b ⊢;cases b;exact q _ H (i5.refl H) c6.int
def wa (hK:X.K=K)(hc:X.calm=true)(hm:X.mg "max" = none)(ha:Eb K X e te m)(hb:Eb K X e2 te2 m2)(hg:‹Gl X "max"›)(he:‹QY [e] X.env=[(false,eval e X.env)]›)(he2:‹QY [e2] X.env=[(false,eval e2 X.env)]›)(he3:‹QY [e,e2] X.env=(false,eval e X.env)::QY [e2] X.env›) :
  Ev K X (.Call (.Name "max" p) [e] [#v[some "default",e2,kp]] pos) (tCB (rDN K iq)<|z9 te<|z9 te2 T7) (sN iq<|d4 m<|d4 m2 j3) :=
 #v[(by intro π s a H Q I h;refine Np (Z2 I hg hm rfl (callWith_kw (thn ((r8 ha.pe A3 he) pos π s a H (λc b=>te2 a b λy d=>(rDN K iq) (c++[y]) d Q) I h) ?_ ) (by rw[he];rfl) (by rw[he];rfl)) (by decide)<|by decide);rintro us s1 ⟨c,b,l,g,j⟩;refine kws_cons (thn (hb.pe π s1 a b _ l j) λz s2 #v[y,d,k,f,i]=>kws_nil ((Gj hK hc) k g f i) )),CJ (j7 ha (j7 hb m6 he2) he3).ok]
end
end
section
section
variable {K:Qf}
def LF (h:Ef K X e te mf):SsG K X [.Return (some e) pos] (yQ te) mf:=#v[X7<|bK h.pe,λG u t E F f H D n p S m q=>by
 let(B,s,r,I):=S.ex;refine h.ok G B E F f H _ n p I m λa g o d j i l k=>q a g o (S.kp.none d λz=>I.bk.nin d<|I.fB a z) j (S.kp.trans i) l (k.same<|C7 λb c=>?_)
 rcases oZ.1 c with rfl | c
 .exact ll
 .exact kN _<|s b c]
end
end
section
def AllFI (K:Qf):List (Str×QU)->Prop
 | []=>True
 | (x,st)::r=>FI K x st/\AllFI K r
theorem AllFI.get {K}{x}{st}:∀{L} (i:Nat),AllFI K L->L[i]? = some (x,st)->FI K x st
 | [],_,_,e=>nomatch e
 | (_,_)::_,0,h,e=>by cases e;exact h.1
 | (_,_)::_,i+1,h,e=>AllFI.get i h.2 e
def AllNo (K:Qf):List Str->Prop
 | []=>True
 | n::r=>PySem.W.nsIn K Rf n=some none/\AllNo K r
theorem AllNo.get {K}{n}:∀{L},AllNo K L->n∈L->PySem.W.nsIn K Rf n=some none
 | m::r,h,e=>by
  rcases oZ.1 e with rfl | e
  .exact h.1
  .exact AllNo.get h.2 e
def AllNo.mg {K}{mg}(z:AllNo K L)(X:K.In h)(G:h.Ns Rf mg)(e:n∈L):mg n=none:=PySem.W.mg_none_of X G<|z.get e
section
variable {K:Qf}{st:QU}
structure Tp (K:Qf) mg base L:Prop where
 X:∃h,K.In h/\h.Ns Rf mg
 fn:AllFI K L
 bm:BMd base mg
 hd:∀t∈tabsK Feeds.lam K,PySem.W.CodeHd base t.2.1 t.2.2
 nd:decide ((tabP K).Nodup)=true
 hs:((Feeds.lam:List Str).all λx=>(PySem.W.tabIn K x).isSome)=true
abbrev Hy (x:Str)(st:QU)(ps:List Str):Prop:=∀kV a c d b ct us,us.length=ps.length->bindArgs (PySem.W.fnOf x x (U2 st) (m4 st) (c7 st) .none kV a c d b ct) #v[us,[]]=pure (ps.zip us)
def Tp.cal (T:Tp K mg base L)(i:Nat)(e:L[i]? = some (x,st))(ok:∀{f fd},Fun K x x st f fd->FnOk P w K mg base CX0 k f fd ps sp)
  (hb:autoParam (Hy x st ps) qAm):m7 P w K mg base x k ps sp:=by let(h,X,G):=T.X;let(f,fd,a,m,b,_):=(T.fn.get i e).mk X G ps hb;exact#v[f,fd,ok a,m,a.kp,b]
def Tp.calL (T:Tp K mg base L)(i:Nat)(e:L[i]? = some (x,st))(ok:∀{f c P0 fd},Fun K x x st f fd->LamB K mg base x fd c P0->FnOk P w K mg base CX0 k f fd ps sp)(hx:autoParam (x∈(Feeds.lam:List Str)) gC)
  (hb:autoParam (Hy x st ps) qAm):m7 P w K mg base x k ps sp:=by
 let(h,X,G):=T.X;obtain⟨f,fd,g,m,b,⟨_,_,_,l⟩,a⟩:=(T.fn.get i e).mk X G ps hb;let(c,P0,n):=(show ∃c P,LamB K mg base x fd c P by
  obtain⟨⟨c,P⟩,e⟩:=Cc.1<|JG.1 T.hs x hx;have d:(x,c,P)∈tabsK Feeds.lam K:=OA.2 #v[x,hx,by rw[e];rfl];refine#v[c,P,d,?_,T.hd _ d,T.bm,(xO T.nd)];unfold PySem.W.tabIn at e;rw[a]at e;simp only[l]at e;split at e
  .rename_i o j;split at e
   .split at e
    .cases e;exact j
    .cases e
   .cases e
  .cases e)
 exact#v[f,fd,ok g n,m,g.kp,b]
def law_mk (X:K.In h)(G:h.Ns Rf mg)(hfa:mg "law" = some (.ref fa))(F:FI K "law" st)
  (ok:∀base,BMd base mg->(∀t∈tabsK Feeds.lam K,PySem.W.CodeHd base t.2.1 t.2.2)->∀{f fd},Fun K "law" "law" st f fd->FnOk P w K mg base CX0 k f fd [x0] sp)
  (hb:∀kV doc pm an dr ct v,bindArgs (PySem.W.fnOf "law" "law" (U2 st) (m4 st) (c7 st) .none kV doc pm an dr ct) #v[[v],[]]=pure [(x0,v)]:=by intros;rfl) :
  ∃fd,(∀s v,BindsTo s fd #v[[v],[]] [(x0,v)])/\∀base,K.In base->base.Ns Rf mg->BMd base mg->(∀t∈tabsK Feeds.lam K,PySem.W.CodeHd base t.2.1 t.2.2)->FnOk P w K mg base CX0 k fa fd [x0] sp:=by let(f,m,l,kV,doc,pm,an,dr,ct,g,a,b,c,d):=F;cases (hfa.symm.trans<|Oo X G a);exact#v[_,λs v=>.of_eq<|hb kV doc pm an dr ct v,λbase _ _ j i=>ok base j i<|Cn b c d]
end
end
section
section
variable {F:FdS}
def IW {Q:Out->FdS->Prop}{k:DE->M CD}(he:V0 E i=some (true,9,ps))(q:wp (v E F) λx F1=>wp (k E F1) λy F2=>∃n,y = .int n/\ps.length<=1000/\Q (.nx<|E.set i<|some<|.dic true 9<|ipD ps n x) F2):wp (vq i v k E F) Q:=by
 unfold vq;rw[c8];refine i4 q λx F1 h=>?_
 rw[c8];refine i4 h λy F2 h=>?_
 let(n,rfl,hl,h):=h;rw[he,tV];rw[show F0 (.int n)=some n from rfl,tV,nY #v[rfl,rfl,xr hl (by rw[xD];decide)]];exact d8.2 h
def vm {Q:CD->FdS->Prop}{z:DE->M CD}(he:V0 E i=some (w,9,ps))(q:wp (k E F) λy F1=>wp (z E F1) λr F2=>∃n,y = .int n/\Q ((igD ps n).getD r) F2):wp (jn i k z E F) Q:=by
 unfold jn;rw[c8];refine i4 q λy F1 h=>?_
 rw[c8];refine i4 h λr F2 b=>?_
 let(n,rfl,a):=b;rw[he,tV];rw[show F0 (.int n)=some n from rfl,tV,nY rfl];exact d8.2 a
end
abbrev zJ (p:Int×Int):CD×CD:=(.int p.1,.int p.2)
def R0 (ds:List (Int×Int))(n:Int):Option Int:=(ds.find? λp=>decide (p.1=n)).map (·.2)
def uV (ds:List (Int×Int))(n v:Int):List (Int×Int):=if (R0 ds n).isSome then ds.map (λp=>if p.1=n then(p.1,v) else p) else ds++[(n,v)]
theorem vQ (n):∀ds,igD (ds.map zJ) n=(R0 ds n).map .int
 | []=>rfl
 | p::ds=>by
  have a:=vQ n ds;unfold igD R0 at a ⊢;rw[kX];by_cases e:p.1=n
  .rw[yT (by simp[F0,e]),yT<|by simp[e]];rfl
  . rwa[zb (by simp[F0,e]),zb<|by simp[e]]
def KF (ds) (n v):ipD (ds.map zJ) n (.int v)=(uV ds n v).map zJ:=by
 unfold ipD uV;rw[vQ,NF];split
 .rw[sJ,sJ];refine Br λp _=>?_
  show(if F0 (.int p.1)=some n then _ else _)=zJ (if p.1=n then _ else _);by_cases e:p.1=n
  .rw[nY (by rw[e];rfl),nY e]
  .rw[oj (show ¬F0 (.int p.1)=some n from λz=>e<|rn z),oj e]
 .rw[yx];rfl
end
end L3
namespace K43
open PySem L2 L3
section
def top (i:Nat):QU:=PySem.Challenge.pw_hatchwaits_k43_waits_by_work.main.body.getD i<|.Pass #v[0,0,0,0]
abbrev Q0:QU:=top 4
abbrev dJ:QU:=top 5
abbrev R8:QU:=top 8
abbrev T9:QU:=top 9
abbrev fg:QU:=top 10
abbrev aN:QU:=top 11
abbrev fX:QU:=top 12
abbrev nI:QU:=top 15
abbrev gg:QU:=top 16
abbrev fG:QU:=top 18
abbrev U8:QU:=top 19
abbrev eI:QU:=top 20
abbrev fQ:QU:=top 21
abbrev nq:QU:=top 22
abbrev N7:QU:=top 25
abbrev dU:QU:=top 26
abbrev W3:QU:=top 28
abbrev ib:QU:=top 30
abbrev iA:QU:=top 31
abbrev dY:QU:=top 32
abbrev aK:QU:=top 33
abbrev O3:QU:=top 34
abbrev Y4:QU:=top 35
abbrev W9:QU:=top 36
abbrev Q8:QU:=top 37
abbrev J4:QU:=top 38
abbrev V1:QU:=top 39
abbrev G5:QU:=top 40
def funsL:List (Str×QU):=[("common_divisor",Q0),("fraction",dJ),("common_bottom",R8),("weights_of",T9),("check_many",aN),("spread",fX),("keeps",nI),("in_hand",gg),("let_in",fG),("lined_up",U8),("picked",eI),("worked",fQ),("step",nq),("beats_waited",N7),("wait_row",dU),("led_on",fg),("row_at",W3),("_law_feed",ib),("_law_draw",iA),("_law_low",dY),("_law_house",aK),("_law_some_stand",O3),("_law_lots",Y4),("_law_row",W9),("_law_free",Q8),("_law_due",J4),("_law_far",V1),("law",G5)]
structure Txt K mg base:Prop where
 tp:Tp K mg base funsL
 abs:mg "abs" = none
 dict:mg "dict" = none
 enumerate:mg "enumerate" = none
 int:mg "int" = none
 len:mg "len" = none
 list:mg "list" = none
 max:mg "max" = none
 min:mg "min" = none
 range:mg "range" = none
 repr:mg "repr" = none
 sorted:mg "sorted" = none
 sum:mg "sum" = none
 tuple:mg "tuple" = none
 zip:mg "zip" = none
 g_KEEPING:GD K mg "KEEPING" (.tuple [.str "first",.str "last",.str "short",.str "front"])
 g_NEWCOMER:GD K mg "NEWCOMER" (.tuple [.int 0,.int 1])
 gi_MOST_AT_A_MOMENT:GI mg "MOST_AT_A_MOMENT" (200)
section

def O0:FnScope ["one","other"] ["one","other"] (c7 Q0):={}
abbrev P7:=D3
def aj (T:Txt K mg base):m7 P w K mg base "common_divisor" 1 ["one","other"] (spD K 2 P7):=T.tp.cal 0 rfl λ{f e} c=>by
 refine E8 c O0 λb A a s H E d=>#v[_,(f8 (nH 0 1 rfl O0.nd<|e8 (l7 (sZ) T.abs uw<|j7 (j8 0) m6)<|e8 (l7 (sZ) T.abs uw<|j7 (j8 1) m6) l3)
   (f8 (pX (A7 md (j8 1)<|Ev.bw i9)<|j4<|nH 0 1 rfl O0.nd<|e8 (i8 1)<|e8 (u6 sS (j8 0)<|j8 1) l3)
   (j4<|x3<|i8 0)))]
def bo:FnScope ["top","bottom","divisor"] ["top","bottom"] (c7 dJ):={}
abbrev V5:=Q1
def dX (T:Txt K mg base):m7 P w K mg base "fraction" 2 ["top","bottom"] (spD K 2 V5):=T.tp.cal 1 rfl λ{f e} d=>by
 refine E8 d bo λc A a s H E b=>#v[_,(f8 (n9 2 bo.nd<|r9 (aj T) b<|m5 (i8 0)<|m5 (i8 1) l0)
   (f8 (Z5 (A7 HF (j8 1)<|Ev.bw i9) (j4<|n9 2 bo.nd<|vH mP<|j8 2) S4)
   (j4<|x3<|y4<|e8 (u6 aS (j8 0)<|j8 2)<|e8 (u6 aS (j8 1)<|j8 2) l3)))]
def D2:FnScope ["row","bottom","thing","share"] ["row"] (c7 R8):={}
def D9:List DV->M CD:=R6 ["row","bottom","thing","share"] (mSq (x6 1<|sC<|.int 1)
  (mSq (Z0 (M4<|sV 0) (D4 2<|i7 (bN 2)<|i7 (bN 3) D6)<|x6 1<|s2 df (s2 Y2 (sW 1)<|s2 ixD (sW 3)<|sC<|.int 1)<|l6 P7<|vD (sV 1)<|vD (s2 ixD (sW 3)<|sC<|.int 1) u8)
  (mRt<|sV 1)))
def bb (T:Txt K mg base):m7 P w K mg base "common_bottom" 2 ["row"] (spD K 1 D9):=T.tp.cal 2 rfl λ{f e} d=>by
 refine E8 d D2 λc A a s H E b=>#v[_,(f8 (n9 1 D2.nd i9)
   (f8 (K4 rfl (bu<|i8 0) (w6 rfl<|f7 (C3 D2.nd)<|f7 (C3 D2.nd) n0)<|j4<|n9 1 D2.nd<|u6 aS (Ev.bw<|u6 (Y6 rfl) (j8 1)<|Ev.bw<|E9 3)<|Ev.bw<|r9 (aj T) b<|m5 (i8 1)<|m5 (E9 3) l0)
   (j4<|x3<|i8 1)))]
def dc:FnScope ["row","bottom"] ["row"] (c7 T9):={}
def O4:List DV->M CD:=R6 ["row","bottom"] (mSq (x6 1<|l6 D9<|vD (sV 0) u8)
  (mRt<|sLC (M4<|sW 0) 3 [1] (D4 2<|i7 (bN 0)<|i7 (D4 2<|i7 (bN 1)<|i7 (bN 2) D6) D6) R9<|s2 Y2 (sW 1)<|s2 df (sW 3)<|sW 2))
def eZ (T:Txt K mg base):m7 P w K mg base "weights_of" 3 ["row"] (spD K 1 O4):=T.tp.cal 3 rfl λ{f e} d=>by
 refine E8 d dc λc A a s H E b=>#v[_,(f8 (n9 1 dc.nd<|r9 (bb T) b<|m5 (i8 0) l0)
   (j4<|x3<|aa (c7 T9) ["thing","top","below","bottom"] (C6<|j8 0) (w6 rfl<|f7 (J7)<|f7 (w6 rfl<|f7 (J7)<|f7 (J7) n0) n0) G4<|u6 (Y6 rfl) (j8 1)<|Ev.bw<|u6 aS (j8 3)<|j8 2))]
def T6:List DV->M CD:=R6 ["weights"]<|mIf (uB<|s2 gtD (Hz 0)<|sC<|.int<|200) HD mNx
def oE (T:Txt K mg base):m7 P w K mg base "check_many" 1 ["weights"] (spD K 1 T6):=T.tp.cal 4 rfl λ{f e} c=>by
 refine E8 c ({}) λb A a s H E d=>#v[_,(j4<|Z5 (A7 md (Ev.bw<|Gu 0 T.len)<|Ev.bw<|Mo T.gi_MOST_AT_A_MOMENT) (j4 EB) S4)]
def cA:FnScope ["pairs","bottom","weights","number","weight"] ["pairs","bottom"] (c7 fX):={}
def ck:List DV->M (List CD):=JI ["pairs","bottom","weights","number","weight"] (gSq (cZ 2 9)
  (gSq (Z0 (M4<|sV 0) (D4 2<|i7 (bN 3)<|i7 (bN 4) D6)<|vq 2 (s2 N4 (jn 2 (sV 3)<|sC<|.int 0)<|sW 4)<|sV 3)
  (fLC (aZ<|d4 (s2 N4 (sN iq<|d4 (ie 2 9)<|d4 (s1 tw<|sC<|.int 1) j3)<|sC<|.int 1) j3) 1 [1,2] (bN 0) R9<|l6 V5<|vD (jn 2 (sV 0)<|sC<|.int 0)<|vD (sV 1) u8)))
def yc (T:Txt K mg base):m7 P w K mg base "spread" 3 ["pairs","bottom"] (spG K 2 ck):=T.tp.cal 5 rfl λ{f g} e=>by
 refine Fs e cA λd A a s H E c=>?_
 have b:(A.deeper<|PyProof.Rows.envOfC "spread" (c7 fX) (~~~s) f d).units+65<Rl:=by have:=c.un;lia
 exact#v[_,(wF (FX 2 cA.nd)
   (wF (K4 rfl (bu<|i8 0) (w6 rfl<|f7 (C3 cA.nd)<|f7 (C3 cA.nd) n0)<|j4<|FN 2 (xr (Dy (by decide) _) b) (u6 (C4 rfl) (Ev.bw<|qO 2 (i8 3) i9 rfl #v[rfl,rfl,rfl,rfl])<|j8 4) (i8 3) rfl)
   (LF<|LV (c7 fX) ["k","bottom","weights"] (Ei.bw<|Y5 (e8 (u6 (C4 rfl) (Ev.bw<|wa rfl rfl T.max (Ev.bw<|AU 2 c.hd T.list (hv:=eJ))<|Ev.bw<|vH mP<|Ev.bw i9)<|Ev.bw i9) l3) T.range) (J7) G4<|r9 (dX T) c<|m5 (qO 2 (i8 0) i9 rfl #v[rfl,rfl,rfl,rfl])<|m5 (i8 1) l0)))]
abbrev ET:=fb
def wA (T:Txt K mg base):m7 P w K mg base "keeps" 1 ["rule"] (spD K 1 ET):=T.tp.cal 6 rfl λ{f g} e=>by
 refine E8 e ({}) λc A a s H E d=>?_
 have b:(A.deeper<|PyProof.Rows.envOfC "keeps" (c7 nI) (~~~s) f c).units+65<Rl:=by have:=d.un;lia
 exact#v[_,(j4<|x3<|jq (pk rfl b) (j8 0)<|Ev.bw<|LC T.g_KEEPING)]
abbrev gy:=cB
def xt (T:Txt K mg base):m7 P w K mg base "in_hand" 1 ["house","stand"] (spD K 2 gy):=T.tp.cal 7 rfl λ{f e} c=>by
 refine E8 c ({}) λb A a s H E d=>#v[_,(j4<|x3<|l7 (sQ rfl rfl) T.min oD<|j7 (Ev.bw<|E9 0)<|j7 (Ev.bw<|l7 (aV rfl) T.len aU<|j7 (j8 1) m6) m6)]
def cw:FnScope ["house","stand","beat","places","room","entered"] ["house","stand","beat"] (c7 fG):={}
abbrev kC:=bL
def rE (T:Txt K mg base):m7 P w K mg base "let_in" 1 ["house","stand","beat"] (spD K 3 kC):=T.tp.cal 8 rfl λ{f e} c=>by
 refine E8 c cw λb A a s H E d=>#v[_,(f8 (n9 3 cw.nd<|E9 0)
   (f8 (n9 4 cw.nd<|HL (A7 Hx (j8 3)<|Ev.bw dO) (l7 (aV rfl) T.len aU<|j7 (j8 2) m6)<|u6 kn (j8 3)<|Ev.bw<|l7 (aV rfl) T.len aU<|j7 (j8 1) m6)
   (f8 (fy 5 (hN:=cw.nd) (c7 fG) ["rank","work"] (C6<|Ev.bw<|kG (j8 2) qB<|zL<|i8 4) (w6 rfl<|f7 (J7)<|f7 (J7) n0) G4<|y4<|e8 (i8 0)<|e8 (i8 1)<|e8 DD l3)
   (j4<|x3<|y4<|e8 (u6 (C4 rfl) (j8 1)<|Ev.bw<|K8 (R4 rfl) T.tuple Q5<|j7 (j8 5) m6)<|e8 (u6 kn (Ev.bw<|l7 (aV rfl) T.len aU<|j7 (j8 2) m6)<|Ev.bw<|l7 (aV rfl) T.len aU<|j7 (j8 5) m6) l3))))]
def il:FnScope ["rule","stand","places"] ["rule","stand"] (c7 U8):={}
abbrev sG:=az
def tL (T:Txt K mg base):m7 P w K mg base "lined_up" 1 ["rule","stand"] (spD K 2 sG):=T.tp.calL 9 rfl λ{f c m l} k h=>by
 refine iY k il λg A b s H E e d=>?_
 obtain rfl:=e.symm.trans h.code;have a:(A.deeper<|PyProof.Rows.envOfC "lined_up" (c7 U8) (~~~s) f<|.ref c).units+65<Rl:=by have:=d.un;lia
 exact#v[_,(f8 (n9 2 il.nd<|Cb (e8 (l7 (aV rfl) T.len aU<|j7 (j8 1) m6) l3) rfl T.range T.list eJ)
   (f8 (Z5 (A7 (pk rfl a) (j8 0)<|Ev.bw<|nG (.tuple [.str "last",.str "lastoff"]) rfl) (j4<|x3<|IZ<|j8 2) S4)
   (f8 (Z5 (A7 (pk rfl a) (j8 0)<|Ev.bw<|nG (.tuple [.str "short",.str "shortoff"]) rfl) (j4<|x3<|vM (osc:=(c7 U8)) (N:=["place","stand"]) h rfl T.sorted d rfl (e8 (i8 2) l3) rfl #v[rfl,rfl,rfl,by decide +kernel,rfl,rfl,by decide +kernel,rfl,rfl,by decide +kernel] rfl rfl<|λi f j Y s H=>(bZ (bz rfl) (Ev.bw<|bZ (bz rfl) (j8 1)<|j8 0)<|Ev.bw i9)) S4)
   (f8 (Z5 (A7 (pk rfl a) (j8 0)<|Ev.bw<|nG (.tuple [.str "front",.str "frontoff"]) rfl) (j4<|x3<|vM (osc:=(c7 U8)) (N:=["place","stand"]) h rfl T.sorted d rfl (e8 (i8 2) l3) rfl #v[rfl,rfl,rfl,by decide +kernel,rfl,rfl,by decide +kernel,rfl,rfl,by decide +kernel] rfl rfl<|λi f j Y s H=>(bZ (bz rfl) (Ev.bw<|bZ (bz rfl) (j8 1)<|j8 0)<|Ev.bw i9)) S4)
   (j4<|x3<|i8 2)))))]
def U6:FnScope ["house","stand","hands","places","rule","order"] ["house","stand"] (c7 eI):={}
abbrev BB:=fx
def zH (T:Txt K mg base):m7 P w K mg base "picked" 2 ["house","stand"] (spD K 2 BB):=T.tp.calL 10 rfl λ{f c m j} h g=>by
 refine iY h U6 λe A a s H E d b=>?_
 obtain rfl:=d.symm.trans g.code;exact#v[_,(f8 (fZ (i8 0)<|w6 rfl<|f7 (C3 U6.nd)<|f7 (C3 U6.nd)<|f7 (C3 U6.nd) n0)
   (f8 (n9 5 U6.nd<|r9 (tL T) b<|m5 (i8 4)<|m5 (i8 1) l0)
   (f8 (Z5 (ur<|Ev.bw<|r9 (wA T) b<|m5 (i8 4) l0) (j4<|n9 5 U6.nd<|vM (osc:=(c7 eI)) (N:=["place","stand"]) g rfl T.sorted b rfl (e8 (i8 5) l3) rfl #v[rfl,rfl,rfl,by decide +kernel,rfl,rfl,by decide +kernel,rfl,rfl,by decide +kernel] rfl rfl<|λk f l Y s H=>(BO<|bZ (bz rfl) (Ev.bw<|bZ (bz rfl) (j8 1)<|j8 0)<|Ev.bw i9)) S4)
   (j4<|x3<|K8 (R4 rfl) T.tuple Q5<|j7 (Ev.bw<|l7 (hU rfl) T.sorted U4<|j7 (Ev.bw<|kG (j8 5) qB<|zL<|i8 2) m6) m6))))]
def E7:FnScope ["house","stand","rule","hands_on","waiting","served","gone","place","rank","left","begun","staying"] ["house","stand"] (c7 fQ):={}
abbrev AK:=fj
def zg (T:Txt K mg base):m7 P w K mg base "worked" 3 ["house","stand"] (spD K 2 AK):=T.tp.cal 11 rfl λ{f g} e=>by
 refine E8 e E7 λd A b s H E a=>?_
 have c:(A.deeper<|PyProof.Rows.envOfC "worked" (c7 fQ) (~~~s) f d).units+65<Rl:=by have:=a.un;lia
 exact#v[_,(f8 (n9 2 E7.nd<|E9 0)
   (f8 (n9 3 E7.nd<|r9 (zH T) a<|m5 (i8 0)<|m5 (i8 1) l0)
   (f8 (fy 4 (hN:=E7.nd) (c7 fQ) ["place","person","hands_on"] (BZ (j8 1) T.enumerate) (w6 rfl<|f7 (J7)<|f7 (J7) n0) (fY<|A7 (Bs rfl c) (j8 0)<|j8 2)<|y4<|e8 (i8 0)<|e8 (i8 1) l3)
   (f8 (xj 5 6 rfl E7.nd (Ki<|jS l3)<|Ki<|jS l3)
   (f8 (K4 rfl (bu<|i8 3) (C3 E7.nd) (f8 (fZ (bZ (bz rfl) (j8 1)<|j8 7)<|w6 rfl<|f7 (C3 E7.nd)<|f7 (C3 E7.nd)<|f7 (C3 E7.nd) n0)
   (j4<|Z5 (A7 md (j8 9)<|Ev.bw i9) (j4<|jY 5 rfl<|y4<|e8 (i8 7)<|e8 (y4<|e8 (i8 8)<|e8 (u6 kn (j8 9)<|Ev.bw i9)<|e8 (r9 (wA T) a<|m5 (i8 2) l0) l3) l3)<|j4<|jY 6 rfl<|i8 7)))
   (f8 (n9 11 E7.nd<|HL (A7 (lS rfl a.units) (j8 2)<|Ev.bw uW) (u6 (C4 rfl) (j8 4)<|j8 5)<|l7 (hU rfl) T.sorted U4<|j7 (Ev.bw<|u6 (C4 rfl) (j8 4)<|j8 5) m6)
   (j4<|x3<|y4<|e8 (i8 11)<|e8 (i8 3)<|e8 (K8 (R4 rfl) T.tuple Q5<|j7 (j8 6) m6) l3)))))))]
def cn:FnScope ["house","stand","beat","filled","lost","staying","hands_on","gone"] ["house","stand","beat"] (c7 nq):={}
abbrev mR:=og
def IP (T:Txt K mg base):m7 P w K mg base "step" 4 ["house","stand","beat"] (spD K 3 mR):=T.tp.cal 12 rfl λ{f e} d=>by
 refine E8 d cn λc A a s H E b=>#v[_,(f8 (fZ (r9 (rE T) b<|m5 (i8 0)<|m5 (i8 1)<|m5 (i8 2) l0)<|w6 rfl<|f7 (C3 cn.nd)<|f7 (C3 cn.nd) n0)
   (f8 (fZ (r9 (zg T) b<|m5 (i8 0)<|m5 (i8 3) l0)<|w6 rfl<|f7 (C3 cn.nd)<|f7 (C3 cn.nd)<|f7 (C3 cn.nd) n0)
   (j4<|x3<|y4<|e8 (K8 (R4 rfl) T.tuple Q5<|j7 (Ev.bw<|aa (c7 nq) ["place","person"] (C6<|j8 5) (w6 rfl<|f7 (J7)<|f7 (J7) n0) G4<|i8 1) m6)<|e8 (i8 4)<|e8 (i8 7) l3)))]
def B1:FnScope ["house","stand","free","rank","left","begun"] ["house","stand"] (c7 N7):={}
def O2:List DV->M CD:=R6 ["house","stand","free","rank","left","begun"] (mSq (x6 2<|s2 Y2 (sC<|.list [.int 0])<|l6 gy<|vD (sV 0)<|vD (sV 1) u8)
  (mSq (Z0 (M4<|sSK (d4 (kY (sW 1) oNo<|oI<|s1 tw<|sC<|.int 1) j3) []<|yE<|s2 ixD (sW 0)<|sC<|.int 2) (D4 3<|i7 (bN 3)<|i7 (bN 4)<|i7 (bN 5) D6)<|x6 2<|sN bc<|d4 (s2 N4 (FO<|d4 (s2 N4 (s2 ixD (sW 2)<|sC<|.int 0)<|sW 4) j3)<|kY (sW 2) (oI<|sC<|.int 1) oNo) j3)
  (mRt<|s2 ixD (sW 2)<|sC<|.int 0)))
def jF (T:Txt K mg base):m7 P w K mg base "beats_waited" 2 ["house","stand"] (spD K 2 O2):=T.tp.calL 13 rfl λ{f c m j} h g=>by
 refine iY h B1 λd A a s H E b e=>?_
 obtain rfl:=b.symm.trans g.code;exact#v[_,(f8 (n9 2 B1.nd<|u6 (Y6 rfl) (Ev.bw<|nG (.list [.int 0]) rfl)<|Ev.bw<|r9 (xt T) e<|m5 (i8 0)<|m5 (i8 1) l0)
   (f8 (K4 rfl (bu<|vM (osc:=(c7 N7)) (N:=["person"]) g rfl T.sorted e rfl (e8 (kG (j8 1) qB<|zL<|vH mP<|Ev.bw i9) l3) rfl #v[rfl,rfl,rfl,by decide +kernel,rfl,rfl,by decide +kernel,rfl,rfl,by decide +kernel] rfl rfl<|λk f l Y s H=>(BO<|E9 0)) (w6 rfl<|f7 (C3 B1.nd)<|f7 (C3 B1.nd)<|f7 (C3 B1.nd) n0)<|j4<|n9 2 B1.nd<|l7 (hU rfl) T.sorted U4<|j7 (Ev.bw<|u6 (C4 rfl) (Ev.bw<|Js<|e8 (u6 (C4 rfl) (Ev.bw<|E9 2)<|j8 4) l3)<|Ev.bw<|kG (j8 2) (zL i9) qB) m6)
   (j4<|x3<|E9 2)))]
def B7:FnScope ["house","row","bottom","lost","pairs","stand","share","weight","filled","turned_away"] ["house","row"] (c7 dU):={}
def V4:List DV->M CD:=Jo ["house","row","bottom","lost","pairs","stand","share","weight","filled","turned_away"] (xG (x6 2<|l6 D9<|vD (sV 1) u8)
  (xG (qE 3 4 (cD<|sC<|.int 0)<|cO<|oF j3)
  (xG (Z0 (oG (sV 1)<|l6 O4<|vD (sV 1) u8) (D4 2<|i7 (D4 2<|i7 (bN 5)<|i7 (bN 6) D6)<|i7 (bN 7) D6) (mSq (oV (D4 2<|i7 (bN 8)<|i7 (bN 9) D6)<|l6 kC<|vD (sV 0)<|vD (sV 5)<|vD (K0<|d4 (sC<|.tuple [.int 0,.int 1]) j3) u8)
  (mIf (uB<|s2 gtD (sW 9)<|sC<|.int 0) (yL (λi j=>i+j) 3<|sV 7)<|kI 4<|K0<|d4 (l6 O2<|vD (sV 0)<|vD (sV 8) u8)<|d4 (sV 7) j3)))
  (vP 4<|wI (sd ck<|vD (sV 4)<|vD (sV 2) u8)<|l6 V5<|vD (sV 3)<|vD (sV 2) u8))))
def kO (T:Txt K mg base):m7 P w K mg base "wait_row" 4 ["house","row"] (spR K 2 (se K) V4):=T.tp.cal 14 rfl λ{f e} d=>by
 refine EW d B7 λc A b s H E a=>#v[_,(kh (n9 2 B7.nd<|r9 (bb T) a<|m5 (i8 1) l0)
   (kh (xj 3 4 rfl B7.nd (MP i9)<|Ki<|jS l3)
   (kh (K4 rfl (BX (i8 1) (r9 (eZ T) a<|m5 (i8 1) l0) T.zip) (w6 rfl<|f7 (w6 rfl<|f7 (C3 B7.nd)<|f7 (C3 B7.nd) n0)<|f7 (C3 B7.nd) n0) (f8 (fZ (r9 (rE T) a<|m5 (i8 0)<|m5 (i8 5)<|m5 (y4<|e8 (LC T.g_NEWCOMER) l3) l0)<|w6 rfl<|f7 (C3 B7.nd)<|f7 (C3 B7.nd) n0)
   (j4<|Z5 (A7 md (j8 9)<|Ev.bw i9) (j4<|Gi 3 B7.nd<|i8 7)<|j4<|jY 4 rfl<|y4<|e8 (r9 (jF T) a<|m5 (i8 0)<|m5 (i8 8) l0)<|e8 (i8 7) l3)))
   (Gn 4<|EG (Ex (yc T) (a.mono<|by decide) (m5 (i8 4)<|m5 (i8 2) l0)<|rY<|rY gO)<|r9 (dX T) a<|m5 (i8 3)<|m5 (i8 2) l0))))]
def P3:FnScope ["weights","beats","lead","told","thing","weight","beat","lot","following"] ["weights","beats","lead"] (c7 fg):={}
def L1 (f9:QN)(φ9:Hp->Prop)(g9:List CD->M CD):List DV->M DV:=Kj ["weights","beats","lead","told","thing","weight","beat","lot","following"] (cSq (cZ 3 0)
  (cSq (Z0 (fP 0) (D4 2<|i7 (bN 4)<|i7 (bN 5) D6) (Z0 (M4<|sV 1) (D4 2<|i7 (bN 6)<|i7 (bN 7) D6) (mSq (x6 8<|sFv 2 f9 φ9 g9<|d4 (sV 4)<|d4 (sV 6) j3)
  (lV 3 0 (s2 N4 (kM 3 0 (sV 8)<|sC<|.int 0)<|s2 Y2 (sW 5)<|sW 7)<|sV 8))))
  (zi 3)))
def iL (Fn:Fun K "led_on" "led_on" fg f fd)(T:Txt K mg base)     (h9:xZ P w K mg base 5 2 f9 φ9 g9):FnOk P w K mg base CX0 6 f fd ["weights","beats","lead"] (spC K 3<|L1 f9 φ9 g9):=by
 refine Cj Fn P3 λc A b s H E d=>?_
 have a:(A.deeper<|PyProof.Rows.envOfC "led_on" (c7 fg) (~~~s) f c).units+65<Rl:=by have:=d.un;lia
 exact#v[_,(vX (oz 3 0 P3.nd)
   (vX (K4 rfl (yA 0) (w6 rfl<|f7 (C3 P3.nd)<|f7 (C3 P3.nd) n0) (j4 (K4 rfl (bu<|i8 1) (w6 rfl<|f7 (C3 P3.nd)<|f7 (C3 P3.nd) n0) (f8 (n9 8 P3.nd<|La h9 rfl (d.mono<|by decide) (e8 (i8 4)<|e8 (i8 6) l3)<|vg<|vg Ie)
   (j4<|nJ 3 0 (xr (Dy (by decide) _) a) (u6 (C4 rfl) (Ev.bw<|pF 3 0 (xr (Dy (by decide) _) a) (i8 8) i9 rfl #v[rfl,rfl,rfl,rfl])<|Ev.bw<|u6 (Y6 rfl) (j8 5)<|j8 7) (i8 8) rfl)))))
   (JJ 3)))]
def av:FnScope ["house","beats","row","t","weights","turn","bottom"] ["house","beats","row","t"] (c7 W3):={}
def fE:List DV->M CD:=R6 ["house","beats","row","t","weights","turn","bottom"] (mSq (FG true 4 0 (sLC (M4<|sW 2) 2 [] (D4 2<|i7 (bN 0)<|i7 (bN 1) D6) R9<|sV 0)<|l6 O4<|vD (sV 2) u8)
  (mSq (Z0 (aZ<|d4 (sV 3) j3) (bN 5) (mSq (uZ 4<|pW 4<|ub L1 (s2 ixD (l6 mR<|vD (sV 2)<|vD (sV 0)<|vD (sV 1) u8)<|sC<|.int 0) [0]<|vR 4<|vD (sV 1) u8)
  (mDo<|pW 4<|l6 T6<|vR 4 u8)))
  (mSq (x6 6<|wx 4)
  (mRt<|sN M6<|d4 (sLC (M4<|sN aY<|d4 (oJ 4) j3) 2 [6] (D4 2<|i7 (bN 0)<|i7 (bN 1) D6) R9<|K0<|d4 (sV 0)<|d4 (l6 V5<|vD (sV 1)<|vD (sV 2) u8) j3) j3))))
def CN (T:Txt K mg base):m7 P w K mg base "row_at" 7 ["house","beats","row","t"] (spD K 4 fE):=T.tp.calL 16 rfl λ{f c G z} h u=>by
 refine iY h av λr A a s H E o b=>?_
 obtain rfl:=o.symm.trans u.code;have d:(A.deeper<|PyProof.Rows.envOfC "row_at" (c7 W3) (~~~s) f<|.ref c).units+65<Rl:=by have:=b.un;lia
 exact#v[_,(f8 (Ag true 4 0 av.nd (xr (Dy (by decide) _) d) (aa (c7 W3) ["stand","share"] (C6<|j8 2) (w6 rfl<|f7 (J7)<|f7 (J7) n0) G4<|i8 0) (r9 (eZ T) b<|m5 (i8 2) l0) rfl T.zip T.dict)
   (f8 (K4 rfl (Y5 (e8 (i8 3) l3) T.range) (C3 av.nd) (f8 (FA 4 av.nd<|JL 4<|IF (osc:=(c7 W3)) (capN:=["house"]) (lp:=["stand","beat"]) u rfl ((T.tp.cal 15 rfl λ{f z} h=>(#v[λl H Q E #v[f,k,g,m,q]=>((λB j y p=>iL h T  p) f k g m).len l H Q E q,λA a s H e us l Q E b C x v #v[f,k,g,m,q]=>((λB j y p=>iL h T  p) f k g m).run A a s H e us l Q E b C x v q]))) b (by decide) #v[rfl,rfl,rfl,by decide +kernel,by decide +kernel,by decide +kernel,by decide +kernel] (LD 4<|KI (i8 1)<|Au (osc:=(c7 W3)) u rfl rfl rfl<|by decide +kernel) (Ku<|He<|rY gO) (λD f F A a s H E b=>(bZ (bz rfl) (Ev.bw<|r9 (IP T) b<|m5 (i8 2)<|m5 (i8 0)<|m5 (i8 1) l0)<|Ev.bw i9)) rfl (by decide +kernel) rfl (by decide +kernel) (λ_ _ _ _ us hl=>match us,hl with | [_,_],_=>rfl))
   (j4<|KU<|Ic 4<|nv (oE T) (b.mono<|by decide) (Lb 4 l0)<|He gO)))
   (f8 (n9 6 av.nd<|DY 4 b.hd T.sum)
   (j4<|x3<|K8 (R4 rfl) T.tuple Q5<|j7 (Ev.bw<|aa (c7 W3) ["stand","weight","bottom"] (C6<|Ev.bw<|AR 4 b.hd rfl (xr (Dy (by decide) _) d) T.sorted U4) (w6 rfl<|f7 (J7)<|f7 (J7) n0) G4<|y4<|e8 (i8 0)<|e8 (r9 (dX T) b<|m5 (i8 1)<|m5 (i8 2) l0) l3) m6))))]
def AJ (K:Qf):Sp:=λf H Q _=>∃(a:QN) (b:List Int),f=[.ref a]/\SqL K H a (b.map V.int)/\b.length<=63 /\
 ∀d c e,Feeds.At d c e (qk b)->i5 H e->Q (.ref d) e
def Li {ns:List Int}(h:ns.length<=63):gQ (ns.map V.int) none (some 63)=ns.map V.int:=by unfold gQ;have e:HT.sIx (ns.map V.int).length (ns.map V.int).length (some 63)=min 63 (ns.map V.int).length:=HT.sIx_nat _ _ 63;rw[e,HT.sIx_none,Qe,PL,Ff (by rw[jI];lia)]
def uL (q):gH [] (u4 q 0 0 0)=u4 q 0 0 0:=by
 have d:D8 ([]:List (Key×V)) (Sum.inr "cells") (V.ref q)=([(Sum.inr "cells",V.ref q)]:List (Key×V)):=fH _ rfl;have c:D8 ([(Sum.inr "cells",V.ref q)]:List (Key×V)) (Sum.inr "at") (V.int 0)=([(Sum.inr "cells",V.ref q),(Sum.inr "at",V.int 0)]:List (Key×V)):=fH _ (by rw[A1 (by rw[M3];exact n1)];rfl);have b:D8 ([(Sum.inr "cells",V.ref q),(Sum.inr "at",V.int 0)]:List (Key×V)) (Sum.inr "left") (V.int 0)=([(Sum.inr "cells",V.ref q),(Sum.inr "at",V.int 0),(Sum.inr "left",V.int 0)]:List (Key×V)) :=
  fH _ (by rw[A1 (by rw[M3];exact n2),A1 (by rw[M3];exact n4)];rfl)
 have a:D8 ([(Sum.inr "cells",V.ref q),(Sum.inr "at",V.int 0),(Sum.inr "left",V.int 0)]:List (Key×V)) (Sum.inr "turn") (V.int 0)=u4 q 0 0 0 :=
  fH _ (by rw[A1 (by rw[M3];exact n3),A1 (by rw[M3];exact n5),A1 (by rw[M3];exact n6)];rfl)
 show D8 (D8 (D8 (D8 ([]:List (Key×V)) (Sum.inr "cells")<|V.ref q) (Sum.inr "at")<|V.int 0) (Sum.inr "left")<|V.int 0) (Sum.inr "turn") (V.int 0)=_;rw[d,c,b,a]
def nP:FnScope ["_law_script"] ["_law_script"] (c7 ib):={}
def qM (T:Txt K mg base):m7 P w K mg base "_law_feed" 1 ["_law_script"] (AJ K):=T.tp.cal 17 rfl λ{f B} F=>by
 refine F.ok nP (λu H Q E h=>?_) (λy A j s H u Q E z h=>?_)
 .let(a,l,rfl,_):=h;rfl
 .let(a,l,rfl,x,hl,k):=h;refine#v[_,X7<|bK<|DJ (eV K7 (ah mX rfl T.list eJ<|r8 (qr wN (pv 0) wG<|mU x9) A3)<|eV K7 x9<|eV K7 x9<|eV K7 x9 Fy) rfl rfl (by simp)<|by decide,?_];intro p r;have s1:i5 H (upd H p<|.dK []):=i5.upd r;refine#v[_,rfl,63,rfl,a,_,rfl,s1.seq x,λi d=>?_];rw[Li hl];have v:i5 H (upd (upd H p<|.dK []) i<|.lst<|l.map V.int):=λb o e=>by rw[h7<|k9 (s1 b o e) d];exact s1 b o e
  have m:p≠i:=k9 i3 d;refine#v[i,_,rfl,.inl<|SqL.of i3,λq n=>?_];have g:upd (upd H p<|.dK []) i (.lst<|l.map V.int) p=some (.dK []):=by rw[h7 m];exact i3
  have c:p≠q:=k9 g n;refine#v[by rwa[h7 c],u4 q 0 0 0,rfl,by show 4<=15;decide,?_];rw[uL];refine k p q _ #v[i3,by rw[h7<|DO c];exact i3,hl,(by show(0:Int)<=0;decide),(by show(0:Int)<=0;decide)] λb o e=>?_
  have t:=v b o e;rw[h7<|k9 e r,h7<|k9 t n];exact t
def B5:FnScope ["_law_feed_here","_law_many","_law_found","_law_at","_law_cells","_law_cell","_law_turn","_law_mixed"] ["_law_feed_here","_law_many"] (c7 iA):={}
def Mb {B R:Prop}[Decidable c](h1:R->c->A)(h2:R->¬c->B)(h:R):if c then A else B:=Gr (h1 h)<|h2 h
def u5 (T:Txt K mg base):m7 P w K mg base "_law_draw" 1 ["_law_feed_here","_law_many"] (spD K 2 J6):=T.tp.cal 18 rfl λ{f fd} Fn=>by
 refine Fn.ok B5 (λvs H Q E h=>?_) (λbd A a5 s H vs Q E hr h=>?_)
 .let(G,B,F,X,d,F',hl,_):=h;exact hl
 .let(G,B,F,X,dd,F',hl,fB,bk,fa,ha,R,q):=h;obtain⟨m,rfl⟩:∃m,X=[.feed,.dat<|.int m]:=by
   unfold J6 at R;split at R
   .exact#v[_,rfl]
   .cases R
  obtain⟨v,r,rfl,_,⟨d,c,rfl,rfl⟩,v2,r2,rfl,_,ac,rfl⟩:=ha;have ac:v2 = .int m:=by simpa only[DVr,c6] using ac
  subst ac;obtain⟨⟨r0,F1⟩,e1,e2⟩:=bS9 R;cases e2;replace e1:ig m F=some (r0,F1):=e1;have am:0<m/\m<1073741824/\F.t<199999:=by
   unfold ig at e1;split at e1
   .assumption
   .cases e1
  let(hm,ad,ap):=am;let(j,a,l,t):=F;obtain⟨⟨hd,hc,D,a3,a7⟩,a4⟩:=fa;simp only at hd hc D a3 a7 ap;have k:∀(r:Int) (W:Hp) (F2:FdS),ig m #v[j,a,l,t]=some (r,F2)->Feeds.At d c W F2->(∀b o,H b=some o->b≠d->W b=some o)->Q (.int r) W:=λr W F2 er a8 kp=>by rw[er]at e1;cases e1;exact q _ W (λb o e nb=>kp b o e λz=>nb<|by simp[j6,z]) #v[a8,a4.but hd #v[λ_ z=>(by cases z),λ_ z=>(by cases z)] kp] c6.int
  have al:ig m #v[j,a,l,t]=some (if 0<l then(l % m,#v[j,a,l / m,t+1]) else if 10 ^ 18<=(FdS.cellL #v[j,a,l,t])/\a<j.length then((FdS.cellL #v[j,a,l,t]) % m,#v[j,a+1,(FdS.cellL #v[j,a,l,t]) / m,t+1]) else((FZ (FdS.cellL #v[j,a,l,t])<|t+1) % m,#v[j,a+1,l,t+1])):=by unfold ig;rw[nY #v[hm,ad,ap]]
  have L:=Mn hr;have a6:=hr.units0;have O:c≠d:=Gz hc hd (by intro z;cases z);refine#v[_,u9 (jf L (pv 0) K7 (F8 gc (aE L (pv 0) K7<|λ_ _=>rfl) x9) rfl)
   (u9 (vp (fA GG (aE L (pv 0) K7<|λ_ _=>rfl) x9<|gA _)
    (u9 (L6 (i:=2) B5.nd rfl (Or.inl rfl)<|F8 bR (aE L (pv 0) K7<|λ_ _=>rfl)<|pv 1)
     (u9 (jf L (pv 0) K7 (F8 oK (aE L (pv 0) K7<|λ_ _=>rfl)<|pv 1) rfl)<|X7<|bK<|pv 2)) jg)
   (u9 (L6 (i:=3) B5.nd rfl (Or.inl rfl)<|aE L (pv 0) K7<|λ_ _=>rfl)
   (u9 (jf L (pv 0) K7 (F8 gc (pv 3) x9) rfl)
   (u9 (L6 (i:=4) B5.nd rfl (Or.inl rfl)<|aE L (pv 0) K7<|λ_ _=>rfl)
   (u9 (L6 (i:=5) B5.nd rfl (Or.inl rfl) (rG (fA (Do a6) (pv 4) (oX A3)<|gA _)
    (Dz vk (pv 4) (F8 bR (pv 3)<|ag aQ (by rfl) T.len PySem.boot_len<|r8 (pv 4) A3)<|λ_ _=>rfl) x9))
   (u9 (vp (PW.pt<|DA (fA GE (pv 5) (F8 uh x9 x9)<|gA _)<|ve<|fA Hl (pv 3) (ag aQ (by rfl) T.len PySem.boot_len<|r8 (pv 4) A3)<|gA _)
    (u9 (jf L (pv 0) K7 (F8 oK (pv 5)<|pv 1) rfl)<|X7<|bK<|F8 bR (pv 5)<|pv 1) jg)
   (u9 (L6 (i:=6) B5.nd rfl (Or.inl rfl)<|aE L (pv 0) K7<|λ_ _=>rfl)
   (u9 (L6 (i:=7) B5.nd rfl (Or.inl rfl)<|F8 bR (F8 uh (F8 gc (F8 gc (F8 bR (pv 5) x9)<|F8 oU x9<|pv 6) x9) x9) x9)
   (u9 (L6 (i:=7) B5.nd rfl (Or.inl rfl)<|F8 bR (F8 oU (F8 gc (pv 7)<|F8 oU (F8 oU x9<|pv 6)<|pv 6) x9) x9)
   (X7<|bK<|F8 bR (F8 oK (pv 7) x9)<|pv 1)))))))))),?_]
  refine#v[_,rfl,d,_,rfl,Dq hd,_,_,rfl,rfl,_,rfl,d,_,rfl,JN _ hd,?_];have C:(upd H d<|.dK<|u4 c a l<|t+1) d=some (.dK<|u4 c a l<|t+1):=i3;have an:(upd H d<|.dK<|u4 c a l<|t+1) c=some (.lst<|j.map V.int):=by rw[h7 O];exact hc
  have ab:∀b o,H b=some o->b≠d->(upd H d<|.dK<|u4 c a l<|t+1) b=some o:=λb o e n=>by rw[h7 n];exact e
  generalize upd H d (.dK<|u4 c a l<|t+1)=H1 at C an ab;refine#v[_,rfl,d,_,rfl,tE C,_,_,rfl,rfl,_,rfl,?_];refine Gr (λg=>?_) (λg=>?_)
  .have g:0<l:=xO g;refine#v[_,rfl,d,_,rfl,tE C,_,rfl,_,_,rfl,rfl,hm,?_];refine#v[_,rfl,d,_,rfl,tE C,_,rfl,_,_,rfl,rfl,#v[hm,ad],_,rfl,d,_,rfl,Ci _ C,_,rfl,?_];exact k _ _ #v[j,a,l / m,t+1] (by rw[al,nY g]) #v[i3,by rw[h7 O];exact an,D,a3,by simp only;lia] (λb o e n=>by rw[h7 n];exact ab b o e n)
  .have g:¬0<l:=λz=>g<|xq z
   refine#v[_,rfl,d,_,rfl,MS C,_,rfl,_,_,rfl,rfl,_,rfl,d,_,rfl,Nh _ C,?_];have U:(upd H1 d<|.dK<|u4 c (a+1) l<|t+1) d=some (.dK<|u4 c (a+1) l<|t+1):=i3;have M:(upd H1 d<|.dK<|u4 c (a+1) l<|t+1) c=some (.lst<|j.map V.int):=by rw[h7 O];exact an
   have Z:∀b o,H b=some o->b≠d->(upd H1 d<|.dK<|u4 c (a+1) l<|t+1) b=some o:=λb o e n=>by rw[h7 n];exact ab b o e n
   generalize upd H1 d (.dK<|u4 c (a+1) l<|t+1)=H2 at U M Z;refine#v[_,rfl,d,_,rfl,FB U,?_];refine#v[_,rfl,CW _,λp hp=>#v[c,p,_,rfl,rfl,SqL.of (by rw[h7<|k9 M hp];exact M),SqL.of i3,_,rfl,?_]];have S:(upd H2 p<|.lst []) d=some (.dK<|u4 c (a+1) l<|t+1):=by rw[h7<|k9 U hp];exact U
   have I:(upd H2 p<|.lst []) c=some (.lst<|j.map V.int):=by rw[h7<|k9 M hp];exact M
   have Y:∀b o,H b=some o->b≠d->(upd H2 p<|.lst []) b=some o:=λb o e n=>by rw[h7<|k9 (Z b o e n) hp];exact Z b o e n
   generalize upd H2 p (.lst [])=H3 at S I Y;obtain⟨z,hz⟩:∃z,FdS.cellL #v[j,a,l,t]=z:=#v[_,rfl];apply Mb
   .intro r a2;have h0:¬j=[]:=by intro e;rw[e]at a2;exact absurd a2 (by decide)
    exact#v[_,rfl,_,rfl,_,rfl,c,_,rfl,.inl<|SqL.of I,_,_,rfl,rfl,(by have:=NM.2 h0;show(0:Int)<((j.map V.int).length:Int);rw[jI];lia),c,_,_,_,rfl,rfl,SqL.of I,hz▸DB (F:=#v[j,a,l,t]) h0,r]
   .intro r he;have h0:j=[]:=by
     cases j with
     | nil=>rfl
     | cons x y=>exact absurd rfl he
    have e0:z=0:=by rw[<-hz];unfold FdS.cellL;rw[nY h0]
    rwa[e0]at r
   .have big:10 ^ 18<=(FdS.cellL #v[j,a,l,t])/\a<j.length->∀W,W=(upd H3 d<|.dK<|u4 c (a+1) (FdS.cellL #v[j,a,l,t] / m)<|t+1)->Q (.int<|FdS.cellL #v[j,a,l,t] % m) W:=λn W eH=>by subst eH;exact k _ _ #v[j,a+1,FdS.cellL #v[j,a,l,t] / m,t+1] (by rw[al,oj g,nY n]) #v[i3,by rwa[h7 O],D,by simp only;lia,by simp only;lia] (λb o e n=>by rw[h7 n];exact Y b o e n)
    have u:=λn =>
     k _ _ #v[j,a+1,l,t+1] (by rw[al,oj g,oj n]) #v[S,I,D,by simp only;lia,by simp only;lia] Y
    rw[hz]at big u;have a1:0<=t+1:=by lia
    have a0:t+1<=200000:=by lia
    let(ba,a9):=KJ a1 a0;refine#v[_,rfl,_,_,rfl,rfl,#v[by decide,by decide,by decide],_,_,rfl,rfl,_,rfl,Gr (λN=>#v[_,rfl,_,rfl,c,_,rfl,.inl<|SqL.of I,_,_,rfl,rfl,_,rfl,Gr (λJ=>?_)<|λJ=>?_]) (λN=>Na ?_) ]
    .have J:=xO J;rw[jI]at J;exact#v[_,rfl,_,rfl,_,_,rfl,rfl,#v[hm,ad],_,rfl,d,_,rfl,Ci _ S,_,rfl,_,rfl,_,_,rfl,rfl,hm,big #v[xO N,J] _ rfl]
    all_goals exact#v[_,rfl,d,_,rfl,Dq S,_,rfl,_,_,rfl,rfl,(by show(0:Int)<1999999973;decide),_,rfl,_,_,rfl,rfl,.inl #v[by decide,by decide],_,_,rfl,rfl,_,_,rfl,rfl,_,_,rfl,rfl,#v[by decide,by decide,bdB a1 a0],_,_,rfl,rfl,(by show(0:Int)<2147483629;decide),_,rfl,_,rfl,_,_,rfl,rfl,.inl #v[by decide,by decide],_,rfl,_,_,rfl,rfl,.inl #v[by lia,by lia],_,_,rfl,rfl,_,_,rfl,rfl,.inr #v[by decide,by decide],_,_,rfl,rfl,(by show(0:Int)<2147483399;decide),_,rfl,_,_,rfl,rfl,#v[by decide,by decide],_,rfl,_,_,rfl,rfl,hm,u λn=>by first | exact J (xq (by rw[jI];exact n.2)) | exact N<|xq n.1]
def bM:FnScope ["_law_top","_law_bottom","_law_one","_law_other"] ["_law_top","_law_bottom"] (c7 dY):={}
abbrev aF:=Bz.c_lfrac
def dD (T:Txt K mg base):m7 P w K mg base "_law_low" 1 ["_law_top","_law_bottom"] (spD K 2 aF):=T.tp.cal 19 rfl λ{f e} c=>by
 refine E8 c bM λb A a s H E d=>#v[_,(f8 (nH 2 3 rfl bM.nd<|e8 (l7 (sZ) T.abs uw<|j7 (j8 0) m6)<|e8 (i8 1) l3)
   (f8 (pX (A7 md (j8 3)<|Ev.bw i9)<|j4<|nH 2 3 rfl bM.nd<|e8 (i8 3)<|e8 (u6 sS (j8 2)<|j8 3) l3)
   (j4<|x3<|y4<|e8 (u6 aS (j8 0)<|j8 2)<|e8 (u6 aS (j8 1)<|j8 2) l3)))]
def Z1:FnScope ["_law_feed_here","_law_most","_law_rule","_law_hands"] ["_law_feed_here","_law_most"] (c7 aK):={}
abbrev aR:=eE ["_law_feed_here","_law_most","_law_rule","_law_hands"]
def oo (T:Txt K mg base):m7 P w K mg base "_law_house" 2 ["_law_feed_here","_law_most"] (spD K 2 aR):=T.tp.cal 20 rfl λ{f e} d=>by
 refine E8 d Z1 λc A b s H E a=>#v[_,(f8 (n9 2 Z1.nd<|bZ (bz rfl) (Ev.bw<|nG (.list [.str "first",.str "last",.str "short",.str "front",.str "lastoff",.str "shortoff",.str "frontoff",.str "turns"]) rfl)<|Ev.bw<|r9 (u5 T) a<|aO 0<|m5 i9 l0)
   (f8 (n9 3 Z1.nd<|u6 (C4 rfl) (Ev.bw i9)<|Ev.bw<|r9 (u5 T) a<|aO 0<|m5 i9 l0)
   (f8 (Z5 (A7 (lS rfl a.units) (Ev.bw<|r9 (u5 T) a<|aO 0<|m5 i9 l0)<|Ev.bw i9) (j4<|x3<|y4<|e8 (i8 3)<|e8 dO<|e8 (i8 2) l3) S4)
   (j4<|x3<|y4<|e8 (i8 3)<|e8 (r9 (u5 T) a<|aO 0<|m5 (u6 (C4 rfl) (j8 1)<|Ev.bw i9) l0)<|e8 (i8 2) l3))))]
def v5:FnScope ["_law_feed_here","_law_house_here","_law_most","_law_lefts","_law_begun","_law_stand","_law_k","_law_starts"] ["_law_feed_here","_law_house_here","_law_most","_law_lefts"] (c7 O3):={}
abbrev eM:=je ["_law_feed_here","_law_house_here","_law_most","_law_lefts","_law_begun","_law_stand","_law_k","_law_starts"]
def fN (T:Txt K mg base):m7 P w K mg base "_law_some_stand" 2 ["_law_feed_here","_law_house_here","_law_most","_law_lefts"] (spD K 4 eM):=T.tp.cal 21 rfl λ{f g} e=>by
 refine E8 e v5 λd A b s H E a=>?_
 have c:(A.deeper<|PyProof.Rows.envOfC "_law_some_stand" (c7 O3) (~~~s) f d).units+65<Rl:=by have:=a.un;lia
 exact#v[_,(f8 (Z5 (A7 pP (Ev.bw<|E9 1)<|Ev.bw dO) (j4<|n9 2 v5.nd<|l7 (sQ rfl rfl) T.min oD<|j7 (j8 2)<|j7 (Ev.bw<|E9 1) m6) S4)
   (f8 (n9 4 v5.nd<|u6 (Y6 rfl) (Ev.bw<|E9 1)<|Ev.bw<|K8 (BV) T.int Dk<|j7 (Ev.bw<|jq (pk rfl c) (Ev.bw<|E9 1)<|Ev.bw<|nG (.tuple [.str "first",.str "last",.str "short",.str "front"]) rfl) m6)
   (f8 (ua 5 v5.nd<|jS l3)
   (f8 (K4 rfl (Y5 (e8 (r9 (u5 T) a<|aO 0<|m5 (u6 (C4 rfl) (j8 2)<|Ev.bw i9) l0) l3) T.range) (C3 v5.nd) (f8 (n9 7 v5.nd<|Kb (jq md (j8 4)<|Ev.bw i9)<|Jl<|jq (lS rfl a.units) (Ev.bw<|r9 (u5 T) a<|aO 0<|m5 i9 l0)<|Ev.bw i9)
   (f8 (n9 4 v5.nd<|u6 kn (j8 4)<|Ev.bw<|K8 (BV) T.int Dk<|j7 (j8 7) m6)
   (j4<|jY 5 rfl<|y4<|e8 (r9 (u5 T) a<|aO 0<|m5 i9 l0)<|e8 (u6 (C4 rfl) (Ev.bw i9)<|Ev.bw<|r9 (u5 T) a<|aO 0<|m5 (i8 3) l0)<|e8 (i8 7) l3))))
   (j4<|x3<|K8 (R4 rfl) T.tuple Q5<|j7 (j8 5) m6)))))]
def aA:FnScope ["_law_feed_here","_law_house_here","_law_many","_law_most","_law_found","_law_k"] ["_law_feed_here","_law_house_here","_law_many","_law_most"] (c7 Y4):={}
abbrev X2:=jb ["_law_feed_here","_law_house_here","_law_many","_law_most","_law_found","_law_k"] ["_law_feed_here","_law_house_here","_law_most","_law_lefts","_law_begun","_law_stand","_law_k","_law_starts"]
def iu (T:Txt K mg base):m7 P w K mg base "_law_lots" 3 ["_law_feed_here","_law_house_here","_law_many","_law_most"] (spD K 4 X2):=T.tp.cal 22 rfl λ{f g} e=>by
 refine E8 e aA λd A c s H E b=>?_
 have a:(A.deeper<|PyProof.Rows.envOfC "_law_lots" (c7 Y4) (~~~s) f d).units+65<Rl:=by have:=b.un;lia
 exact#v[_,(f8 (oz 4 0 aA.nd)
   (f8 (K4 rfl (Y5 (e8 (i8 2) l3) T.range) (C3 aA.nd)<|j4<|nJ 4 0 (xr (Dy (by decide) _) a) (u6 (C4 rfl) (Ev.bw i9)<|Ev.bw<|r9 (u5 T) b<|aO 0<|m5 i9 l0) (r9 (fN T) b<|aO 0<|m5 (i8 1)<|m5 (i8 3)<|m5 i9 l0) rfl)
   (j4<|x3<|aa (c7 Y4) ["_law_stand","_law_found"] (C6<|Ev.bw<|l7 (pK rfl<|xr (Dy (by decide) _) a) T.sorted U4<|j7 (Ev.bw<|vI 4 0 b.hd T.list (hv:=eJ)) m6) (J7) G4<|y4<|e8 (i8 0)<|e8 (wW 1 0 (xr (Dy (by decide) _) a) (i8 0) rfl<|λ_ _=>rfl) l3)))]
def R7:FnScope ["_law_pairs","_law_found","_law_stand","_law_top","_law_whole"] ["_law_pairs"] (c7 W9):={}
abbrev aD:=nE ["_law_pairs","_law_found","_law_stand","_law_top","_law_whole"]
def jx (T:Txt K mg base):m7 P w K mg base "_law_row" 2 ["_law_pairs"] (spD K 1 aD):=T.tp.cal 23 rfl λ{f g} e=>by
 refine E8 e R7 λd A b s H E c=>?_
 have a:(A.deeper<|PyProof.Rows.envOfC "_law_row" (c7 W9) (~~~s) f d).units+65<Rl:=by have:=c.un;lia
 exact#v[_,(f8 (oz 1 0 R7.nd)
   (f8 (K4 rfl (bu<|i8 0) (w6 rfl<|f7 (C3 R7.nd)<|f7 (C3 R7.nd) n0)<|j4<|nJ 1 0 (xr (Dy (by decide) _) a) (u6 (C4 rfl) (Ev.bw<|pF 1 0 (xr (Dy (by decide) _) a) (i8 2) i9 rfl #v[rfl,rfl,rfl,rfl])<|j8 3) (i8 2) rfl)
   (f8 (n9 4 R7.nd<|l7 (eX rfl rfl) T.sum kc<|j7 (Ev.bw<|aa (c7 W9) ["_law_stand","_law_top"] (C6<|j8 0) (w6 rfl<|f7 (J7)<|f7 (J7) n0) G4<|i8 1) m6)
   (j4<|x3<|K8 (R4 rfl) T.tuple Q5<|j7 (Ev.bw<|aa (c7 W9) ["_law_stand","_law_whole","_law_found"] (C6<|Ev.bw<|l7 (pK rfl<|xr (Dy (by decide) _) a) T.sorted U4<|j7 (Ev.bw<|vI 1 0 c.hd T.list (hv:=eJ)) m6) (J7) G4<|y4<|e8 (i8 0)<|e8 (r9 (dD T) c<|m5 (wW 2 0 (xr (Dy (by decide) _) a) (i8 0) rfl<|λ_ _=>rfl)<|m5 (i8 1) l0) l3) m6))))]
def D7:FnScope ["_law_house_here","_law_stand","_law_hands","_law_rank","_law_left","_law_begun","_law_at"] ["_law_house_here","_law_stand"] (c7 Q8):={}
def X6:List DV->M CD:=R6 ["_law_house_here","_law_stand","_law_hands","_law_rank","_law_left","_law_begun","_law_at"] (mSq (mIf (uB<|s2 (eqD false) (s2 ixD (sW 0)<|sC<|.int 0)<|sC<|.int 1) (mRt<|sN dh<|d4 (sLC (M4<|sW 1) 1 [] (bN 0) R9<|s2 ixD (sW 0)<|sC<|.int 1) j3) mNx)
  (mSq (kW 2<|fLC (M4<|sW 1) 3 [] (D4 3<|i7 (bN 0)<|i7 (bN 1)<|i7 (bN 2) D6) (uT<|sW 2)<|sV 1)
  (mSq (kW 2<|DS (sW 2)<|s2 Y2 (sC<|.list [.int 0])<|s2 lq (s2 ixD (sW 0)<|sC<|.int 0)<|sN dy<|d4 (sW 2) j3)
  (mSq (Z0 (M4<|sV 1) (D4 3<|i7 (bN 3)<|i7 (bN 4)<|i7 (bN 5) D6) (mIf (EU<|uT<|sW 5) (mSq (x6 6<|s2 yC (sW 2)<|sN lX<|d4 (sW 2) j3)
  (Dh 2 (s2 N4 (s2 ixD (sW 2)<|sW 6)<|sW 4)<|sV 6)) mNx))
  (mRt<|sN lX<|d4 (sW 2) j3)))))
def pT (T:Txt K mg base):m7 P w K mg base "_law_free" 1 ["_law_house_here","_law_stand"] (spD K 2 X6):=T.tp.cal 24 rfl λ{f e} d=>by
 refine E8 d D7 λc A a s H E b=>#v[_,(f8 (Z5 (A7 (lS rfl b.units) (Ev.bw<|E9 0)<|Ev.bw i9) (j4<|x3<|l7 (eX rfl rfl) T.sum kc<|j7 (Ev.bw<|aa (c7 Q8) ["_law_person"] (C6<|j8 1) (J7) G4<|E9 0) m6) S4)
   (f8 (AQ 2 (hN:=D7.nd) (c7 Q8) ["_law_rank","_law_left","_law_begun"] (C6<|j8 1) (w6 rfl<|f7 (J7)<|f7 (J7)<|f7 (J7) n0) (fY<|ur<|j8 2)<|i8 1)
   (f8 (ua 2 D7.nd<|Jf (j8 2)<|Ev.bw<|u6 (Y6 rfl) (Ev.bw<|nG (.list [.int 0]) rfl)<|Ev.bw<|u6 kn (Ev.bw<|E9 0)<|Ev.bw<|l7 (aV rfl) T.len aU<|j7 (j8 2) m6)
   (f8 (K4 rfl (bu<|i8 1) (w6 rfl<|f7 (C3 D7.nd)<|f7 (C3 D7.nd)<|f7 (C3 D7.nd) n0) (j4 (Z5 (IG<|ur<|j8 5) (f8 (n9 6 D7.nd<|Bh (j8 2)<|Ev.bw<|l7 (wc rfl rfl) T.min oD<|j7 (j8 2) m6)
   (j4<|IJ 2 (u6 (C4 rfl) (Ev.bw<|bZ (bz rfl) (j8 2)<|j8 6)<|j8 4)<|i8 6)) S4)))
   (j4<|x3<|l7 (wc rfl rfl) T.min oD<|j7 (j8 2) m6)))))]
def N3:FnScope ["_law_house_here","_law_lots_here","_law_whole","_law_full","_law_some","_law_row_here","_law_number"] ["_law_house_here","_law_lots_here"] (c7 J4):={}
def W7:List DV->M CD:=R6 ["_law_house_here","_law_lots_here","_law_whole","_law_full","_law_some","_law_row_here","_law_number"] (mSq (x6 2<|sN dh<|d4 (sLC (M4<|sW 1) 2 [] (D4 2<|i7 (bN 0)<|i7 (bN 1) D6) R9<|sV 1) j3)
  (mSq (x6 3<|sLC (M4<|sW 1) 2 [0] (D4 2<|i7 (bN 0)<|i7 (bN 1) D6) (EY (uB<|s2 (isD true) (s2 ixD (sW 2)<|sC<|.int 1)<|sC .none)<|uB<|s2 geD (sN dy<|d4 (sW 0) j3)<|s2 ixD (sW 2)<|sC<|.int 1)<|sV 1)
  (mSq (x6 4<|sLC (M4<|sW 1) 2 [0] (D4 2<|i7 (bN 0)<|i7 (bN 1) D6) (uOr (uB<|s2 (isD false) (s2 ixD (sW 2)<|sC<|.int 1)<|sC .none)<|uB<|s2 ltD (sN dy<|d4 (sW 0) j3)<|s2 ixD (sW 2)<|sC<|.int 1)<|K0<|d4 (l6 X6<|vD (sV 2)<|vD (sV 0) u8)<|d4 (sV 1) j3)
  (mSq (kW 5<|oF j3)
  (mSq (Z0 (aZ<|d4 (s2 N4 (sC<|.int 1)<|sN iq<|d4 (sLC (M4<|sW 4) 1 [] (bN 0) R9<|s2 ixD (sW 0)<|sC<|.int 0)<|d4 (s1 tw<|sC<|.int 1) j3) j3) (bN 6)<|kI 5<|l6 aF<|vD (sN dh<|d4 (sLC (M4<|sW 4) 2 [6] (D4 2<|i7 (bN 0)<|i7 (bN 1) D6) (uB<|s2 (eqD false) (sW 0)<|sW 2)<|sV 1) j3)<|vD (sV 2) u8)
  (DF 5<|mRt<|sN lF<|d4 (K0<|d4 (sV 5)<|d4 (l6 aF<|vD (sN dh<|d4 (sW 3) j3)<|vD (sV 2) u8) j3) j3))))))
def jC (T:Txt K mg base):m7 P w K mg base "_law_due" 2 ["_law_house_here","_law_lots_here"] (spD K 2 W7):=T.tp.cal 25 rfl λ{f e} d=>by
 refine E8 d N3 λc A b s H E a=>#v[_,(f8 (n9 2 N3.nd<|l7 (eX rfl rfl) T.sum kc<|j7 (Ev.bw<|aa (c7 J4) ["_law_stand","_law_lot"] (C6<|j8 1) (w6 rfl<|f7 (J7)<|f7 (J7) n0) G4<|i8 1) m6)
   (f8 (fy 3 (hN:=N3.nd) (c7 J4) ["_law_stand","_law_lot","_law_house_here"] (C6<|j8 1) (w6 rfl<|f7 (J7)<|f7 (J7) n0) (fY<|Ew.t<|Iv (A7 pP (Ev.bw<|E9 2)<|Ev.bw dO)<|Gh<|A7 (nN GE λ_ _ _=>c6.bl) (Ev.bw<|l7 (aV rfl) T.len aU<|j7 (j8 0) m6)<|Ev.bw<|E9 2)<|i8 1)
   (f8 (fy 4 (hN:=N3.nd) (c7 J4) ["_law_stand","_law_lot","_law_house_here"] (C6<|j8 1) (w6 rfl<|f7 (J7)<|f7 (J7) n0) (fY<|Ew.t<|Lz (A7 Hx (Ev.bw<|E9 2)<|Ev.bw dO)<|Jp<|A7 HF (Ev.bw<|l7 (aV rfl) T.len aU<|j7 (j8 0) m6)<|Ev.bw<|E9 2)<|y4<|e8 (r9 (pT T) a<|m5 (i8 2)<|m5 (i8 0) l0)<|e8 (i8 1) l3)
   (f8 (ua 5 N3.nd<|jS l3)
   (f8 (K4 rfl (Y5 (e8 (u6 (C4 rfl) (Ev.bw i9)<|Ev.bw<|wa rfl rfl T.max (Ev.bw<|aa (c7 J4) ["_law_pair"] (C6<|j8 4) (J7) G4<|E9 0)<|Ev.bw<|vH mP<|Ev.bw i9) l3) T.range) (C3 N3.nd)<|j4<|jY 5 rfl<|r9 (dD T) a<|m5 (l7 (eX rfl rfl) T.sum kc<|j7 (Ev.bw<|aa (c7 J4) ["_law_waits","_law_lot","_law_number"] (C6<|j8 4) (w6 rfl<|f7 (J7)<|f7 (J7) n0) (fY<|A7 (lS rfl a.units) (j8 0)<|j8 2)<|i8 1) m6)<|m5 (i8 2) l0)
   (j4<|JZ 5<|x3<|l7 (nV rfl a.gd a.units) T.repr nj<|j7 (Ev.bw<|y4<|e8 (i8 5)<|e8 (r9 (dD T) a<|m5 (l7 (eX rfl rfl) T.sum kc<|j7 (j8 3) m6)<|m5 (i8 2) l0) l3) m6))))))]
def D5:FnScope ["_law_feed_here","_law_house_here","_law_lots_here","_law_beat","_law_row_here","_law_bottom","_law_stand","_law_share"] ["_law_feed_here","_law_house_here"] (c7 V1):={}
def aG:List DV->M CD:=R6 ["_law_feed_here","_law_house_here","_law_lots_here","_law_beat","_law_row_here","_law_bottom","_law_stand","_law_share"] (mSq (x6 2<|l6 X2<|vF 0<|vD (sV 1)<|vD (s2 N4 (sC<|.int 1)<|l6 J6<|vF 0<|vD (sC<|.int 2) u8)<|vD (sC<|.int 8) u8)
  (mSq (x6 3<|sN M6<|d4 (sLC (aZ<|d4 (sC<|.int 2) j3) 1 [0] (bN 0) R9<|K0<|d4 (l6 J6<|vF 1<|vD (sC<|.int 2) u8)<|d4 (s2 N4 (sC<|.int 2)<|l6 J6<|vF 1<|vD (sC<|.int 2) u8) j3) j3)
  (mSq (x6 4<|l6 fE<|vD (sV 1)<|vD (K0<|d4 (K0<|d4 (sV 3)<|d4 (sC<|.int 1) j3) j3)<|vD (l6 aD<|vD (sV 2) u8)<|vD (sC<|.int 8) u8)
  (mSq (x6 5<|sC<|.int 1)
  (mSq (Z0 (M4<|sV 4) (D4 2<|i7 (bN 6)<|i7 (bN 7) D6)<|mIf (uB<|s2 (eqD true) (s2 yR (sW 5)<|s2 ixD (sW 7)<|sC<|.int 1)<|sC<|.int 0) (x6 5<|s2 Y2 (sW 5)<|s2 ixD (sW 7)<|sC<|.int 1) mNx)
  (mRt<|K0<|d4 (sV 4)<|d4 (sLC (M4<|sW 4) 2 [5] (D4 2<|i7 (bN 0)<|i7 (bN 1) D6) R9<|K0<|d4 (sV 0)<|d4 (s2 Y2 (s2 ixD (sW 1)<|sC<|.int 0)<|s2 df (sW 2)<|s2 ixD (sW 1)<|sC<|.int 1) j3) j3))))))
def sM (T:Txt K mg base):m7 P w K mg base "_law_far" 8 ["_law_feed_here","_law_house_here"] (spD K 2 aG):=T.tp.cal 26 rfl λ{f e} d=>by
 refine E8 d D5 λc A b s H E a=>#v[_,(f8 (n9 2 D5.nd<|r9 (iu T) a<|aO 0<|m5 (i8 1)<|m5 (u6 (C4 rfl) (Ev.bw i9)<|Ev.bw<|r9 (u5 T) a<|aO 0<|m5 i9 l0)<|m5 i9 l0)
   (f8 (n9 3 D5.nd<|K8 (R4 rfl) T.tuple Q5<|j7 (Ev.bw<|aa (c7 V1) ["_law_k","_law_feed_here"] (Ei.bw<|Y5 (e8 i9 l3) T.range) (J7) G4<|y4<|e8 (r9 (u5 T) a<|aO 1<|m5 i9 l0)<|e8 (u6 (C4 rfl) (Ev.bw i9)<|Ev.bw<|r9 (u5 T) a<|aO 1<|m5 i9 l0) l3) m6)
   (f8 (n9 4 D5.nd<|r9 (CN T) a<|m5 (i8 1)<|m5 (y4<|e8 (y4<|e8 (i8 3)<|e8 i9 l3) l3)<|m5 (r9 (jx T) a<|m5 (i8 2) l0)<|m5 i9 l0)
   (f8 (n9 5 D5.nd i9)
   (f8 (K4 rfl (bu<|i8 4) (w6 rfl<|f7 (C3 D5.nd)<|f7 (C3 D5.nd) n0)<|j4<|Z5 (A7 (HI rfl a.units) (Ev.bw<|u6 sS (j8 5)<|Ev.bw<|E9 7)<|Ev.bw i9) (j4<|n9 5 D5.nd<|u6 (Y6 rfl) (j8 5)<|Ev.bw<|E9 7) S4)
   (j4<|x3<|y4<|e8 (i8 4)<|e8 (aa (c7 V1) ["_law_stand","_law_share","_law_bottom"] (C6<|j8 4) (w6 rfl<|f7 (J7)<|f7 (J7) n0) G4<|y4<|e8 (i8 0)<|e8 (u6 (Y6 rfl) (Ev.bw<|E9 1)<|Ev.bw<|u6 aS (j8 2)<|Ev.bw<|E9 1) l3) l3))))))]
end
end
section
section

abbrev cxL (P:QP)(w:QQ)(K:Qf)(mg:Str->Option My)(base:QW)(f:QN)(dr:My)(A:QR)(outer:List Ra)(s:QO)(H:Hp)(E:XK):Cx:=(gB CX0 P w K mg base ["_law_script","_law_feed_here","_law_turn","_law_house_here","_law_lots_here","_law_row_here","_law_due_here","_law_again","_law_told"] "law" (c7 G5) f dr A outer s H E).nox
abbrev RmL (A:QR)(s:QO)(f:QN)(dr:My):Prop:=Room 8<|A.deeper<|PyProof.Rows.envOfC "law" (c7 G5) (~~~s) f dr
abbrev UnL (A:QR)(s:QO)(f:QN)(dr:My):Prop:=(A.deeper<|PyProof.Rows.envOfC "law" (c7 G5) (~~~s) f dr).units+65<Rl
def stE (e:([none,some DV.feed]++List.replicate k none)[i]? = some (some x)):i=1/\x = .feed:=by
 match i,e with
 | 1,e=>cases e;exact#v[rfl,rfl]
 | i+2,e=>simp only[yS,zY,List.getElem?_cons_succ,Ly]at e;split at e <;> cases e

def S8:FnScope ["_law_script","_law_feed_here","_law_turn","_law_house_here","_law_lots_here","_law_row_here","_law_due_here","_law_again","_law_told"] ["_law_script"] (c7 G5):={}
def O1:QU->List QU
 | .For _ _ b _ _=>b
 | _=>[]
def cx:DE->M Out:=(x6 3<|s2 N4 (kY (l6 aR<|vF 1<|vD (sC<|.int 6) u8) oNo<|oI<|sC<|.int 2)<|sC<|.tuple [.str "first"])
def ao:DE->M Out:=(x6 4<|l6 X2<|vF 1<|vD (sV 3)<|vD (s2 N4 (sC<|.int 1)<|l6 J6<|vF 1<|vD (sC<|.int 8) u8)<|vD (sC<|.int 8) u8)
def cz:DE->M Out:=(x6 5<|l6 aD<|vD (sV 4) u8)
def cy:DE->M Out:=(x6 6<|l6 W7<|vD (sV 3)<|vD (sV 4) u8)
def Y8:DE->M Out:=(oP 8 V4 (vD (sV 3)<|vD (sV 5) u8) (uB<|s2 (eqD true) (sN lF<|d4 (sW 8) j3)<|sW 6) (mRt<|sC<|.bool false) (sC<|.tuple [.int 1,.int 1]) mNx)
def gE:DE->M Out:=(Z0 (aZ<|d4 (sC<|.int 2) j3) (bN 7)<|mSq Y8 mNx)
def oN:DE->M Out:=(Z0 (aZ<|d4 (sC<|.int 2) j3) (bN 2)<|mSq cx<|mSq ao<|mSq cz<|mSq cy gE)
def iT:DE->M Out:=(x6 3<|K0<|d4 (s2 N4 (sC<|.int 1)<|l6 J6<|vF 1<|vD (sC<|.int 3) u8)<|d4 (sC .none)<|d4 (sC<|.str "first") j3)
def iX:DE->M Out:=(oV (D4 2<|i7 (bN 5)<|i7 (bN 4) D6)<|l6 aG<|vF 1<|vD (sV 3) u8)
def jd:DE->M Out:=(mRt<|s2 (eqD false) (sN lF<|d4 (l6 V4<|vD (sV 3)<|vD (sV 5) u8) j3)<|l6 W7<|vD (sV 3)<|vD (sV 4) u8)
def pY:DE->M Out:=(mSq oN<|mSq iT<|mSq iX jd)
def JY {α:Type}(l) (d:α)(h:0<l.length):l=l.getD 0 d::l.drop 1:=by
 cases l with
 | nil=>simp at h
 | cons a r=>rfl
def spLaw (K:Qf):Sp:=λc H Q _=>∃(a:QN) (b:List Int),c=[.ref a]/\SqL K H a (b.map V.int)/\b.length<=63/\V7 (tabsK Feeds.lam K) H/\∀d,Q (.bl true) d
def Nl (Fn:Fun K "law" "law" G5 f fd)(T:Txt K mg base)(fin:∀ns,ns.length<=63->∃F',pY ([none,some .feed]++List.replicate (["_law_script","_law_feed_here","_law_turn","_law_house_here","_law_lots_here","_law_row_here","_law_due_here","_law_again","_law_told"].length-2) none) (qk ns)=some (.rt<|.bool true,F')):FnOk P w K mg base CX0 9 f fd ["_law_script"] (spLaw K):=by
 refine Fn.ok S8 (λF H Q E h=>?_) (λdr A outer s H F Q E j h=>?_)
 .let(a,ns,rfl,_):=h;rfl
 .let(a,ns,rfl,L,hl,p,k):=h;have G:(A.deeper<|PyProof.Rows.envOfC "law" (c7 G5) (~~~s) f dr).units+65<Rl:=by have:=j.un;lia
  obtain⟨g,B,J⟩:∃g,Sss K (cxL P w K mg base f dr A outer s H E) ((m4 G5).drop 1) g pY:=#v[_,(f8 ((show ∃g,Ss K (cxL P w K mg base f dr A outer s H E) (nth (m4 G5) 1) g oN by
   exact#v[_,K4 rfl (Y5 (e8 i9 l3) T.range) (C3 S8.nd) (f8 ((show ∃g,Ss K (cxL P w K mg base f dr A outer s H E) (nth (O1<|nth (m4 G5) 1) 0) g cx by
    exact#v[_,(n9 3 S8.nd<|u6 (C4 rfl) (Ev.bw<|kG (Ev.bw<|r9 (oo T) j<|aO 1<|m5 i9 l0) qB<|zL i9)<|Ev.bw<|nG (.tuple [.str "first"]) rfl)])).choose_spec (f8 ((show ∃g,Ss K (cxL P w K mg base f dr A outer s H E) (nth (O1<|nth (m4 G5) 1) 1) g ao by
     exact#v[_,(n9 4 S8.nd<|r9 (iu T) j<|aO 1<|m5 (i8 3)<|m5 (u6 (C4 rfl) (Ev.bw i9)<|Ev.bw<|r9 (u5 T) j<|aO 1<|m5 i9 l0)<|m5 i9 l0)])).choose_spec (f8 ((show ∃g,Ss K (cxL P w K mg base f dr A outer s H E) (nth (O1<|nth (m4 G5) 1) 2) g cz by
      exact#v[_,(n9 5 S8.nd<|r9 (jx T) j<|m5 (i8 4) l0)])).choose_spec (f8 ((show ∃g,Ss K (cxL P w K mg base f dr A outer s H E) (nth (O1<|nth (m4 G5) 1) 3) g cy by
       exact#v[_,(n9 6 S8.nd<|r9 (jC T) j<|m5 (i8 3)<|m5 (i8 4) l0)])).choose_spec (j4 ((show ∃g,Ss K (cxL P w K mg base f dr A outer s H E) (nth (O1<|nth (m4 G5) 1) 4) g gE by
        exact#v[_,K4 rfl (Y5 (e8 i9 l3) T.range) (C3 S8.nd) ((show ∃g,Sss K (cxL P w K mg base f dr A outer s H E) ((nth (O1<|nth (O1<|nth (m4 G5) 1) 4) 0)::(nth (O1<|nth (O1<|nth (m4 G5) 1) 4) 1)::(nth (O1<|nth (O1<|nth (m4 G5) 1) 4) 2)::([])) g (mSq Y8 mNx) by
         unfold Y8;exact#v[_,((by rw[<-IV];exact (Iy 8 rfl S8.nd (kO T) (j.mono<|by decide) (m5 (i8 3)<|m5 (i8 5) l0) (rY<|rY gO) (A7 (HI rfl j.units) (Ev.bw<|l7 (nV rfl j.gd j.units) T.repr nj<|j7 (j8 8) m6)<|j8 6) (j4<|x3 DD) (nG (.tuple [.int 1,.int 1]) rfl) S4)))])).choose_spec])).choose_spec)))))])).choose_spec (f8 ((show ∃g,Ss K (cxL P w K mg base f dr A outer s H E) (nth (m4 G5) 2) g iT by
          exact#v[_,(n9 3 S8.nd<|y4<|e8 (u6 (C4 rfl) (Ev.bw i9)<|Ev.bw<|r9 (u5 T) j<|aO 1<|m5 i9 l0)<|e8 dO<|e8 uW l3)])).choose_spec (f8 ((show ∃g,Ss K (cxL P w K mg base f dr A outer s H E) (nth (m4 G5) 3) g iX by
           exact#v[_,(fZ (r9 (sM T) j<|aO 1<|m5 (i8 3) l0)<|w6 rfl<|f7 (C3 S8.nd)<|f7 (C3 S8.nd) n0)])).choose_spec (j4 ((show ∃g,Ss K (cxL P w K mg base f dr A outer s H E) (nth (m4 G5) 4) g jd by exact#v[_,(x3<|jq (lS rfl j.units) (Ev.bw<|l7 (nV rfl j.gd j.units) T.repr nj<|j7 (Ev.bw<|nv (EZ<|kO T) (j.mono<|by decide) (m5 (i8 3)<|m5 (i8 5) l0)<|rY<|rY gO) m6)<|Ev.bw<|r9 (jC T) j<|m5 (i8 3)<|m5 (i8 4) l0)])).choose_spec))))]
  have D:=(show PS (cxL P w K mg base f dr A outer s H E) ((m4 G5).getD 0<|.Pass #v[0,0,0,0]) (cf (eY (AJ K) [] E0<|z9 (P4 0) T7)<|Q9 1) from L6 S8.nd rfl (by walk_at "v")<|cK (qM T) (j.mono<|by decide) rfl<|r8 (pv 0) A3);have l:=JY (m4 G5) (.Pass #v[0,0,0,0]) (by decide +kernel);generalize List.drop 1 (m4 G5)=R at B l;generalize (m4 G5).getD 0 (QU.Pass { line:=0,col:=0,endLine:=0,endCol:=0 })=S0 at D l;have C:=u9 D B;rw[<-l]at C;refine#v[_,C,#v[_,rfl,a,ns,rfl,L,hl,λd c u M s1=>?_] ];let(F',e):=fin ns hl;have r:FAt K (some (d,c)) u (qk ns):=#v[M,p.congr λb q=>by
   obtain⟨o,e⟩:∃o,H b=some o:=by
    rcases q with q | ⟨O,e⟩
    .let(t,I,rfl):=ue.1 q;let(S,e,_):=p t I;exact#v[_,e]
    .exact#v[_,e]
   rw[e];exact s1 b o e]
  refine J (some (d,c)) (j6 K<|some (d,c)) u _ (qk ns) _ u _ _ F' #v[#v[j6 K<|some (d,c),λ_ z=>z,λb q=>.inl q,#v[r,λ_ z=>z,r.bok,by simp[L2.P2],λi x m=>by let(rfl,rfl):=stE m;exact#v[.ref d,rfl,d,c,rfl,rfl]]],λ_ z=>z,Kp.refl,λ_ _ _ m _=>(nomatch (stE m).2),λ_ _ _ _ _ m _ _ _=>(nomatch (stE m).2),λ_ _ _ _ m=>(nomatch (stE m).2)] e λv N _ _ y=>?_
  simp only[c6]at y;subst y;exact k N
end
end
end K43
namespace K43
open PySem L2 L3 Bz
def Ds:aR=eE ["_law_feed_here","_law_most","_law_rule","_law_hands"]:=rfl
def vV:X2=jb ["_law_feed_here","_law_house_here","_law_many","_law_most","_law_found","_law_k"] ["_law_feed_here","_law_house_here","_law_most","_law_lefts","_law_begun","_law_stand","_law_k","_law_starts"]:=rfl
def Kv:aF=c_lfrac:=rfl
def Ac:aD=nE ["_law_pairs","_law_found","_law_stand","_law_top","_law_whole"]:=rfl
def Jh:kC=bL:=rfl
def FD:mR=og:=rfl
def FM:gy=cB:=rfl
def Ij:P7=D3:=rfl
def nZ:V5=Q1:=rfl
def sm5 (h:n<=100000):n<oA:=p4 (xr h<|uz (show 100000<2 ^ 20 by decide)<|ES (by decide)<|by decide)
def sm9 (h:n<=100000):n<2 ^ 9000:=xr h (uz (show 100000<2 ^ 20 by decide)<|ES (by decide)<|by decide)
abbrev dn (W:Nat)(p:Kw Pn):Nat:=(mkRat p.2 W).den
section
variable {Q:CD->FdS->Prop}
def nr (hW:1<=W)(p):dn W p ∣ W:=(gU p.2<|by lia).1
def BA (W:Nat)(rs:List (Kw Pn)):Nat:=rs.foldl (λb p=>Nat.lcm b<|dn W p) 1
def rV (hW:1<=W)(hW2:W<=1000)(q:∀B,B=BA W rs->1<=B->B ∣ W->(∀p∈rs,dn W p ∣ B)->Q (.int (B:Nat)) F):wp (D9 [.dat<|.tuple<|rs.map<|shD W] F) Q:=by
 unfold D9;rw[Ij];refine V2.2 ?_;walk_at "ka";refine w9q<|l8.2 #v[i6 rfl,k7<|r6.2<|G8.2<|x8.2<|w9g rfl<|d7 S5 (B6 (λj E v=>v=F/\∃(B:Nat) (h g:Option DV),B=BA W (rs.take j)/\1<=B/\B ∣ W/\(∀p∈rs.take j,dn W p ∣ B)/\E=[some<|.dat<|.tuple<|rs.map<|shD W,some<|.dat<|.int B,h,g]) _ 0 _ F #v[rfl,1,none,none,rfl,qD _,Nat.one_dvd _,λp l=>(nomatch l),rfl] ?_ ?_) ]
 .rintro j d e E u ⟨rfl,B,h,g,c,i,f,a,rfl⟩;rw[yo]at c a ⊢;rw[sq]at e;let(p,k,rfl):=sA.1 e;have r:=KR (by lia) f;have n:=KR (by lia)<|nr hW p;have o:1<=dn W p:=iW _;refine#v[_,rfl,y6.2<|v4.2<|w9s rfl<|w9s rfl<|l8.2<|d7 ix1<|d7 (qF (sm5 (by rw[DN];lia))<|sm5 (by rw[DN];lia)) (l5.2<|w9v rfl<|O7.2<|w9s rfl<|l8.2<|d7 ix1<|l9.2<|Ht ?_) ];have s:Int.gcd B ((dn W p:Nat))=Nat.gcd B (dn W p):=rfl;rw[s];have w:0<Nat.gcd B (dn W p):=Nat.gcd_pos_of_pos_left _ (by lia);have m:=Nat.gcd_le_left (dn W p) (show 0<B by lia);refine d7 (jO (by lia)<|sm9 (by rw[DN];lia)) #v[i6 rfl,?_];have t:(B:Int)*((dn W p:Nat)) / ((Nat.gcd B (dn W p):Nat))=((Nat.lcm B (dn W p):Nat)):=by rw[<-QL,<-QI];rfl
  rw[t];refine#v[_,rfl,rfl,Nat.lcm B<|dn W p,_,_,by unfold BA at *;rw[ED,k,Pg,<-c];rfl,Nat.lcm_pos (by lia) (by lia),Nat.lcm_dvd f<|nr hW p,λz b=>?_,rfl];rw[ED,k]at b;rcases zj.1 b with b | b
  .exact Nat.dvd_trans (a z b)<|Nat.dvd_lcm_left _ _
  .rw[xp.1 b];exact Nat.dvd_lcm_right _ _
 .rintro E u ⟨rfl,B,h,g,c,i,f,a,rfl⟩;rw[yo,jI,Il]at c a;exact k7<|O6.2<|w9g rfl<|M0<|q B c i f a
abbrev wtB (W B:Nat)(p:Kw Pn):Int:=(mkRat p.2 W).num*((B / dn W p:Nat):Int)
def BJ (hW:1<=W)(hd:dn W p ∣ B):wtB W B p*W=p.2*B:=by
 have c:=(QF (by lia) (mkRat p.2 W).den_nz).1 ((Rat.mkRat_self _).symm);have b:((dn W p):Int)*((B / dn W p:Nat))=B:=by rw[<-QL,Nat.mul_div_cancel' hd]
 have a:wtB W B p*W=((mkRat p.2 W).num*W)*((B / dn W p:Nat)):=by rw[Os,OM _ W,<-Os]
 rw[a,<-c,Os,b]
def Lf {me:DE->M CD}{rest:DE}:∀(ds:List (Kw Pn)) o o' o'' F (Q:List CD->FdS->Prop),(∀p∈ds,∀F (Q:CD->FdS->Prop),Q (f p) F->wp (me (some (.dat<|rwD pnD p.1)::some (.dat<|.int (mkRat p.2 W).num)::some (.dat<|.int ((dn W p:Nat):Int))::rest) F) Q)->Q (ds.map f) F ->
  wp (W1 (D4 2<|i7 (bN 0)<|i7 (D4 2<|i7 (bN 1)<|i7 (bN 2) D6) D6) R9 me (ds.map<|shD W) (o::o'::o''::rest) F) Q
 | [],o,o',o'',F,Q,_,q=>d8.2 q
 | d::ds,o,o',o'',F,Q,h,q=>by rw[kX,W1];have e:D4 2 (i7 (bN 0)<|i7 (D4 2<|i7 (bN 1)<|i7 (bN 2) D6) D6) (shD W d) (o::o'::o''::rest)=some (some (.dat<|rwD pnD d.1)::some (.dat<|.int (mkRat d.2 W).num)::some (.dat<|.int ((dn W d:Nat)) )::rest):=rfl;rw[e,tV,c8];refine jv.2 ?_;rw[nY rfl,c8];refine h d ll F _ ?_;rw[c8];exact Lf ds _ _ _ _ _ (λp a=>h p<|kN _ a)<|d8.2 q
def zB (hW:1<=W)(h0:1<=p.2/\p.2<=100):(mkRat p.2 W).num.natAbs<=100*dn W p:=by
 refine(gU p.2<|by lia).2 100 ?_;have:p.2.natAbs<=100:=by lia
 exact uj this (OZ _<|by lia)
def mI (hW:1<=W)(hW2:W<=1000)(hl:rs.length<=1000)(hr:∀p∈rs,1<=p.2/\p.2<=100)(q:∀B,B=BA W rs->1<=B->B ∣ W->(∀p∈rs,dn W p ∣ B)->Q (.list<|rs.map λp=>.int<|wtB W B p) F):wp (O4 [.dat<|.tuple<|rs.map<|shD W] F) Q:=by
 refine V2.2 ?_;walk_at "ka";refine w9q (l5.2<|w9v rfl<|l9.2<|rV hW hW2 λB j i b a=>#v[i6 rfl,k7 (O6.2 (P1.2<|x8.2<|w9w rfl<|d7 S5 #v[sz (by rw[jI];(first|lia|omega)),?_])) ]);refine Lf rs _ _ _ _ _ (λp c F Q q=>?_)<|M0<|q B j i b a;have g:=KR (by (first|lia|omega)) b;have e:=KR (by (first|lia|omega))<|nr hW p;have f:1<=dn W p:=iW _;refine w9s rfl (w9s rfl<|w9w rfl<|d7 (jO (by (first|lia|omega))<|sm9 (by rw[DN];(first|lia|omega))) ?_);rw[<-QI];have k:B / dn W p<=B:=Nat.div_le_self _ _;exact d7 (qF (sm5 (by have h:=zB hW<|hr p c;have:=Nat.mul_le_mul_left 100 (by (first|lia|omega));(first|lia|omega)) )<|sm5 (by rw[DN];(first|lia|omega))) q
end
section
variable {F:FdS}
def gK (b:DE->M α)(Q:α->FdS->Prop)(o:Out)(F1:FdS):Prop:=match o with
 | .nx E1=>wp (b E1 F1) Q
 | _=>False
def Mt {a:DE->M Out}(h:wp (a E F) (gK b Q)):wp (gSq a b E F) Q:=by
 unfold gSq;rw[c8];refine i4 h λo e c=>?_
 cases o with
 | nx E1=>exact c
 | rt d=>exact c.elim
 | bk E1=>exact c.elim
 | ct E1=>exact c.elim
def uf {b:DE->M α}{Q:α->FdS->Prop}(h:wp (b E1 F) Q):gK b Q (.nx E1) F:=h
end
def sumK (k:Int)(ps:List (Int×Int)):Int:=(ps.map λp=>if p.1=k then p.2 else 0).sum
def S7:List (Int×Int)->Nat
 | []=>0
 | p::ps=>max (p.1.toNat+1)<|S7 ps
theorem aH :∀{ps},S7 ps<=N↔∀p∈ps,p.1.toNat<N
 | []=>#v[λ_ p b=>(nomatch b),λ_=>CW _]
 | p::ps=>by rw[S7,List.forall_mem_cons,<-(aH (N:=N) (ps:=ps)) ];lia
def dS (h:∀n,n∈ps.map (·.1)↔n∈qs.map (·.1)):S7 ps=S7 qs:=by
 have a:∀{ps qs},(∀n,n∈ps.map (·.1)->n∈qs.map (·.1))->S7 ps<=S7 qs:=λ{ps qs} h=>aH.2 λp c=>by let(q,b,e):=ue.1<|h p.1<|ue.2 #v[p,c,rfl];rw[<-e];exact aH.1 (qD _) q b
 exact Nat.le_antisymm (a λn=>(h n).1) (a λn=>(h n).2)
def qt (h:∀p∈ps,0<=p.1):iq [.list ((ps.map (·.1)).map .int),.int (-1)]=some (.int ((S7 ps:Nat)-1:Int)):=by
 unfold iq;dsimp only;rw[aL,tV];cases ps with
 | nil=>rfl
 | cons p ps =>
  rw[oj<|by simp];congr 2;let(q,a,e):=ue.1 (kE (ns:=(p::ps).map (·.1))<|by simp);have f:=h q a;have d:=aH.1 (qD<|S7 (p::ps)) q a;have c:S7 (p::ps)<=(iN ((p::ps).map (·.1))).toNat+1:=aH.2 λr b=>by have:=pf (ue.2 #v[r,b,rfl]:r.1∈(p::ps).map (·.1));lia
  rw[<-e]at c ⊢;lia
def U7 (p) (ds) (m):R0 (p::ds) m=if p.1=m then some p.2 else R0 ds m:=by
 unfold R0;by_cases e:p.1=m
 .rw[yT (by simp[e]),nY e];rfl
 .rw[zb (by simp[e]),oj e]
theorem qV (n v m):∀ds,R0 (ds.map λp=>if p.1=n then(p.1,v) else p) m=if m=n then(R0 ds n).map λ_=>v else R0 ds m
 | []=>by simp[R0]
 | p::ds=>by rw[kX,U7,qV n v m ds,U7,U7];grind
theorem pC (n v m):∀ds,R0 (ds++[(n,v)]) m=(R0 ds m).or (if n=m then some v else none)
 | []=>by rw[zY,U7];rfl
 | p::ds=>by rw[yS,U7,pC n v m ds,U7];split <;> rfl
def rF :R0 (uV ds n v) m=if m=n then some v else R0 ds m:=by
 unfold uV;split
 .rename_i h;let(x,a):=Cc.1 h;rw[qV,a];rfl
 .rename_i h;have a:R0 ds n=none:=by simpa using h
  rw[pC];by_cases e:m=n
  .rw[nY e,nY e.symm,e,a];rfl
  .rw[oj e,oj λz=>e z.symm];simp
def lM :(R0 ds n).isSome=true↔n∈ds.map (·.1):=by unfold R0;rw[NF,List.find?_isSome,ue];simp
section

def Bw {Q:List CD->FdS->Prop}(hl:ps.length<=1000)(h0:∀p∈ps,0<=p.1/\p.1<=10000)(hB:1<=B)(hB2:B<=100000)(q:Q ((List.range<|S7 ps).map λk:Nat=>qd<|mkRat (sumK (k:Int) ps) B) F):wp (ck [.dat<|.list<|ps.map pr,.dat<|.int (B:Int)] F) Q:=by
 have C:S7 ps<=10001:=aH.2 λp l=>by have:=h0 p l;lia
 unfold ck JI;rw[nZ];walk_at "ka";refine Mt<|oY (i6 rfl)<|uf<|Mt<|G8.2<|x8.2<|w9g rfl<|d7 P6<|B6 (λj E A=>A=F/\∃(a:List (Int×Int)) (i h:Option DV),(∀n,(R0 a n).getD 0=sumK n (ps.take j))/\(∀n,n∈a.map (·.1)↔n∈(ps.take j).map (·.1))/\a.length<=j/\E=[some<|.dat<|.list<|ps.map pr,some<|.dat<|.int B,some<|.dic true 9<|a.map zJ,i,h]) _ 0 _ F #v[rfl,[],none,none,λn=>rfl,λn=>by simp,qD _,rfl] ?_ ?_
 .rintro j d e E y ⟨rfl,a,i,h,g,c,b,rfl⟩;rw[yo] at *;rw[sq]at e;let(p,o,rfl):=sA.1 e;have D:=(pG.1 o).1;refine#v[_,rfl,IW rfl<|v4.2<|vm rfl<|w9g rfl<|l8.2 #v[p.1,rfl,?_]];rw[vQ];have s:((R0 a p.1).map CD.int).getD (.int 0) = .int ((R0 a p.1).getD 0):=by cases R0 a p.1 <;> rfl
  rw[s];refine w9w rfl (d7 K3<|w9g rfl #v[p.1,rfl,by rw[jI];lia,#v[_,rfl,rfl,uV a p.1<|(R0 a p.1).getD 0+p.2,_,_,λn=>?_,λn=>?_,?_,by rw[<-KF];rfl] ])
  .rw[rF,(show sumK n (ps.take<|j+1)=sumK n (ps.take j)+if p.1=n then p.2 else 0 by
   unfold sumK;rw[ED,o,yx,QM];simp)]
   by_cases e:n=p.1
   .rw[nY e,nY e.symm,Option.getD_some,g,e]
   .rw[oj e,oj λz=>e z.symm,g];lia
  .rw[<-lM,rF,ED,o,yx,zj,<-c,<-lM];by_cases e:n=p.1
   .simp[e]
   .simp[e]
  .have:=(show (uV a p.1<|(R0 a p.1).getD 0+p.2).length<=a.length+1 by
   unfold uV;split
   .rw[jI];lia
   .simp)
   lia
 .rintro E y ⟨rfl,a,i,h,g,c,b,rfl⟩;rw[yo,jI,Il] at *;refine uf<|HE<|U1.2<|d6.2<|v4.2<|E5.2<|d6.2<|uo rfl<|d6.2<|Gx.2<|l8.2<|d7 rfl<|h8.2 ?_;have v:(a.map zJ).map (·.1)=(a.map (·.1)).map CD.int:=by rw[sJ,sJ];rfl
  rw[v];refine d7 (qt (λp l=>by let(r,t,e):=ue.1<|(c p.1).1<|ue.2 #v[p,l,rfl];rw[<-e];exact(h0 r t).1) )<|l8.2<|d7 K3<|h8.2 ?_;have s:((S7 a):Int)-1+1=((S7 ps:Nat)):=by rw[dS c ];lia
  rw[s];refine d7 (bU<|by lia) #v[sz (by rw[jI,xB];lia),zU (List.range<|S7 ps) _ (λk c F Q q=>?_) q ];refine w9l<|vm rfl<|w9g rfl<|l8.2 #v[k,rfl,?_];rw[vQ];have w:((R0 a k ).map CD.int).getD (.int 0) = .int ((R0 a k ).getD 0):=by cases R0 a k <;> rfl
  rw[w,g];exact w9v rfl (l9.2<|uA (by lia) (sm9 hB2) q)
end
def K6 (l:List Int)(w:Int):List Int:=match l with
 | []=>[]
 | a::r=>jy ((a+w)::r)
def V3 (l:List Int)(w:Int):List Int:=l.set (l.idxOf<|T3 l)<|l.getD (l.idxOf<|T3 l) 0+w
theorem qI:∀{l:List Int} {m w},m∈l->(l.set (l.idxOf m) w).Perm (w::l.erase m)
 | a::l,m,w,h=>by
  by_cases e:a=m
  .subst e;simp
  .have b:m∈l:=by
    rcases oZ.1 h with h | h
    .exact absurd h.symm e
    .exact h
   have c:(a == m)=false:=by simpa using e
   rw[List.idxOf_cons,c,cond_false,Qm,List.erase_cons,oj<|by simpa using e];exact((qI b).cons a).trans<|.swap w a _
def FF (h:m∈l)(h2:∀n∈l,m<=n):T3 l=m:=by let(a,b):=aw<|List.ne_nil_of_mem h;exact QK (b m h)<|h2 _ a
structure RH z (hs F:List Int):Prop where
 pm:hs.Perm (F++List.replicate z 0)
 so:F.Pairwise (· <= ·)
 ne:F≠[]
 nn:∀x∈F,0<=x
def RH.min (h:RH z hs (a::r))(hz:0<z->0∈a::r):a∈hs/\T3 hs=a:=by
 have d:=h.pm.mem_iff.2<|Of _ ll;have c:∀n∈a::r,a<=n:=λn b=>by
  rcases oZ.1 b with rfl | b
  .exact Fg _
  .exact(xN.1 h.so).1 n b
 refine#v[d,FF d λn b=>?_];rcases zj.1 (h.pm.mem_iff.1 b) with b | b
 .exact c n b
 .let(e,rfl):=NV.1 b;exact c 0 (hz<|by lia)
def RH.step (h:RH z hs F)(hz:0<z->0∈F)(hw:0<=w):RH z (V3 hs w) (K6 F w):=by
 cases F with
 | nil=>exact absurd rfl h.ne
 | cons a r =>
  let(d,g):=h.min hz;have c:(K6 (a::r) w).Perm ((a+w)::r):=L9 _;refine#v[?_,bT _,λe=>?_,λx b=>?_]
  .unfold V3;rw[g,(show hs.getD (hs.idxOf a) 0=a by have:=List.idxOf_lt_length_iff.2 d;rw[uE,qK this,List.getElem_idxOf this];rfl)]
   refine(qI d).trans ?_;have f:=h.pm.erase a;rw[yS,List.erase_cons_head]at f;exact(f.cons<|a+w).trans<|List.Perm.append_right (List.replicate z 0) c.symm
  .have:=c.length_eq;rw[e]at this;simp at this
  .rcases oZ.1 (c.mem_iff.1 b) with rfl | b
   .have:=h.nn a ll;lia
   .exact h.nn x<|kN _ b
def wq :(K6 F w).length=F.length:=by
 cases F with
 | nil=>rfl
 | cons a r=>exact(L9 _).length_eq
theorem RH.fold :∀{ws hs F:List Int},RH z hs F->(0<z->ws.length+c<=F.count 0)->1<=c->(∀w∈ws,0<=w)->RH z (ws.foldl V3 hs) (ws.foldl K6 F)/\(0<z->c<=(ws.foldl K6 F).count 0)
 | [],hs,F,h,hz,hc,_=>#v[h,λb=>by have:=hz b;simpa using this]
 | w::ws,hs,F,h,hz,hc,hw=>by
  rw[Kr,Kr];refine RH.fold (h.step (λb=>?_)<|hw w ll) (λb=>?_) hc λv d=>hw v<|kN _ d
  .have:=hz b;exact List.count_pos_iff.1 (by rw[qN]at this;lia)
  .have f:=hz b;have g:=(show F.count 0<=(K6 F w).count 0+1 by
    cases F with
    | nil=>simp
    | cons a r =>have e:(K6 (a::r) w).Perm ((a+w)::r):=L9 _;rw[e.count_eq,List.count_cons,List.count_cons];split <;> split <;> lia)
   rw[qN]at f;lia
theorem pJ :∀{ws F X:List Int},F.Perm (X++List.replicate (m+ws.length) 0)->F.Pairwise (· <= ·)->(∀x∈F,0<=x)->(∀w∈ws,0<=w)->(ws.foldl K6 F).Perm (X++ws++List.replicate m 0)/\(ws.foldl K6 F).Pairwise (· <= ·)/\∀x∈ws.foldl K6 F,0<=x
 | [],F,X,hp,hs,hn,_=>#v[by simpa using hp,hs,hn]
 | w::ws,F,X,hp,hs,hn,hw=>by
  have g:=hp.mem_iff.2 (uO _<|NV.2 #v[by simp,rfl]);cases F with
  | nil=>cases g
  | cons a r =>
   have k:a=0:=by
    have f:=hn a ll;rcases oZ.1 g with h | h
    .exact h.symm
    .have:=(xN.1 hs).1 0 h;lia
   subst k;have c:(K6 (0::r) w).Perm ((0+w)::r):=L9 _;have j:r.Perm (X++List.replicate (m+ws.length) 0):=by
    have e:X++List.replicate (m+(w::ws).length) 0=X++(0::List.replicate (m+ws.length) 0):=by rw[qN,<-Pp,Ft]
    rw[e]at hp;exact(hp.trans List.perm_middle).cons_inv
   have f:(K6 (0::r) w).Perm ((X++[w])++List.replicate (m+ws.length) 0):=by rw[Int.zero_add]at c;refine c.trans<|(j.cons w).trans ?_;rw[NZ];exact List.perm_middle.symm
   have d:∀x∈K6 (0::r) w,0<=x:=λx b=>by
    rcases oZ.1 (c.mem_iff.1 b) with rfl | b
    .have:=hw w ll;lia
    .exact hn x<|kN _ b
   let(o,n,l):=pJ f (bT _) d λv i=>hw v<|kN _ i
   refine#v[?_,n,l];rw[Kr];simpa using o
def L0 (ps:List Pn):List Int:=(ps.filter λp=>p.2.2).map λp=>p.2.1
def L7 (ps:List Pn):List Int:=(ps.filter λp=>!p.2.2).map λp=>p.2.1
def T5 (h:Nat)(ps:List Pn):Int:=((L0 ps++L7 ps).foldl K6<|List.replicate (min h<|ps.length+1) 0).headD 0
def uY (ps):(L0 ps).length=C9 ps/\(L0 ps).length+(L7 ps).length=ps.length:=by
 unfold L0 L7 C9;refine#v[by rw[jI],?_];rw[jI,jI];induction ps with
 | nil=>rfl
 | cons p ps a =>rw[Gw,Gw,qN];cases p.2.2 <;> simp <;> lia
def rP (h1:1<=h)(hb:C9 ps<=h)(hw:∀p∈ps,0<=p.2.1):T3 ((L7 ps).foldl V3<|L0 ps++List.replicate (h-C9 ps) 0)=T5 h ps/\(∀x∈(L7 ps).foldl V3 (L0 ps++List.replicate (h-C9 ps) 0),0<=x):=by
 let(n,y):=uY ps;obtain⟨k,s⟩:∃k,k=min h (ps.length+1):=#v[_,rfl];have g:∀w∈L7 ps,0<=w:=λw b=>by let(p,j,rfl):=ue.1 b;exact hw p (xM.1 j).1
 have q:C9 ps<=k:=by lia
 let(d,v,u):=pJ (by rw[zY,n,Nat.sub_add_cancel q]) (List.pairwise_replicate.2<|.inr<|Fg _) (λx f=>by rw[(NV.1 f).2];exact Fg _) (λw b=>by let(p,j,rfl):=ue.1 b;exact hw p (xM.1 j).1)
 rw[zY]at d;have R:RH (h-k) (L0 ps++List.replicate (h-C9 ps) 0) ((L0 ps).foldl K6<|List.replicate k 0):=by
  refine#v[?_,v,λe=>?_,u]
  .have e:List.replicate (h-C9 ps) (0:Int)=List.replicate (k-C9 ps) 0++List.replicate (h-k) 0:=by rw[List.replicate_append_replicate];congr 1;lia
   rw[e,<-NZ];exact List.Perm.append_right _ d.symm
  .have:=d.length_eq;rw[e,xy,CZ,n]at this;simp at this;lia
 let(R2,o):=R.fold (λl=>by rw[d.count_eq,List.count_append,List.count_replicate_self];lia) (qD _) g
 have t:T5 h ps=((L7 ps).foldl K6<|(L0 ps).foldl K6<|List.replicate k 0).headD 0:=by unfold T5;rw[Pg,s]
 rw[t];generalize (L7 ps).foldl K6 ((L0 ps).foldl K6<|List.replicate k 0)=F at R2 o;cases F with
 | nil=>exact absurd rfl R2.ne
 | cons a r =>
  refine#v[(R2.min λl=>List.count_pos_iff.1<|o l).2,λx f=>?_];rcases zj.1 (R2.pm.mem_iff.1 f) with h | h
  .exact R2.nn x h
  .rw[(NV.1 h).2];exact Fg _
theorem vN :∀ws:List Int,ws.foldl K6 [x]=[x+ws.sum]
 | []=>by simp
 | w::ws=>by rw[Kr];show ws.foldl K6 [x+w]=_;rw[vN ws,CP];congr 1;lia
def Jt (ps):(L0 ps++L7 ps).sum=(ps.map λp=>p.2.1).sum:=by
 rw[QM];unfold L0 L7;induction ps with
 | nil=>rfl
 | cons p ps a =>rw[Gw,Gw,kX,CP,<-a];cases p.2.2 <;> simp <;> lia
def EA {l:List Int}{M:Nat}(h:∀x∈l,0<=x/\x<=M)(h0:0<=w)(h1:w<=10):∀x∈V3 l w,0<=x/\x<=((M+10:Nat):Int):=λx a=>by
 rcases List.mem_or_eq_of_mem_set a with a | rfl
 .have:=h x a;lia
 .have:0<=l.getD (l.idxOf<|T3 l) 0/\l.getD (l.idxOf<|T3 l) 0<=M:=by
   rw[uE];cases e:l[l.idxOf<|T3 l]? with
   | none=>exact#v[Fg _,by show(0:Int)<=M;lia]
   | some v=>exact h v<|uP e
  lia
theorem jD:∀{ws l:List Int} {M:Nat},(∀x∈l,0<=x/\x<=M)->(∀w∈ws,0<=w/\w<=10)->∀x∈ws.foldl V3 l,0<=x/\x<=((M+10*ws.length:Nat):Int)
 | [],l,M,h,_=>h
 | w::ws,l,M,h,hw=>λx a=>by have:=jD (EA h (hw w ll).1 (hw w ll).2) (λv b=>hw v<|kN _ b) x a;rw[qN];lia
theorem nA:∀{ws l:List Int},(ws.foldl V3 l).length=l.length
 | [],l=>rfl
 | w::ws,l=>by rw[Kr,nA];unfold V3;rw[As]
def CG {ps:List Pn}(hp:∀p∈ps,1<=p.2.1/\p.2.1<=10):∀w∈(ps.filter g).map λp=>p.2.1,0<=w/\w<=10:=λw b=>by let(p,a,rfl):=ue.1 b;have:=hp p (xM.1 a).1;lia
def Du (hp:∀p∈ps,1<=p.2.1/\p.2.1<=10):∀x∈L0 ps++List.replicate (h-C9 ps) 0,0<=x/\x<=((10:Nat):Int):=λx a=>by
 rcases zj.1 a with a | a
 .exact CG hp x a
 .rw[(NV.1 a).2];lia
def wH (h1:1<=h)(hb:C9 ps<=h)(hp:∀p∈ps,1<=p.2.1/\p.2.1<=10):0<=T5 h ps/\T5 h ps<=((10+10*ps.length:Nat):Int):=by
 let(d,_):=rP h1 hb λp a=>by have:=hp p a;lia
 let(i,f):=uY ps;have b:(L7 ps).foldl V3 (L0 ps++List.replicate (h-C9 ps) 0)≠[]:=λe=>by have:=nA (ws:=L7 ps) (l:=L0 ps++List.replicate (h-C9 ps) 0);rw[e,xy,CZ]at this;simp at this;lia
 have c:=jD (Du hp) (CG hp) _ (aw b).1;have e:((ps.filter λp=>!p.2.2).map λp=>p.2.1).length=(L7 ps).length:=rfl;rw[e]at c;rw[<-d];exact#v[c.1,by have:=c.2;lia]
theorem kJ :∀{l:List (Int × α)},(∀q∈l,p.1<=q.1)->Q7 p l=p::l
 | [],_=>rfl
 | q::r,h=>by rw[Q7,nY<|h q ll]
theorem qi :∀{l m:List (Int × α)},(∀q∈l,q.1<p.1)->Q7 p (l++m)=l++Q7 p m
 | [],m,_=>rfl
 | q::r,m,h=>by have:=h q ll;rw[yS,Q7,oj (by lia),qi λx a=>h x<|kN _ a];rfl
theorem rK:∀l:List Pn,v6 (l.map λp=>(bI (!p.2.2),pnD p))=(l.filter λp=>p.2.2).map (λp=>((0:Int),pnD p))++(l.filter λp=>!p.2.2).map λp=>((1:Int),pnD p)
 | []=>rfl
 | p::l=>by
  rw[kX,v6,rK l,Gw,Gw];have b:∀q∈(l.filter λp=>!p.2.2).map (λp=>((1:Int),pnD p)),q.1=1:=λq a=>by let(z,_,rfl):=ue.1 a;rfl
  have c:∀q∈(l.filter λp=>p.2.2).map (λp=>((0:Int),pnD p)),q.1=0:=λq a=>by let(z,_,rfl):=ue.1 a;rfl
  cases e:p.2.2
  .rw[oj (by decide),nY (show(!false)=true from rfl),kX,qi λq a=>by rw[c q a];show(0)<1;decide];congr 1;exact kJ λq a=>by rw[b q a];exact Fg _
  .rw[nY rfl,oj (show ¬(!true)=true by decide),kX];refine kJ λq a=>?_
   rcases zj.1 a with a | a
   .rw[c q a];exact Fg _
   .rw[b q a];show(0)<=1;decide
theorem qo {me:DE->M CD}{E0:DE}:∀(l:List Pn) (F:FdS),(∀p∈l,me (some (.dat<|pnD p)::E0) F=some (k p,F))->dq me E0 (l.map pnD) F=some (l.map k,F)
 | [],F,_=>rfl
 | p::l,F,h=>by show(me (some (.dat<|pnD p)::E0) F).bind _=_;rw[h p ll,tV];rw[qo l F λx a=>h x<|kN _ a];rfl
def GP :ixD (.list<|(a::r).map .int) (.int 0)=some (.int a):=Mp (by simp)
def jw (l:List Pn):List Pn:=(l.filter λp=>p.2.2)++l.filter λp=>!p.2.2
section
variable {F:FdS}
abbrev hsD (h:Nat)(pl:Option Nat)(r:CD):CD:=.tuple [.int (h:Int),plD pl,r]
def Lu {Q:CD->FdS->Prop}{ma:DE->M (List CD)}(h64:l.length<64)(q:wp (ma E F) λxs F1=>qf xs=some (l.map pnD)/\Q (.list<|(jw l).map pnD) F1):wp (sSK ma [] (yE<|s2 ixD (sW 0)<|sC<|.int 2) E F) Q:=by
 refine Ju (i4 q λxs F1 #v[e,q]=>#v[l.map pnD,l.map λp=>.bool (!p.2.2),l.map λp=>bI (!p.2.2),e,by rwa[jI],qo l F1 λp _=>rfl,?_,?_])
 .have:=iy (l.map λp=>!p.2.2);rwa[sJ,sJ]at this
 .rw[T8,rK,yx,sJ,sJ];unfold jw at q;rwa[yx]at q
def HS (h:ns.length<64):bc [.list<|ns.map .int]=some (.list<|(jy ns).map .int):=by simp only[bc,aL];rw[nY h]
def yu (l):(jw l).map (λp=>p.2.1)=L0 l++L7 l:=by unfold jw L0 L7;rw[yx]
def AD {Q:CD->FdS->Prop}(h3:h<=40)(hl:ps.length<60)(h1:1<=h)(q:Q (.int<|T5 h ps) F):wp (O2 [.dat<|hsD h pl r,.dat<|.tuple<|(ps++[x]).map pnD] F) Q:=by
 unfold O2;rw[FM];refine V2.2 ?_;walk_at "ka";refine w9q<|v4.2<|l8.2<|l5.2<|w9v rfl<|w9v rfl<|l9.2<|Kh ?_;obtain⟨k,s⟩:∃k,k=min h (ps++[x]).length:=#v[_,rfl];have o:k=min h (ps.length+1):=by rw[s,xy];rfl
 rw[<-s];refine d7 (HK<|by lia) #v[i6 rfl,k7 (r6.2 (G8.2<|x8.2<|Lu (l:=ps) (by lia)<|d6.2<|lH.2<|w9w rfl<|lY.2<|yK.2<|Gx.2<|l8.2<|d7 rfl<|d7 xA<|d7 uR<|h8.2 #v[?_,d7 P6 ?_])) ]
 .rw[Cf,jI,xy,yx];show some ((ps.map pnD++[pnD x]).take<|ps.length+1-1)=_;rw[Nat.add_sub_cancel,List.take_left'<|by rw[jI]]
 have B:List.replicate k (CD.int 0)=(List.replicate k (0) ).map .int:=by rw[List.map_replicate]
 rw[B];refine B6 (λj E D=>D=F/\∃m i g,E=[some<|.dat<|hsD h pl r,some<|.dat<|.tuple<|(ps++[x]).map pnD,some<|.dat<|.list<|((((jw ps).take j).map λp=>p.2.1).foldl K6<|List.replicate k 0).map .int,m,i,g]) _ 0 _ F #v[rfl,none,none,none,rfl] ?_ ?_
 .rintro j d e E C ⟨rfl,m,i,g,rfl⟩;rw[yo];rw[sq]at e;let(p,t,rfl):=sA.1 e;refine#v[_,rfl,?_];have u:∀b:List Int,(b.foldl K6<|List.replicate k 0).length=k:=λb=>by
   have:∀(b l:List Int),(b.foldl K6 l).length=l.length:=λb=>by
    induction b with
    | nil=>intro l;rfl
    | cons w b n=>intro l;rw[Kr,n,wq]
   rw[this,CZ]
  have y:((jw ps).take<|j+1).map (λp=>p.2.1)=((jw ps).take j).map (λp=>p.2.1)++[p.2.1]:=by rw[ED,t,yx];rfl
  have c:=u (((jw ps).take j).map λp=>p.2.1);have v:(((jw ps).take<|j+1).map<|λp=>p.2.1).foldl K6 (List.replicate k 0)=K6 ((((jw ps).take j).map λp=>p.2.1).foldl K6<|List.replicate k 0) p.2.1:=by rw[y,Pg];rfl
  rw[v];generalize (((jw ps).take j).map λp=>p.2.1).foldl K6 (List.replicate k 0)=G at c ⊢;cases G with
  | nil=>exact absurd c (by simp;lia)
  | cons a f =>refine y6.2<|E5.2<|d6.2<|v4.2<|Bk.2<|d6.2<|v4.2<|w9s rfl<|l8.2<|d7 GP<|w9w rfl<|d7 K3<|h8.2 #v[v8 rfl,lH.2<|w9w rfl<|yK.2<|l8.2<|d7 xA<|lY.2<|d7 Ax ?_ ];rw[MX];rw[qN]at c;refine d7 (Jm (by rw[jI,Qw];simp;lia))<|h8.2 ?_;have A:[CD.int<|a+p.2.1]++((a::f).drop 1).map .int=((a+p.2.1)::f).map .int:=rfl;rw[A];exact d7 (HS (by rw[qN];lia)) #v[i6 rfl,_,rfl,rfl,_,_,_,rfl]
 .rintro E C ⟨rfl,m,i,g,rfl⟩;rw[yo,jI,Il,yu];refine k7<|O6.2<|w9s rfl<|l8.2 ?_;have z:T5 h ps=((L0 ps++L7 ps).foldl K6<|List.replicate k 0).headD 0:=by unfold T5;rw[o]
  have c:((L0 ps++L7 ps).foldl K6<|List.replicate k 0).length=k:=by
   have:∀(b l:List Int),(b.foldl K6 l).length=l.length:=λb=>by
    induction b with
    | nil=>intro l;rfl
    | cons w b n=>intro l;rw[Kr,n,wq]
   rw[this,CZ]
  rw[z]at q;generalize (L0 ps++L7 ps).foldl K6 (List.replicate k 0)=G at c q ⊢;cases G with
  | nil=>exact absurd c (by simp;lia)
  | cons a f=>exact d7 GP<|M0 q
end
theorem zM:∀{l:List Int},(∀x∈l,0<=x/\x<=4000)->CD.weightAll (l.map .int)<=14*l.length
 | [],_=>by simp[CD.weightAll]
 | x::l,h=>by
  have d:=zM λy b=>h y<|kN _ b
  have e:=h x ll;have f:CD.weight (.int x)<=13:=by
   rw[CD.weight.eq_5];split
   .omega
   .rename_i a;have c:x.natAbs≠0:=by intro z;exact a (by simp;lia)
    have:=(Qh c (k:=12)).2 (by lia);lia
  simp only[kX,CD.weightAll,qN];lia
def GN (h:l≠[]):lX [.list<|l.map .int]=some (.int<|T3 l):=by unfold lX;dsimp only;rw[aL,tV,oj h]
def zR {mt:DE->M Bool}{me:DE->M CD}{rest:DE}{Q:List CD->FdS->Prop}:∀(ds:List Pn) o o' o'',(∀p∈ds,∀(Q:Bool->FdS->Prop),Q (g p) F->wp (mt (some (.dat<|.int p.1)::some (.dat<|.int p.2.1)::some (.dat<|.bool p.2.2)::rest) F) Q) ->
  (∀p∈ds,∀(Q:CD->FdS->Prop),Q (f p) F->wp (me (some (.dat<|.int p.1)::some (.dat<|.int p.2.1)::some (.dat<|.bool p.2.2)::rest) F) Q)->Q ((ds.filter g).map f) F ->
  wp (W1 (D4 3<|i7 (bN 0)<|i7 (bN 1)<|i7 (bN 2) D6) mt me (ds.map pnD) (o::o'::o''::rest) F) Q
 | [],o,o',o'',_,_,q=>d8.2 q
 | d::ds,o,o',o'',ht,h,q=>by
  rw[kX,W1];have e:D4 3 (i7 (bN 0)<|i7 (bN 1)<|i7 (bN 2) D6) (pnD d) (o::o'::o''::rest)=some (some (.dat<|.int d.1)::some (.dat<|.int d.2.1)::some (.dat<|.bool d.2.2)::rest):=rfl;rw[e,tV,c8];refine ht d ll _ ?_;cases c:g d with
  | false =>rw[NO (by rw[c];simp)]at q;rw[oj<|by simp];exact zR ds _ _ _ (λd a=>ht d<|kN _ a) (λd a=>h d<|kN _ a) q
  | true =>rw[Md c,kX]at q;rw[nY rfl,c8];refine h d ll _ ?_;rw[c8];exact zR ds _ _ _ (λd a=>ht d<|kN _ a) (λd a=>h d<|kN _ a)<|d8.2 q
section
variable {ps:List Pn}
def MN {Q:CD->FdS->Prop}(hl:ps.length<=1000)(hE:E[i]? = some (some<|.dat<|.tuple<|ps.map pnD))(q:Q (.int (ps.map λp=>p.2.1).sum) F):wp (sN dh (d4 (sLC (M4<|sW i) 1 [] (bN 0) R9<|s2 ixD (sW 0)<|sC<|.int 1) j3) E F) Q:=by
 refine E5.2 (d6.2<|P1.2<|x8.2<|x4.2<|B9 hE<|d7 S5 #v[sz (by rw[jI];lia),zU ps _ (λp _ F Q q=>w9s rfl<|l8.2<|d7 rfl q)<|h8.2 ?_ ]);have e:ps.map (λp=>CD.int p.2.1)=(ps.map λp=>p.2.1).map CD.int:=by rw[sJ];rfl
 rw[e];exact d7 kj q
structure StW h (ps:List Pn):Prop where
 len:ps.length<=24
 wk:∀p∈ps,1<=p.2.1/\p.2.1<=10
 bg:C9 ps<=h
def Jr {Q:CD->FdS->Prop}(h1:1<=h)(h3:h<=3)(S:StW h ps)(q:Q (.int<|T5 h ps) F):wp (X6 [.dat<|hsD h pl r,.dat<|.tuple<|ps.map pnD] F) Q:=by
 have hl:=S.len;unfold X6;refine V2.2 ?_;walk_at "ka";refine w9i (cj.2<|v4.2<|w9s rfl<|l8.2<|d7 rfl<|l8.2<|d7 eqZ<|d7 rfl<|X3 (λi=>?_) λi=>cQ.2<|k7 ?_)
 .have e:h=1:=by have:=xO i;lia
  subst e;rw[(show T5 1 ps=(ps.map λp=>p.2.1).sum by
   unfold T5;have e:min 1 (ps.length+1)=1:=by lia
   rw[e];show((L0 ps++L7 ps).foldl K6 [0]).headD 0=_;rw[vN,Jt];simp)]at q
  exact O6.2 (MN (by lia) rfl<|Ae<|M0 q)
 let(N,_):=rP h1 S.bg (λp I=>by have:=S.wk p I;lia);let(Y,b2):=uY ps;refine r6.2 (jG.2<|HE<|x8.2<|w9w rfl<|d7 S5 #v[sz (by rw[jI];lia),zR (g:=λp=>p.2.2) (f:=λp=>.int p.2.1) ps _ _ _ (λp _ Q q=>EV.2<|w9w rfl<|d7 rfl q) (λp _ Q q=>w9g rfl q) #v[i6 rfl,k7 ?_] ]);have V:(ps.filter λp=>p.2.2).map (λp=>CD.int p.2.1)=(L0 ps).map .int:=by unfold L0;rw[sJ];rfl
 rw[V];refine r6.2<|jG.2<|Di.2<|x4.2<|du rfl<|v4.2<|l8.2<|v4.2<|w9s rfl<|l8.2<|d7 rfl<|E5.2<|d6.2<|x4.2<|du rfl<|h8.2<|d7 Dc<|d7 jX ?_;have R:=S.bg;have X:(h:Int)-(((L0 ps).map CD.int).length:Nat)=((h-C9 ps:Nat):Int):=by rw[jI,Y];lia
 rw[X];refine d7 (HK<|by lia) #v[_,_,rfl,rfl,sz (by rw[jI,CZ];lia),i6 rfl,k7 ?_];have W:(L0 ps).map CD.int++List.replicate (h-C9 ps) (.int 0)=(L0 ps++List.replicate (h-C9 ps) 0).map .int:=by rw[yx,List.map_replicate]
 rw[W];have o:=Du (h:=h) S.wk;have b:∀ws:List Int,ws.foldl V3 (L0 ps++List.replicate (h-C9 ps) 0)≠[]:=λws e=>by have:=nA (ws:=ws) (l:=L0 ps++List.replicate (h-C9 ps) 0);rw[e,xy,CZ]at this;simp at this;lia
 have a:∀ws:List Int,(ws.foldl V3<|L0 ps++List.replicate (h-C9 ps) 0).length=h:=λws=>by rw[nA,xy,CZ];lia
 generalize L0 ps++List.replicate (h-C9 ps) 0=H0 at N o b a ⊢;refine r6.2<|G8.2<|x8.2<|w9g rfl<|d7 S5<|B6 (λj E F'=>F'=F/\∃v u t s,E=[some<|.dat<|hsD h pl r,some<|.dat<|.tuple<|ps.map pnD,some<|.own<|((L7<|ps.take j).foldl V3 H0).map .int,v,u,t,s]) _ 0 _ F #v[rfl,none,none,none,none,rfl] ?_ ?_
 .rintro j d e E Z ⟨rfl,v,u,t,s,rfl⟩;rw[yo];rw[sq]at e;let(p,L,rfl):=sA.1 e;have I:=S.wk p<|uP L;have K:L7 (ps.take<|j+1)=L7 (ps.take j)++if p.2.2=true then[] else[p.2.1]:=by unfold L7;rw[ED,L,Ih,yx];congr 1;show([p].filter _).map _=_;cases n:p.2.2 <;> simp[n]
  refine#v[_,rfl,cV.2<|zV.2<|EV.2<|w9w rfl<|d7 rfl<|X3 (λi=>?_) λi=>?_]
  .have n:p.2.2=false:=by simpa using i
   rw[K,n,oj (by decide),Pg];have O:((ps.take j).filter λp=>!p.2.2).length<=24:=uj (Bo ..) (by rw[Bp];lia);have C:∀x∈(L7<|ps.take j).foldl V3 H0,0<=x/\x<=4000:=λx m=>by have:=(jD o (CG (ps:=ps.take j) (g:=λp=>!p.2.2) λx m=>S.wk x<|List.mem_of_mem_take m)) x m;rw[jI]at this;lia
   have y:=b<|L7<|ps.take j;have z:=a<|L7<|ps.take j;have U:[p.2.1].foldl V3 ((L7<|ps.take j).foldl V3 H0)=V3 ((L7<|ps.take j).foldl V3 H0) p.2.1:=rfl;rw[U];generalize (L7<|ps.take j).foldl V3 H0=G at C y z ⊢;let(D,_):=aw y;have J:=List.idxOf_lt_length_iff.2 D;refine w9q (v4.2 (x4.2 (du rfl (E5.2 (d6.2 (x4.2 (du rfl (h8.2 (d7 (GN y) (d7 ((by
    simp only[yC,aL,tV];rw[nY #v[(by
     have P:Gd 0 (1+G.length) 1 (.list<|G.map .int):=by
      refine Gd.lst (M:=1) (λd A=>?_) ?_
      .let(x,m,rfl):=ue.1 A;have:=C x m;exact mV ((uz (xr (by lia)<|show 1000000<10 ^ 20 by decide)<|ES (by decide)<|by decide))
      .have:=fw (c:=1) (ds:=G.map CD.int) λd A=>by let(x,_,rfl):=ue.1 A;simp[cnt]
       rw[jI]at this;lia
     have H:=P.shaped (by decide) (by decide);have hw:=zM C;unfold CD.layable0;unfold SeqAt.shaped at H;rw[H,Bool.true_and];refine xq ?_;show CD.weightAll (G.map .int)<=2 ^ 20;lia),D]])) #v[i6 rfl,k7 ?_]))))))))))
   refine Ml rfl (v4.2<|v4.2<|x4.2<|du rfl<|w9w rfl<|d7 (Mp J)<|w9w rfl<|d7 K3<|w9g rfl #v[_,_,rfl,rfl,by lia,by lia,?_]);rw[yB];have T:G.set (G.idxOf<|T3 G) (G[G.idxOf<|T3 G]+p.2.1)=V3 G p.2.1:=by unfold V3;rw[uE,qK J];rfl
   rw[T];exact#v[_,rfl,rfl,_,_,_,_,rfl]
  .have n:p.2.2=true:=by simpa using i
   rw[K,n,nY rfl,Am];exact cQ.2 #v[_,rfl,rfl,_,_,_,_,rfl]
 .rintro E Z ⟨rfl,v,u,t,s,rfl⟩;rw[yo,jI,Il];refine k7<|O6.2<|E5.2<|d6.2<|x4.2<|du rfl<|h8.2<|d7 (GN<|b _)<|M0 ?_;rwa[N]
end
def M8 (pl:Option Nat)(ps:List Pn):Bool:=match pl with
 | none=>false
 | some v=>decide (v<=ps.length)
def v7 (h:Nat)(pl:Option Nat)(l:List (Kw Pn)):List (Int×Int):=(l.filter λp=>!M8 pl p.1).map λp=>(T5 h p.1,p.2)
def N8 (pl:Option Nat)(l:List (Kw Pn)):Int:=((l.filter λp=>M8 pl p.1).map λp=>p.2).sum
def X9 (h:Nat)(pl:Option Nat)(l:List (Kw Pn))(W:Nat):List CD:=(List.range<|S7<|v7 h pl l).map λk:Nat=>qd<|mkRat (sumK (k:Int)<|v7 h pl l) W
abbrev qg (h:Nat)(pl:Option Nat)(l:List (Kw Pn))(W:Nat):CD:=.tuple [.list<|X9 h pl l W,qd<|mkRat (N8 pl l) W]
structure Rw h pl (l:List (Kw Pn)):Prop where
 h1:1<=h
 h3:h<=3
 n8:l.length<=8
 st:∀p∈l,StW h p.1
 fit:∀p∈l,mB pl p.1.length
 wt:∀p∈l,1<=p.2/\p.2<=1000
def fV {l:List Int} (h:l.Perm m):l.sum=m.sum:=by
 induction h with
 | nil=>rfl
 | cons a _ c=>rw[CP,CP,c]
 | swap a b l=>simp only[CP];lia
 | trans _ _ d i2=>exact d.trans i2
section
variable {l:List (Kw Pn)}{W B:Nat}
def Rw.perm (R:Rw h pl l)(p:rs.Perm l):Rw h pl rs:=#v[R.h1,R.h3,by rw[p.length_eq];exact R.n8,λq a=>R.st q<|p.mem_iff.1 a,λq a=>R.fit q<|p.mem_iff.1 a,λq a=>R.wt q<|p.mem_iff.1 a]
def CC (p:rs.Perm l):qg h pl rs W=qg h pl l W:=by
 have a:(v7 h pl rs).Perm (v7 h pl l):=(p.filter _).map _;have c:∀k,sumK k (v7 h pl rs)=sumK k (v7 h pl l):=λk=>fV<|a.map _
 have b:N8 pl rs=N8 pl l:=fV<|(p.filter _).map _;show CD.tuple [.list<|X9 ..,_]=CD.tuple [.list<|X9 ..,_];unfold X9;rw[dS λn=>(a.map _).mem_iff,b];simp only[c]
def Hr {b:Int} (hW:1<=W)(hB:1<=B)(h:a*W=b*B):mkRat a B=mkRat b W:=(QF (by lia)<|by lia).2 h
def fK (c:Kw Pn->Int):v7 h pl (l.map λp=>(p.1,c p))=(l.filter λp=>!M8 pl p.1).map λp=>(T5 h p.1,c p):=by unfold v7;rw[PX,sJ];rfl
theorem iV (f g:Kw Pn->Int):∀{l:List (Kw Pn)},(∀p∈l,f p*W=g p*B)->(l.map f).sum*W=(l.map g).sum*B
 | [],_=>by simp
 | p::l,h=>by rw[kX,kX,CP,CP,Int.add_mul,Int.add_mul,h p ll,iV f g λq a=>h q<|kN _ a]
def mw {c:Kw Pn->Int}(hW:1<=W)(hB:1<=B)(hc:∀p∈l,c p*W=p.2*B):qg h pl (l.map λp=>(p.1,c p)) B=qg h pl l W:=by
 have e:S7 (v7 h pl<|l.map λp=>(p.1,c p))=S7 (v7 h pl l):=by
  rw[fK];refine dS λn=>?_
  unfold v7;rw[sJ,sJ];rfl
 have d:∀k,mkRat (sumK k<|v7 h pl<|l.map λp=>(p.1,c p)) B=mkRat (sumK k<|v7 h pl l) W:=λk=>by
  rw[fK];refine Hr hW hB ?_;unfold sumK v7;rw[sJ,sJ];refine iV _ _ λp a=>?_
  have:=hc p (xM.1 a).1;simp only[Function.comp];split
  .exact this
  .simp
 have b:mkRat (N8 pl<|l.map λp=>(p.1,c p)) B=mkRat (N8 pl l) W:=by refine Hr hW hB ?_;unfold N8;rw[PX,sJ];exact iV _ _ λp a=>hc p (xM.1 a).1
 show CD.tuple [.list<|X9 ..,_]=CD.tuple [.list<|X9 ..,_];unfold X9;rw[e,b];simp only[d]
theorem jZ:∀{l:List Int},(∀x∈l,0<=x/\x<=1000)->0<=l.sum/\l.sum<=1000*l.length
 | [],_=>#v[Fg _,Fg _]
 | x::l,h=>by
  have a:=h x ll;have b:=jZ λy c=>h y<|kN _ c
  rw[CP,qN];lia
def Rw.lost (R:Rw h pl l):0<=N8 pl l/\N8 pl l<=8000:=by
 have:=jZ (l:=(l.filter λp=>M8 pl p.1).map λp=>p.2) λx a=>by let(p,b,rfl):=ue.1 a;have:=R.wt p (xM.1 b).1;lia
 have c:=Bo (λp:Kw Pn=>M8 pl p.1) l;have:=R.n8;rw[jI] at *;unfold N8;lia
def Rw.sumK (R:Rw h pl l)(k):0<=sumK k (v7 h pl l)/\sumK k (v7 h pl l)<=8000:=by
 have:=jZ (l:=(v7 h pl l).map λp=>if p.1=k then p.2 else 0) λx a=>by let(q,b,rfl):=ue.1 a;let(p,c,rfl):=ue.1 b;have:=R.wt p (xM.1 c).1;split <;> lia
 have d:=Bo (λp:Kw Pn=>!M8 pl p.1) l;have:=R.n8;unfold v7 K43.sumK at *;rw[jI,jI] at *;lia
def Rw.prs (R:Rw h pl l):∀p∈v7 h pl l,0<=p.1/\p.1<=250:=λp b=>by let(q,a,rfl):=ue.1 b;have S:=R.st q (xM.1 a).1;have:=wH R.h1 S.bg S.wk;have:=S.len;lia
def Rw.top (R:Rw h pl l):S7 (v7 h pl l)<=251:=aH.2 λp a=>by have:=R.prs p a;lia
def Rw.plen (R:Rw h pl l):(v7 h pl l).length<=8:=by unfold v7;rw[jI];exact uj (Bo ..) R.n8
def Ky (h0:0<=a)(h1:a<=8000)(hW:1<=W)(hW2:W<=8000):Gd 0 3 1 (qd<|mkRat a W):=by
 let(h,g):=gU a (show W≠0 by lia);have f:=KR (by lia) h;have b:(mkRat a W).num.natAbs<=8000*8000:=uj (g 8000 (uj (show a.natAbs<=8000 by lia)<|OZ _<|by lia)) (Nat.mul_le_mul_left _<|by lia);have big:8000*8000<10 ^ 300+0:=uz (show 8000*8000<10 ^ 20 by decide) (ES (by decide)<|by decide);refine Gd.tup (M:=1) (λd e=>?_) (by simp[gq,cnt]);rcases oZ.1 e with rfl | e
 .exact mV<|xr b big
 .rw[xp.1 e];refine mV<|xr ?_ big;rw[DN];lia
def Rw.gd (R:Rw h pl l)(hW:1<=W)(hW2:W<=8000):dP (qg h pl l W)=true:=by
 have j:=R.top;have f:∀d∈X9 h pl l W,Gd 0 3 1 d:=λd e=>by let(k,_,rfl):=ue.1 e;let(a,b):=R.sumK k;exact Ky a b hW hW2
 have m:=fw λd e=>(f d e).ct
 have hl:(X9 h pl l W).length=S7 (v7 h pl l):=by unfold X9;rw[jI,xB]
 have i:Gd 0 (1+3*S7 (v7 h pl l)) 2 (.list<|X9 h pl l W):=Gd.lst f (by lia);let(a,b):=R.lost;have g:=Ky a b hW hW2;refine(Gd.tup (n:=0) (N:=900) (k:=2) (M:=900) (λd e=>?_) ?_).repr (by decide) (by decide) (by decide)
 .rcases oZ.1 e with rfl | e
  .exact i.mono (.inl rfl) (by lia)<|qD _
  .rw[xp.1 e];exact g.mono (.inl rfl) (by lia) (by lia)
 .have p:=i.ct;have o:=g.ct;simp only[gq] at *;lia
end
section
variable {F:FdS}{Q:CD->FdS->Prop}
def II {a:DE->M Out}(h:wp (a E F) (gK b Q)):wp (xG a b E F) Q:=by
 unfold xG;rw[c8];refine i4 h λo e c=>?_
 cases o with
 | nx E1=>exact c
 | rt d=>exact c.elim
 | bk E1=>exact c.elim
 | ct E1=>exact c.elim
def Je {m:DE->M CD}(he:Y1 E i=some ds)(q:wp (m (E.set i<|some<|.dat<|.list ds) F) Q):wp (vP i m E F) Q:=by unfold vP;rwa[he,tV]
def Gk {f:List DV->M (List CD)}{Q:List CD->FdS->Prop}(q:wp (ms E F) λxs F1=>wp (f xs F1) Q):wp (sd f ms E F) Q:=by unfold sd;rwa[c8]
def IQ {b:DE->M CD}(q:wp (a E F) λxs F1=>wp (b E F1) λd F2=>Q (.tuple [.list xs,d]) F2):wp (wI a b E F) Q:=by
 unfold wI;rw[c8];refine i4 q λxs F1 q=>?_
 rw[c8];exact i4 q λd F2 q=>d8.2 q
def FE {b:DE->M CD}{Q:List CD->FdS->Prop}(h:wp (a E F) λx F1=>wp (b E F1) λy F2=>∃xs ys,x = .tuple xs/\y = .list ys/\Q (kT xs ys) F2):wp (oG a b E F) Q:=by
 unfold oG;rw[c8];refine i4 h λx F1 h=>?_
 rw[c8];refine i4 h λy F2 h=>?_
 let(xs,ys,rfl,rfl,h):=h;exact d8.2 h
end
theorem vE {α:Type}{f g}:∀l:List α,kT (l.map f) (l.map g)=l.map λa=>.tuple [f a,g a]
 | []=>rfl
 | a::l=>by have:=vE (f:=f) (g:=g) l;unfold kT at this ⊢;rw[kX,kX,List.zipWith_cons_cons,this];rfl
section
variable {Q:CD->FdS->Prop}
def DX :v7 h pl (l++[x])=v7 h pl l++if M8 pl x.1=true then[] else[(T5 h x.1,x.2)]:=by unfold v7;rw[Ih,yx];congr 1;cases e:M8 pl x.1 <;> simp[e]
def Aq :N8 pl (l++[x])=N8 pl l+if M8 pl x.1=true then x.2 else 0:=by unfold N8;rw[Ih,yx,QM];congr 1;cases e:M8 pl x.1 <;> simp[e]
def xJ :((List.length [((0:Int),(1:Int))]-R5 pl ps.length (List.length [((0:Int),(1:Int))]):Nat):Int)=if M8 pl ps=true then 1 else 0:=by
 cases pl with
 | none=>rfl
 | some v =>
  show((1-min 1 (v-ps.length):Nat):Int)=if decide (v<=ps.length)=true then 1 else 0;by_cases e:v<=ps.length
  .rw[nY<|xq e];lia
  .rw[oj<|by simpa using e];lia
def Aj (e:M8 pl ps=false):K1 pl ps [(0,1)]=ps++[(0,1,false)]:=by
 unfold K1;congr 1;have:R5 pl ps.length ([((0),(1) )]:Bt).length=1:=by
  cases pl with
  | none=>rfl
  | some v =>have:=Ig e;show min 1 (v-ps.length)=1;lia
 rw[this];rfl
def GK (R:Rw h pl rs)(hw:∀p∈rs,p.2<=100)(hW:1<=W)(hW2:W<=1000)(q:Q (qg h pl rs W) F):wp (V4 [.dat<|hsD h pl r,.dat<|.tuple<|rs.map<|shD W] F) Q:=by
 have hl:=R.n8;unfold V4 Jo;rw[Jh,nZ];walk_at "ka";refine II (y6.2<|l5.2<|w9v rfl<|l9.2<|rV hW hW2 λB G s x c=>#v[i6 rfl,uf ?_]);have A:=KR (by lia) x;refine II<|CY<|Nb<|l8.2<|Ji<|gZ.2<|h8.2 #v[v8 rfl,#v[i6 rfl,i6 rfl],uf ?_];refine II (G8.2<|FE<|w9g rfl<|l5.2<|w9v rfl<|l9.2<|mI hW hW2 (by lia) (λp b=>#v[(R.wt p b).1,hw p b]) λa n _ _ _=>#v[_,_,rfl,rfl,?_]);obtain rfl:=n.trans G.symm;rw[vE rs ];rw[<-mw hW s (λp b=>BJ hW<|c p b) ]at q;refine B6 (λj E I=>I=F/\∃m l k i g,E=[some<|.dat<|hsD h pl r,some<|.dat<|.tuple<|rs.map<|shD W,some<|.dat<|.int a,some<|.dat<|.int<|N8 pl<|(rs.take j).map λp=>(p.1,wtB W a p),some<|.own<|(v7 h pl<|(rs.take j).map λp=>(p.1,wtB W a p)).map pr,m,l,k,i,g]) _ 0 _ F #v[rfl,none,none,none,none,none,rfl] ?_ ?_
 .rintro j d e E H ⟨rfl,m,l,k,i,g,rfl⟩;rw[yo];rw[sq]at e;let(p,t,rfl):=sA.1 e;have b:=uP t;have S:=R.st p b;have v:=S.len;have D:(rs.take<|j+1).map (λp=>(p.1,wtB W a p))=(rs.take j).map (λp=>(p.1,wtB W a p))++[(p.1,wtB W a p)]:=by rw[ED,t,yx];rfl
  have o:(v7 h pl<|(rs.take j).map λp=>(p.1,wtB W a p)).length<=8:=by rw[fK,jI];refine uj (Bo ..) ?_;rw[Bp];lia
  rw[D,DX,Aq];refine#v[_,rfl,r6.2<|om.2<|l5.2<|w9v rfl<|w9v rfl<|O7.2<|A8.2<|d6.2<|l8.2<|h8.2 #v[v8 rfl,l9.2 (qz (bt:=[(0,1)]) (R.fit p b) (by show p.1.length+1<=1000;lia)<|d7 rfl<|k7 ?_) ]];rw[xJ];refine cV.2<|cj.2<|w9s rfl<|l8.2<|d7 qR<|d7 rfl ?_;cases ef:M8 pl p.1 with
  | true =>rw[nY rfl,nY rfl,nY rfl,Am];exact V8 rfl<|HY rfl<|w9g rfl #v[_,rfl,_,rfl,rfl,_,_,_,_,_,rfl]
  | false =>rw[oj (by decide),oj (by decide),oj (by decide),Int.add_zero,Aj ef];refine w4 rfl (qc (cg rfl) (by rw[jI];lia)<|A8.2<|d6.2<|l5.2<|w9v rfl<|w9v rfl<|l9.2 ?_);have:=R.h3;refine AD (by lia) (by lia) R.h1<|w9c rfl<|h8.2 #v[v8 rfl,#v[_,rfl,rfl,_,_,_,_,_,by rw[yx (f:=pr)];rfl] ]
 .rintro E H ⟨rfl,m,l,k,i,g,rfl⟩;rw[yo,jI,Il];have J:(v7 h pl<|rs.map λp=>(p.1,wtB W a p)).length<=8:=by rw[fK,jI];exact uj (Bo ..) hl
  refine uf (Je (cg rfl)<|IQ<|Gk<|w9v rfl<|w9v rfl<|l9.2<|Bw (by lia) (λp b=>by rw[fK]at b;let(z,u,rfl):=ue.1 b;have S:=R.st z (xM.1 u).1;have:=wH R.h1 S.bg S.wk;have:=S.len;lia) s (by lia) (l5.2 (w9v rfl<|w9v rfl<|l9.2<|uA (by lia) (sm9<|by lia) q)) )
end
section
variable {Q:CD->FdS->Prop}
def GH (h0:0<=a)(hW:1<=W)(hW2:W<=100000)(q:Q (qd<|mkRat a W) F):wp (c_lfrac [.dat<|.int a,.dat<|.int (W:Nat)] F) Q:=by obtain⟨n,rfl⟩:∃n:Nat,a=n:=#v[a.toNat,by lia];exact vU (by lia) (sm9 hW2) q
theorem rL (k):∀ps,((ps.filter λp=>decide (p.1=k)).map λp=>p.2).sum=sumK k ps
 | []=>rfl
 | p::ps=>by
  have a:=rL k ps;unfold sumK at a ⊢;rw[Gw,kX,CP,<-a];by_cases e:p.1=k
  .rw[nY<|xq e,nY e,kX,CP]
  .rw[oj (by simpa using e),oj e];lia
def eR {α:Type}(f) (l:List α):l.map (λx=>CD.int<|f x)=(l.map f).map .int:=by rw[sJ];rfl
def Hj (R:Rw h pl l)(h0:1<=l.length)(q:Q (.str (qg h pl l (A6 l).toNat).shown) F):wp (W7 [.dat<|hsD h pl r,.dat<|.list<|l.map<|kwD pnD] F) Q:=by
 have hl:=R.n8;have K:1<=A6 l/\A6 l<=8000:=by
  have a:=jZ (l:=l.map λp=>p.2) λx o=>by let(p,c,rfl):=ue.1 o;have:=R.wt p c;lia
  rw[jI]at a;unfold A6;refine#v[?_,by lia];cases l with
  | nil=>cases h0
  | cons p l =>
   have:=R.wt p ll;have b:=jZ (l:=l.map λp=>p.2) λx o=>by let(z,u,rfl):=ue.1 o;have:=R.wt z<|kN _ u;lia
   rw[kX,CP];lia
 obtain⟨W,A⟩:∃W:Nat,A6 l=(W:Int):=#v[(A6 l).toNat,by lia];have t:(A6 l).toNat=W:=by lia
 rw[t]at q;unfold W7;rw[Kv];refine V2.2 ?_;walk_at "ka";refine w9q (E5.2<|d6.2<|P1.2<|x8.2<|w9w rfl<|d7 P6 #v[sz (by rw[jI];lia),pI (x:=λp:Kw Pn=>rwD pnD p.1) (y:=λp=>.int p.2) (f:=λp=>.int p.2) l _ _ (λp _ F Q q=>w9g rfl q)<|h8.2 ?_ ]);rw[eR];refine d7 kj #v[i6 rfl,k7 ?_];have D:(l.map λp:Kw Pn=>p.2).sum=(W:Int):=A;rw[D];refine w9q (P1.2<|x8.2<|w9w rfl<|d7 P6 #v[sz (by rw[jI];lia),ym (x:=λp:Kw Pn=>rwD pnD p.1) (y:=λp=>.int p.2) (g:=λp=>M8 pl p.1) (f:=λp=>.int p.2) l _ _ (λp _ F Q q=>?_) (λp _ _ F Q q=>w9g rfl q) #v[i6 rfl,k7 ?_] ])
 .refine Ay.2<|cj.2<|v4.2<|w9s rfl<|l8.2<|d7 rfl<|l8.2 ?_;cases pl with
  | none=>exact d7 rfl<|d7 rfl<|w4 rfl q
  | some v =>
   refine d7 rfl<|d7 rfl<|V8 rfl<|cj.2<|v4.2<|E5.2<|d6.2<|w9w rfl<|h8.2<|d7 gN<|w9s rfl<|l8.2<|d7 rfl<|d7 rfl<|d7 rfl ?_;have e:decide ((v:Int)<=((p.1.map pnD).length) )=M8 (some v) p.1:=by rw[jI];show _=decide (v<=p.1.length);rw[Om];lia
   rwa[e]
 rw[eR];refine w9q (P1.2<|x8.2<|w9w rfl<|d7 P6 #v[sz (by rw[jI];lia),ym (g:=λp=>!M8 pl p.1) (f:=λp=>pr (T5 h p.1,p.2)) l _ _ (λp _ F Q q=>?_) (λp c _ F Q q=>?_) #v[i6 rfl,k7 ?_] ])
 .refine GR.2<|cj.2<|v4.2<|w9s rfl<|l8.2<|d7 rfl<|l8.2 ?_;cases pl with
  | none=>exact d7 rfl<|d7 rfl<|V8 rfl q
  | some v =>
   refine d7 rfl<|d7 rfl<|w4 rfl<|cj.2<|v4.2<|E5.2<|d6.2<|w9w rfl<|h8.2<|d7 gN<|w9s rfl<|l8.2<|d7 rfl<|d7 rfl<|d7 rfl ?_;have e:decide (((p.1.map pnD).length)<(v:Int)) = !M8 (some v) p.1:=by rw[jI];show _ = !decide (v<=p.1.length);rw[<-decide_not,Om];lia
   rwa[e]
 .exact A8.2<|d6.2<|l5.2<|w9v rfl<|w9v rfl<|l9.2<|Jr R.h1 R.h3 (R.st p c)<|w9c rfl<|h8.2 #v[v8 rfl,q]
 have C:(l.filter λp=>!M8 pl p.1).map (λp=>pr (T5 h p.1,p.2))=(v7 h pl l).map pr:=by unfold v7;rw[sJ];rfl
 rw[C];have w:=R.plen;refine r6.2<|jG.2<|gZ.2<|h8.2 #v[v8 rfl,i6 rfl,k7 (r6.2 (G8.2<|U1.2<|d6.2<|v4.2<|l8.2<|E5.2<|d6.2<|P1.2<|x8.2<|w9w rfl<|d7 P6 #v[sz (by rw[jI];lia),?_])) ];refine zU (v7 h pl l) _ (λp _ F Q q=>w9s rfl<|l8.2<|d7 rfl q)<|d6.2<|Gx.2<|l8.2<|d7 rfl<|h8.2 ?_;rw[eR];refine d7 (qt λp c=>(R.prs p c).1)<|d7 K3<|h8.2 ?_;have B:(1:Int)+((S7 (v7 h pl l))-1)=((S7 (v7 h pl l):Nat)):=by lia
 have I:=R.top;rw[B];refine d7 (bU<|by lia) ?_;obtain⟨s,m⟩:∃s,s=CD.list (((l.filter λp=>M8 pl p.1).map Prod.snd).map .int):=#v[_,rfl];rw[<-m];refine B6 (λj E H=>H=F/\∃n,E=[some<|.dat<|hsD h pl r,some<|.dat<|.list<|l.map<|kwD pnD,some<|.dat<|.int W,some<|.dat s,some<|.dat<|.list<|(v7 h pl l).map pr,some<|.own ((List.range j).map λk:Nat=>qd<|mkRat (sumK k<|v7 h pl l) W),n]) _ 0 _ F #v[rfl,none,rfl] ?_ ?_
 .rintro j d e E G ⟨rfl,n,rfl⟩;rw[yo];let(J,rfl):=fC e;refine#v[_,rfl,qc (cg rfl) (by rw[jI,xB];lia)<|w9l<|E5.2<|d6.2<|P1.2<|x8.2<|w9w rfl<|d7 P6 #v[sz (by rw[jI];lia),ym (v7 h pl l) _ _ (λp _ F Q q=>cj.2<|w9s rfl<|w9w rfl<|d7 eqZ<|d7 rfl q) (λp _ _ F Q q=>w9g rfl q)<|h8.2 ?_ ]];rw[eR];refine d7 kj<|w9v rfl<|l9.2 ?_;rw[rL];exact GH (R.sumK _).1 (by lia) (by lia) #v[_,rfl,rfl,some<|.dat<|.int j,by rw[List.range_succ,yx];rfl]
 .rintro E G ⟨rfl,n,rfl⟩;rw[yo,jI,xB];refine k7<|JK (cg rfl)<|O6.2<|E5.2<|d6.2<|A8.2<|w9c rfl<|d6.2<|w9l<|E5.2<|d6.2<|w9w rfl<|h8.2 ?_;rw[m];refine d7 kj (w9v rfl<|l9.2<|GH R.lost.1 (by lia) (by lia)<|h8.2 #v[v8 rfl,h8.2 (d7 (zO<|R.gd (by lia)<|by lia)<|M0 q) ])
end
section

def uM:C9 ps=((List.range ps.length).filter λi=>(pAt ps i).2.2).length:=by
 have e:ps=(List.range ps.length).map (pAt ps):=by
  refine List.ext_getElem (by simp) λi a b=>?_
  unfold pAt;simp[a]
 unfold C9;conv=>lhs;rw[e]
 rw[PX,jI];rfl
def By (hb:C9 ps<=h)(hi:(pAt ps i).2.2=true):i∈C8 h k true ps:=by
 have b:=(show i<ps.length by
  refine Nat.lt_of_not_le λz=>?_
  unfold pAt at hi;rw[uE,Ep z]at hi;cases hi)
 rw[kL];refine xM.2 #v[Iw.2 b,xq ?_];rw[uM]at hb;refine uz (sx (λj a=>?_) (x:=i) ?_ hi<|Iw.2 b) hb
 .have a:=(xO a).2;unfold W5 at a;rw[nY rfl,hi]at a;cases hc:(pAt ps j).2.2
  .rw[hc]at a;rcases a with z | ⟨z,_⟩ <;> exact absurd z (by decide)
  .rfl
 .exact yb λz=>z.1 rfl
def sr (hb:C9 ps<=h):C9 (after h k true false ps)<=h:=by
 unfold after C9 O9;rw[oj (by decide),PX,jI,List.filter_filter];refine uj (tS (λi a=>?_) _)<|uj (Nat.le_of_eq<|fk h k true ps)<|Nat.min_le_left ..;have a:=(Jz _ _▸a:_/\_).1;have b:i∈C8 h k true ps:=by
  by_cases z:i∈C8 h k true ps
  .exact z
  .refine By hb ?_;have e:W6 (C8 h k true ps) true ps i=pAt ps i:=oj z;simpa [Function.comp,e] using a
 exact(xM.1 b).2
def Cm (hp:∀p∈ps,1<=p.2.1/\p.2.1<=10):∀p∈after h k kp tn ps,1<=p.2.1/\p.2.1<=10:=λp b=>by
 let(i,g,rfl):=ue.1 b;let(d,a):=(show i<ps.length/\gh (C8 h k kp ps) ps i=false by have:=(pL gI bG).mem_iff.mp g;unfold O9 at this;rw[oj<|by simp]at this;have a:=xM.1 this;exact#v[Iw.1 a.1,by simpa using a.2])
 have e:pAt ps i=ps[i]:=by unfold pAt;simp[d]
 have c:=hp _<|Ii d;rw[<-e]at c;unfold W6;split
 .rename_i f;unfold gh at a;simp only[f]at a;show 1<=(pAt ps i).2.1-1/\(pAt ps i).2.1-1<=10;lia
 .exact c
def yn :(after h k kp false ps).length<=ps.length:=by unfold after O9;rw[jI,oj<|by decide];exact uj (Bo ..) (by rw[xB];exact qD _)
end
structure StG h m (ps:List Pn):Prop where
 len:ps.length<=m
 wk:∀p∈ps,1<=p.2.1/\p.2.1<=10
 bg:C9 ps<=h
abbrev nxF (h:Nat)(b:Bt)(ps:List Pn):List Pn:=after h 0 true false<|K1 none ps b
def StG.next (S:StG h m ps)(hb:∀c∈b,1<=c.2/\c.2<=10):StG h (m+b.length) (nxF h b ps):=by
 have d:K1 none ps b=ps++b.map λc=>(c.1,c.2,false):=by unfold K1 R5;rw[Il]
 refine#v[uj yn (by rw[d,xy,jI];have:=S.len;lia),Cm λp a=>?_,sr ?_]
 .rw[d]at a;rcases zj.1 a with a | a
  .exact S.wk p a
  .let(c,f,rfl):=ue.1 a;exact hb c f
 .rw[d];unfold C9;rw[Ih,xy];have e:((b.map λc=>((c.1,c.2,false)) ).filter λp=>p.2.2)=[]:=List.filter_eq_nil_iff.2 λp a=>by let(c,_,rfl):=ue.1 a;exact tN
  rw[e];exact S.bg
def cL (f:List Pn->List Pn)(d:List (Kw Pn)):List (Kw Pn)->List (Kw Pn)
 | []=>d
 | p::r=>cL f (O8 d (f p.1)<|(G6 d<|f p.1).getD 0+p.2) r
theorem wO :∀{d:List (Kw Pn)},(d.map (·.1)).Nodup->A6 (O8 d a<|(G6 d a).getD 0+v)=A6 d+v
 | [],_=>by show A6 [(a,0+v)]=0+v;unfold A6;simp
 | p::d,nd=>by
  rw[kX,FY]at nd;by_cases e:p.1=a
  .have g:G6 (p::d) a=some p.2:=by unfold G6;rw[yT<|by simp[e]];rfl
   have m:O8 (p::d) a (p.2+v)=(p.1,p.2+v)::d:=by
    unfold O8;rw[nY (by rw[kX,e];exact ll),kX,nY e];congr 1;have:∀q∈d,(if q.1=a then(q.1,p.2+v) else q)=q:=λq c=>oj λz=>nd.1<|ue.2 #v[q,c,z.trans e.symm]
    rw[Br this,List.map_id']
   rw[g,Option.getD_some,m];unfold A6;rw[kX,CP,kX,CP];lia
  .have g:G6 (p::d) a=G6 d a:=by unfold G6;rw[zb<|by simp[e]]
   have m:∀v,O8 (p::d) a v=p::O8 d a v:=λv=>by
    unfold O8;by_cases z:a∈d.map (·.1)
    .rw[nY z,nY (by rw[kX];exact kN _ z),kX,oj e]
    .rw[oj z,oj (by rw[kX];exact λy=>(oZ.1 y).elim (λw=>e w.symm) z)];rfl
   have b:=wO (a:=a) (v:=v) nd.2;rw[g,m];unfold A6 at b ⊢;rw[kX,CP,b,kX,CP];lia
structure Wts h m n B (d:List (Kw Pn)):Prop where
 nd:(d.map (·.1)).Nodup
 len:d.length<=n
 st:∀p∈d,StG h m p.1
 pos:∀p∈d,1<=p.2
 sum:A6 d=B
theorem zC :∀{l d} {n} {B},Wts h m n B d->(∀p∈l,StG h m<|f p.1)->(∀p∈l,1<=p.2)->Wts h m (n+l.length) (B+A6 l) (cL f d l)
 | [],d,n,B,W,_,_=>by
  have:A6 ([]:List (Kw Pn))=0:=rfl;rwa[this,Int.add_zero]
 | p::l,d,n,B,W,hs,hp=>by
  let(c,o):=lD (v:=(G6 d<|f p.1).getD 0+p.2) W.nd;have i:0<=(G6 d<|f p.1).getD 0:=by
   cases e:G6 d (f p.1) with
   | none=>exact Fg _
   | some v=>have:=W.pos _<|gx e;show 0<=v;lia
  have r:=hp p ll;have k:n+(p::l).length=n+1+l.length:=by rw[qN];lia
  have j:B+A6 (p::l)=B+p.2+A6 l:=by unfold A6;rw[kX,CP];lia
  rw[k,j];exact zC (n:=n+1) #v[c,by have:=W.len;lia,eK W.st<|hs p ll,eK W.pos (by lia),by rw[wO W.nd,W.sum]] (λq b=>hs q<|kN _ b) λq b=>hp q<|kN _ b
theorem kx:∀{d:List (Kw Pn)},(∀p∈d,1<=p.2)->(d.length:Int)<=A6 d/\∀p∈d,p.2<=A6 d
 | [],_=>#v[Fg _,λp f=>nomatch f]
 | p::d,h=>by
  let(a,b):=kx λq c=>h q<|kN _ c
  have g:=h p ll;have e:A6 (p::d)=p.2+A6 d:=by unfold A6;rw[kX,CP]
  rw[e,qN];refine#v[by lia,λq c=>?_];rcases oZ.1 c with rfl | c
  .omega
  .have:=b q c;lia
section
variable {F:FdS}
def KC {a:DE->M Out}(h:wp (a E F) (gK b Q)):wp (cSq a b E F) Q:=by
 unfold cSq;rw[c8];refine i4 h λo e c=>?_
 cases o with
 | nx E1=>exact c
 | rt d=>exact c.elim
 | bk E1=>exact c.elim
 | ct E1=>exact c.elim
def KQ {Q:DV->FdS->Prop}(he:E[i]? = some (some<|.dic true c ps))(q:Q (.dic true c ps) F):wp (zi i E F) Q:=by unfold zi;rw[he];exact d8.2 q
def BW {Q:List CD->FdS->Prop}(he:E[i]? = some (some<|.rdic c ps))(q:Q (ps.map λp=>.tuple [p.1,p.2]) F):wp (fP i E F) Q:=by unfold fP;rw[he];exact d8.2 q
def Mg {g:List CD->M CD}{Q:CD->FdS->Prop}(he:E[i]? = some (some<|.fv f φ))(q:wp (ms E F) λxs F1=>wp (g xs F1) Q):wp (sFv i f φ g ms E F) Q:=by unfold sFv;rwa[nY he,c8]
def GA {m:DE->M α}{Q:α->FdS->Prop}(he:E[i]? = some (some<|.dic w c ps))(h9:c≠9/\uJ i E=true)(q:wp (m (E.set i<|some<|.rdic c ps) F) Q):wp (pW i m E F) Q:=by unfold pW;rw[he];dsimp only;rwa[nY h9]
def JT {m:DE->M DV}{Q:Out->FdS->Prop}(q:wp (m E F) λdv F1=>i<E.length/\Q (.nx<|E.set i<|some dv) F1):wp (uZ i m E F) Q:=by
 unfold uZ;rw[c8];refine i4 q λdv F1 h=>?_
 rw[nY h.1];exact d8.2 h.2
def Mq {r:DE->M (List DV)}{Q:List DV->FdS->Prop}(he:E[i]? = some (some<|.rdic c ps))(q:wp (r E F) λxs F1=>Q (.rdic c ps::xs) F1):wp (vR i r E F) Q:=by unfold vR;rw[he];rw[c8];exact i4 q λxs F1 h=>d8.2 h
def Ms {Fm:QN->(Hp->Prop)->(List CD->M CD)->List DV->M α}{Q:α->FdS->Prop}(hc:(cap.all λj=>CH E[j]?)=true)
  (q:wp (ms E F) λargs F1=>∃x F',(∀f φ,wp (Fm f φ (zQ me<|dI cap E) (args++[.fv f φ]) F1) λa F2=>a=x/\F2=F')/\Q x F'):wp (ub Fm me cap ms E F) Q:=by
 unfold ub;rw[nY hc,c8];refine i4 q λargs F1 #v[x,F',h,q]=>#v[x,F',xR λf φ=>?_,q]
 let(a,F2,e,rfl,rfl):=h f φ;exact e
def IR {Q:CD->FdS->Prop}{ns:List Int}(he:uN E i=some (c,ps))(hn:ps.map (·.2)=ns.map .int)(q:Q (.int ns.sum) F):wp (wx i E F) Q:=by unfold wx;rw[he,tV,hn,aL,tV];exact d8.2 q
def zA {Q:CD->FdS->Prop}(he:uN E i=some (c,ps))(q:Q (.list<|ps.map λp=>.tuple [p.1,p.2]) F):wp (oJ i E F) Q:=by unfold oJ;rw[he,tV];exact d8.2 q
def Ko {Q:CD->FdS->Prop}(hl:ps.length<=200)(q:Q .none F):wp (T6 [.rdic c ps] F) Q:=by refine V2.2<|cV.2<|cj.2<|v4.2<|#v[.int ps.length,F,rfl,l8.2<|d7 qR<|d7 rfl<|w4 (yb<|by lia)<|cQ.2<|q]
end
theorem ph :∀{l d},cL f d (l++[p])=O8 (cL f d l) (f p.1) ((G6 (cL f d l)<|f p.1).getD 0+p.2)
 | [],d=>rfl
 | q::l,d=>by rw[yS,cL,ph,cL]
theorem rM :∀{l d},(cL f d l).length<=d.length+l.length
 | [],d=>qD _
 | q::l,d=>by
  have a:=rM (f:=f) (l:=l) (d:=O8 d (f q.1)<|(G6 d<|f q.1).getD 0+q.2);have b:=(show (O8 d (f q.1)<|(G6 d<|f q.1).getD 0+q.2).length<=d.length+1 by
   unfold O8;split
   .rw[jI];lia
   .rw[xy];exact qD _)
  rw[cL,qN];lia
abbrev bt1 (b:Bt):CD:=.tuple [.tuple [rwD cmD b,.int 1]]
def Lv {g:List CD->M CD}{b:Bt}{Q:DV->FdS->Prop}(hl:l.length<=100)(hw:∀p∈l,1<=p.2/\p.2<=1000)
  (hg:∀p∈l,∀F (Q:CD->FdS->Prop),Q (rwD pnD<|f p.1) F->wp (g [rwD pnD p.1,rwD cmD b] F) Q) (q:Q (.dic true 0<|(cL f [] l).map<|kiD pnD) F) :
  wp (L1 fa φ g [.rdic 0<|l.map<|kiD pnD,.dat<|bt1 b,.fv fa φ] F) Q:=by
 unfold L1 Kj;walk_at "ka";refine KC<|oY (i6 rfl)<|uf<|KC<|G8.2<|BW rfl ?_;rw[sJ];refine B6 (λj E r=>r=F/\∃n m k h c,E=[some<|.rdic 0<|l.map<|kiD pnD,some<|.dat<|bt1 b,some<|.fv fa φ,some<|.dic true 0<|(cL f []<|l.take j).map<|kiD pnD,n,m,k,h,c]) _ 0 _ F #v[rfl,none,none,none,none,none,rfl] ?_ ?_
 .rintro j d e E o ⟨rfl,n,m,k,h,c,rfl⟩;rw[yo];rw[sq]at e;let(p,u,rfl):=sA.1 e;have s:=uP u;have v:=hw p s;have t:cL f [] (l.take<|j+1)=O8 (cL f []<|l.take j) (f p.1) ((G6 (cL f []<|l.take j)<|f p.1).getD 0+p.2):=by rw[ED,u];exact ph
  have a:=rM (f:=f) (l:=l.take j) (d:=[]);rw[Bp]at a;generalize cL f [] (l.take j)=D at t a ⊢;rw[t];refine#v[_,rfl,G8.2<|x8.2<|w9g rfl<|d7 S5 (B6 (λi E r=>r=o/\∃k h c,E=[some<|.rdic 0<|l.map<|kiD pnD,some<|.dat<|bt1 b,some<|.fv fa φ,some<|.dic true 0<|(if i=0 then D else O8 D (f p.1) ((G6 D<|f p.1).getD 0+p.2)).map<|kiD pnD,some<|.dat<|rwD pnD p.1,some<|.dat<|.int p.2,k,h,c]) _ 0 _ o #v[rfl,k,h,c,rfl] ?_ ?_) ]
  .rintro i d e E x ⟨rfl,k,h,c,rfl⟩;rw[yo];obtain⟨rfl,rfl⟩:i=0/\d = .tuple [rwD cmD b,.int 1]:=by
    cases i with
    | zero=>exact#v[rfl,(rn e).symm]
    | succ i=>cases e
   rw[nY rfl,oj<|by decide];refine#v[_,rfl,w9q<|Mg rfl<|w9c rfl<|w9c rfl<|h8.2<|hg p s _ _ #v[i6 rfl,k7 (uk rfl<|v4.2<|xg rfl<|w9g rfl<|l8.2 #v[dG.is _,?_]) ]];rw[cu dG];have w:((G6 D<|f p.1).map CD.int).getD (.int 0) = .int ((G6 D<|f p.1).getD 0):=by cases G6 D (f p.1) <;> rfl
   rw[w];refine w9s rfl (w9w rfl<|d7 (qF (sm5<|by lia)<|sm5<|by decide) ?_);rw[Int.mul_one];refine d7 K3 (w9g rfl #v[dG.is _,by rw[jI];simp at a;lia,#v[_,rfl,rfl,_,_,_,by rw[<-ja dG];rfl] ])
  .rintro E x ⟨rfl,k,h,c,rfl⟩;exact#v[_,rfl,rfl,_,_,_,_,_,rfl]
 .rintro E o ⟨rfl,n,m,k,h,c,rfl⟩;rw[yo,jI,Il];exact uf<|KQ rfl q
theorem wJ:∀{l m:List Pn},CD.eqvAll (l.map pnD) (m.map pnD)=true->l=m
 | [],[],_=>rfl
 | [],_::_,h=>by simp[CD.eqvAll]at h
 | _::_,[],h=>by simp[CD.eqvAll]at h
 | a::l,b::m,h=>by rw[kX,kX,CD.eqvAll,Jz,FV.eq]at h;rw[xO h.1,wJ h.2]
theorem lQ (d):∀l,(rX d l).Perm (d::l)
 | []=>.refl _
 | e::r=>by
  rw[rX];split
  .exact((lQ d r).cons e).trans<|.swap d e r
  .exact .refl _
theorem jA:∀l,(fu l).Perm l
 | []=>.refl _
 | d::r=>(lQ d _).trans<|(jA r).cons d
def CT {α β:Type}{f}{l m:List β}(h:l.Perm m):∀d,m=d.map f->∃d':List α,d'.Perm d/\l=d'.map f:=by
 induction h with
 | nil=>intro d e;exact#v[d,.refl _,e]
 | cons a _ n =>
  intro d e;cases d with
  | nil=>cases e
  | cons x d =>rw[kX]at e;let(g,c):=Pr e;let(d',p,i):=n d c;exact#v[x::d',p.cons x,by rw[g,i,kX]]
 | swap a b l =>
  intro d e;match d,e with
  | x::y::d,e =>
   rw[kX,kX]at e
   let(g,c):=Pr e
   let(c,i):=Pr c
   exact#v[y::x::d,.swap x y d,by rw[g,c,i];rfl]
 | trans _ _ o i2 =>intro d e;let(r,k,g):=i2 d e;let(q,j,c):=o r g;exact#v[q,j.trans k,c]
theorem qu:∀{l d:List (Kw Pn)},((d++l).map (·.1)).Nodup->(l.map<|kiD pnD).foldl (λd kv=>G2 0 d kv.1 kv.2) (d.map<|kiD pnD)=(d++l).map (kiD pnD)
 | [],d,_=>by rw[Am];rfl
 | p::l,d,nd=>by
  have e:O8 d p.1 p.2=d++[p]:=by unfold O8;rw[oj (λz=>by rw[yx,Pf]at nd;exact nd.2.2 _ z _ (by rw[kX];exact ll) rfl) ]
  have c:G2 0 (d.map<|kiD pnD) (rwD pnD p.1) (.int p.2)=(d++[p]).map (kiD pnD):=by rw[<-e];exact ja dG p.1 p.2 d
  rw[kX,Kr];have a:d++p::l=d++[p]++l:=by rw[NZ];rfl
  rw[c,qu (by rwa[<-a]),a]
theorem zX {x:Kw Pn->Int}:∀l:List (Kw Pn),(l.map λp=>rwD pnD p.1).zip (l.map λp=>CD.int<|x p)=(l.map λp=>(p.1,x p)).map (kiD pnD)
 | []=>rfl
 | p::l=>by rw[kX,kX,Fo,zX l];rfl
def ME {F:FdS}{b:DE->M CD}{Q:Out->FdS->Prop}{l:List (Kw Pn)}(nd:(l.map (·.1)).Nodup)(hl:l.length<=1000)(hi:i<E.length)
  (h:wp (a E F) λx F1=>wp (b E F1) λy F2=>x = .list (l.map λp=>rwD pnD p.1)/\y = .list (l.map λp=>.int p.2)/\Q (.nx<|E.set i<|some<|.dic true 0<|l.map<|kiD pnD) F2):wp (FG true i 0 a b E F) Q:=by
 unfold FG;rw[c8];refine i4 h λx F1 h=>?_
 rw[c8];refine i4 h ?_;rintro y F2 ⟨k,c,q⟩
 subst k c;show wp (if i<E.length/\_/\_/\(((l.map λp=>rwD pnD p.1).zip<|l.map λp=>CD.int p.2).all λd=>(N5 0 d.1).isSome)=true then some (.nx<|E.set i<|some<|.dic true 0<|((l.map λp=>rwD pnD p.1).zip<|l.map λp=>CD.int p.2).foldl (λd f=>G2 0 d f.1 f.2) [],F2) else none) Q;rw[zX (x:=λp=>p.2) l,nY #v[hi,by rw[jI,jI],by rwa[jI],JG.2 λd g=>by let(q,_,rfl):=ue.1 g;exact dG.is q.1]]
 .have e:=qu (by rwa[zY,sJ]);rw[Cq,zY]at e;rw[e];rw[List.map_id' l ];exact d8.2 q
section
variable {Q:CD->FdS->Prop}{W:Nat}{rs:List (Kw Pn)}
def BP {B:Nat}(hW:1<=W)(eW:A6 rs=(W:Int))(hc:∀p∈rs,c p*W=p.2*B):(rs.map c).sum=(B:Int):=by have e:=iV c (λp=>p.2) hc;have a:(rs.map λp=>p.2).sum=W:=eW;rw[a,OM]at e;exact Int.eq_of_mul_eq_mul_left (by lia) e
def Gb (hnd:(rs.map (·.1)).Nodup)(hl:rs.length<=8)(hst:∀p∈rs,StG h 8 p.1)(hw:∀p∈rs,1<=p.2/\p.2<=100)(hW:1<=W)(hW2:W<=100)(eW:A6 rs=(W:Int))(hb2:b.length=2)(hb:∀c∈b,1<=c.2/\c.2<=10)
  (q:∀B d,1<=B->B<=W->Wts h 24 rs.length (B:Int) d->Q (.tuple<|d.map<|shD B) F):wp (fE [.dat<|hsD h none<|.str "first",.dat<|bt1 b,.dat<|.tuple<|rs.map<|shD W,.dat<|.int 8] F) Q:=by
 unfold fE;rw[nZ,FD];refine V2.2 ?_;walk_at "ka";obtain⟨B,T⟩:∃B,B=BA W rs:=#v[_,rfl];refine r6.2 (ME (l:=rs.map λp=>(p.1,wtB W B p)) (by rwa[sJ]) (by rw[jI];lia) (i6 rfl)<|P1.2<|x8.2<|w9w rfl<|d7 S5 #v[sz (by rw[jI];lia),?_]);refine pI (x:=λp:Kw Pn=>rwD pnD p.1) (y:=λp=>qd<|mkRat p.2 W) (f:=λp=>rwD pnD p.1) rs _ _ (λp _ F Q q=>w9g rfl q)<|l5.2 (w9v rfl<|l9.2<|mI hW (by lia) (by lia) hw λo D hB K C=>#v[?_,?_,k7 ?_])
 .rw[sJ];rfl
 .obtain rfl:o=B:=D.trans T.symm;rw[sJ];rfl
 obtain rfl:o=B:=D.trans T.symm;have L:=KR (by lia) K;have M:∀p∈rs,wtB W o p*W=p.2*o:=λp g=>BJ hW<|C p g
 have U:Wts h 8 rs.length (o:Int) (rs.map λp=>(p.1,wtB W o p)):=by
  refine#v[by rwa[sJ],by rw[jI];exact qD _,λp g=>?_,λp g=>?_,?_]
  .let(z,s,rfl):=ue.1 g;exact hst z s
  .let(z,s,rfl):=ue.1 g;have G:0<z.2*(o:Int):=Int.mul_pos (by have:=(hw z s).1;lia) (by lia);rw[<-(M z s) ]at G;have:=Int.pos_of_mul_pos_left G (by lia);show 1<=wtB W o z;lia
  .unfold A6;rw[sJ];exact BP hW eW M
 generalize (rs.map λp=>(p.1,wtB W o p))=d0 at U ⊢;refine r6.2 (G8.2<|U1.2<|w9c rfl<|h8.2<|d7 (bU (n:=8)<|by decide) (B6 (λj E F'=>F'=F/\∃(d:List (Kw Pn)) (H:Option DV),Wts h (8+2*j) rs.length (o:Int) d/\E=[some<|.dat<|hsD h none<|.str "first",some<|.dat<|bt1 b,some<|.dat<|.tuple<|rs.map<|shD W,some<|.dat<|.int 8,some<|.dic true 0<|d.map<|kiD pnD,H,none]) _ 0 _ F #v[rfl,d0,none,U,rfl] ?_ ?_) )
 .rintro j x e E V ⟨rfl,d,H,k,rfl⟩;rw[yo] at *;let(hj,rfl):=fC (f:=λi:Nat=>CD.int (i:Int)) e;have w:=kx k.pos;rw[k.sum]at w;have J:=k.len;refine#v[_,rfl,r6.2<|JT<|GA rfl #v[by decide,rfl]<|Ms rfl<|Mq rfl<|w9v rfl<|l9.2 #v[.dic true 0<|(cL (nxF h b) [] d).map<|kiD pnD,V,λf φ=>?_,i6 rfl,k7 ?_]]
  .refine Lv (f:=nxF h b) (by lia) (λp g=>#v[k.pos p g,by have:=w.2 p g;lia]) (λp g F Q q=>?_) #v[rfl,rfl];have S:=k.st p g;have Z:=S.len;refine v4.2<|l5.2<|w9v rfl<|w9v rfl<|w9v rfl<|l9.2<|JA (r:=.str "first") (pl:=none) (h:=h) ll (λv Y=>nomatch Y) (by lia)<|l8.2<|d7 rfl q
  .have t:=zC (h:=h) (m:=8+2*(j+1)) (f:=nxF h b) (l:=d) (d:=[]) (n:=0) (B:=0) #v[OP,qD _,λp g=>(nomatch g),λp g=>(nomatch g),rfl] (λp g=>by
    have:=(k.st p g).next (b:=b) hb
    rwa[hb2]at this) k.pos
   rw[yo,Int.zero_add,k.sum]at t;have ab:=t.len;refine c8.2 (GA rfl #v[by decide,rfl]<|l5.2<|Mq rfl<|l9.2<|Ko (by rw[jI];lia) (d8.2 #v[_,rfl,rfl,_,some<|.dat<|.int (j:Int),#v[t.nd,by lia,t.st,t.pos,t.sum],rfl]) )
 .rintro E V ⟨rfl,d,H,k,rfl⟩;rw[yo,jI,xB]at k;have J:=k.len;refine k7<|w9q<|IR rfl (by rw[sJ,sJ];rfl) #v[i6 rfl,k7 ?_];have e0:(d.map λp=>p.2).sum=(o:Int):=k.sum;rw[e0];let(u,g,e2):=(show ∃rs:List (Kw Pn),rs.Perm d/\aY [.list<|d.map<|kwD pnD]=some (.list<|rs.map<|kwD pnD) by
   have e:d.map (kwD pnD)=(d.map λp=>[rwD pnD p.1,CD.int p.2]).map CD.tuple:=by rw[sJ];rfl
   let(rs,p,er):=CT (jA<|d.map λp=>[rwD pnD p.1,CD.int p.2]) d rfl;refine#v[rs,p,?_];rw[e,wK (κ:=rZ (X1 rB) (d.map (·.1))) #v[by rw[jI];exact#v[tQ (by lia),by lia],λz s=>?_,λi j di dj A R P=>?_],er,sJ]
   .rfl
   .let(q,_,rfl):=ue.1 s;let(g1,g2,_):=uF q.1;refine#v[by simp only[CD.canLayAll0,CD.canLay0,g1,Bool.and_self],?_,λx X=>#v[_,(rn X).symm]];have:CD.depthAll (q.1.map pnD)<=2:=Y3.2 λd K=>by let(c,_,rfl):=ue.1 K;simp[CD.depth,CD.depthAll]
    simp only[CD.depthAll,CD.depth];lia
   .rw[sq]at R P;let(a,ea,rfl):=sA.1 R;let(b,eb,rfl):=sA.1 P;have N:(d.map (·.1))[i]? = some a.1:=by rw[sq,ea];rfl
    have hb:(d.map (·.1))[j]? = some b.1:=by rw[sq,eb];rfl
    rw[ltM,oj (λz=>by rw[Lc]at z;have z:=wJ z;let(O,G):=pG.1 N;let(h3,h4):=pG.1 hb;exact A ((Og k.nd).1<|G.trans<|z.trans h4.symm)) ];show ltM (a.1.map pnD) (b.1.map pnD)=_;rw[iQ FV,wY (pH Ip) k.nd A N hb])
  refine O6.2<|E5.2<|d6.2<|P1.2<|x8.2<|E5.2<|d6.2<|zA rfl<|h8.2 ?_;rw[sJ];refine d7 e2 (d7 P6 #v[sz (by rw[jI,g.length_eq];lia),pI u _ _ (λp _ F Q q=>?_)<|h8.2<|d7 gS<|M0<|q o u hB L ?_ ])
  .exact A8.2 (w9c rfl<|d6.2<|l5.2<|w9v rfl<|w9v rfl<|l9.2<|uA (by lia) (sm9<|by lia)<|h8.2 #v[v8 rfl,q])
  .exact#v[(g.map _).nodup_iff.mpr k.nd,by rwa[g.length_eq],λp z=>k.st p<|g.mem_iff.1 z,λp z=>k.pos p<|g.mem_iff.1 z,by rw[<-k.sum];exact fV<|g.map _]
end
def neZ :eqD true (.int a) (.int b)=some (.bool (!decide (a=b))):=by show some (CD.bool<|if true=true then !(CD.int a).eqv (.int b) else(CD.int a).eqv (.int b))=_;rw[nY rfl,nU]
def MV :eqD false (.str x) (.str x)=some (.bool true):=by show some (CD.bool<|if false=true then !decide (x=x) else decide (x=x))=_;rw[oj (by decide),xq rfl]
def MR :eqD true (.str x) (.str x)=some (.bool false):=by show some (CD.bool<|if true=true then !decide (x=x) else decide (x=x))=_;rw[nY rfl,xq rfl];rfl
def Mh {F:FdS}{mu:DE->M Out}{Q:Out->FdS->Prop}
  (h:wp (ms E F) λargs F1=>wp (f args F1) λd F2=>i<E.length/\wp (mc (E.set i<|some<|.dat d) F2) λb F3=>b=false/\∃ds,Cw d=some ds/\ds.length<QX/\wp (ma (E.set i<|some<|.dat d) F3) λ_ F4=>wp (mu (E.set i none) F4) Q):wp (oP i f ms mc mb ma mu E F) Q:=by
 unfold oP;rw[c8];refine i4 h λargs F1 h=>?_
 rw[c8];refine i4 h ?_;rintro d F2 ⟨a,h⟩
 rw[nY a,c8];refine i4 h ?_;rintro b F3 ⟨c,ds,e,hl,h⟩
 subst c;dsimp only;rwa[oj (by decide),e,tV,nY hl,c8]
section
variable {B:Nat}
def Hc (L:LsOk n 8 6 pl true l)(hn:n<=8)(h1:1<=h)(h3:h<=3)(hb:∀p∈l,C9 p.1<=h):Rw h pl l :=
 #v[h1,h3,by have:=L.n2;lia,λp a=>#v[by have:=(L.ok p a).1.len;lia,λx b=>by have:=((L.ok p a).1.ok x b).2.1;lia,hb p a],λp a=>(L.ok p a).1.fit,λp a=>by have:=(L.ok p a).2;lia]
def Wts.rw (W:Wts h 24 n (B:Int) rs)(hn:n<=8)(hB:B<=1000)(h1:1<=h)(h3:h<=3):Rw h none rs :=
 #v[h1,h3,by have:=W.len;lia,λp a=>#v[(W.st p a).len,(W.st p a).wk,(W.st p a).bg],λ_ _ _ e=>(nomatch e),λp a=>#v[W.pos p a,by have:=(kx W.pos).2 p a;rw[W.sum]at this;lia]]
def LK (h:Nat)(d:CD):Prop:=∃(B T:Nat) (rs:List (Kw Pn)),d = .tuple [.tuple<|rs.map<|shD B,.list<|(rs.map λp=>(p.1,wtB B T p)).map<|kwD pnD]/\1<=B/\B<=24/\Wts h 24 2 (B:Int) rs/\1<=T/\T<=576/\∀p∈rs,dn B p ∣ T
def JW (h1:1<=h)(h3:h<=3):Tr aG [.feed,.dat<|hsD h none<|.str "first"] 400 (LK h):=Tr.of λF hF=>by
 unfold aG;rw[vV,Ac];refine V2.2 ?_;walk_at "ka";refine w9q<|l5.2<|dN.2<|dC rfl<|w9v rfl<|O7.2<|v4.2<|l8.2<|w9d rfl<|G1 (by decide) (by decide) (by lia) λx F1 x0 x1 t1=>d7 K3<|O7.2<|l8.2<|l9.2 ?_
 obtain⟨n,en,n1,n2⟩:∃n:Nat,1+x=(n:Int)/\1<=n/\n<=2:=#v[(1+x).toNat,by lia,by lia,by lia];rw[en];refine(pO (h:=h) (n:=n) (m:=8) (pl:=none) rfl rfl (by lia) ll (by decide) n1<|by lia).wp (by lia) λd F2 t2 W=>#v[i6 rfl,k7 ?_]
 let(l,rfl,L,S):=W;have ek:kb (.str "first")=true:=by decide +kernel
 rw[ek]at L;refine w9q (E5.2<|d6.2<|P1.2<|U1.2<|d6.2<|l8.2<|h8.2<|d7 (bU (n:=2)<|by decide) #v[sz (by decide),KW (P:=λ_ y=>∃c:Int×Int,y=cmD c/\1<=c.2/\c.2<=10) (c:=2) _ _ (by decide) (λd W F hF=>?_) (by simp;lia) λzs X v r Y=>?_ ])
 .refine A8.2<|d6.2<|w9d rfl<|G1 (by decide) (by decide) (by lia) λa Fa a0 a1 ta=>d6.2<|v4.2<|l8.2<|w9d rfl<|G1 (by decide) (by decide) (by lia) λb Fb b0 b1 tb=>d7 K3 (h8.2 #v[v8 rfl,by lia,(a,2+b),rfl,by show 1<=2+b;lia,by show 2+b<=10;lia])
 rw[jI,xB]at v Y;let(b,rfl,hb):=yV λz h=>(let #v[_,_,h]:=r z h;h)
 rw[jI]at v;refine h8.2<|d7 gS #v[i6 rfl,k7 (w9q<|l5.2<|w9v rfl<|O7.2<|A8.2<|d6.2<|A8.2<|w9c rfl<|d6.2<|l8.2<|h8.2 #v[v8 rfl,h8.2 #v[v8 rfl,?_]]) ];refine O7.2 (l5.2<|w9v rfl<|l9.2<|Dd rfl L (by lia) λrs o=>O7.2<|l8.2<|l9.2 ?_);let(w1,w2):=jz λp o=>(L.ok p o).2
 have Z:=L.n2;have ab:=L.n1;have R:=Hc L (by lia) h1 h3 S;refine Gb ((o.map _).nodup_iff.mpr L.nd) (by rw[o.length_eq];lia) (λp g=>#v[(L.ok p<|o.mem_iff.1 g).1.len,((R.perm o).st p g).wk,((R.perm o).st p g).bg]) (λp g=>by have:=(L.ok p<|o.mem_iff.1 g).2;lia) (by lia) (by lia) (by have:A6 rs=A6 l:=fV<|o.map _;lia) v hb λB d U ac u=>#v[i6 rfl,k7 ?_]
 have s:B<=24:=by lia
 have H:Wts h 24 2 (B:Int) d:=#v[u.nd,by have:=u.len;rw[o.length_eq]at this;lia,u.st,u.pos,u.sum];have O:=H.len;refine w9q<|l8.2 #v[i6 rfl,k7<|r6.2<|G8.2<|x8.2<|w9g rfl<|d7 S5 ?_];have C:∀p∈d,dn B p<=24:=λp _=>uj (KR (by lia)<|nr U p) s
 refine B6 (λj E F'=>F'=X/\∃(T:Nat) (M K:Option DV),1<=T/\T<=24 ^ j/\(∀p∈d.take j,dn B p ∣ T)/\E=[some .feed,some<|.dat<|hsD h none<|.str "first",some<|.dat<|.list<|l.map<|kwD pnD,some<|.dat<|rwD cmD b,some<|.dat<|.tuple<|d.map<|shD B,some<|.dat<|.int (T:Nat),M,K]) _ 0 _ X #v[rfl,1,none,none,qD _,qD _,λp o=>(nomatch o),rfl] ?_ ?_
 .rintro j x e E F4 ⟨rfl,T,M,K,I,k,i,rfl⟩;rw[yo] at *;rw[sq]at e;let(p,V,rfl):=sA.1 e;have hj:=(pG.1 V).1;have A:(mkRat p.2 B).den<=24:=C p<|uP V;have D:0<(mkRat p.2 B).den:=iW _;have G:T<=576:=uj k (uj (ES (by decide)<|show j<=2 by lia)<|by decide);have w:24 ^ (j+1)=24 ^ j*24:=Nat.pow_succ ..;have t:∀J,T ∣ J->dn B p ∣ J->∀z∈d.take (j+1),dn B z ∣ J:=λJ h1 h2 z r=>by
   rw[ED,V]at r;rcases zj.1 r with r | r
   .exact Nat.dvd_trans (i z r) h1
   . rwa[xp.1 r]
  refine#v[_,rfl,cV.2<|cj.2<|v4.2<|w9s rfl<|w9s rfl<|l8.2<|d7 ix1<|d7 (Cz<|by lia)<|l8.2<|d7 neZ<|d7 rfl<|X3 (λ_=>?_) λhc=>?_]
  .refine y6.2 (w9s rfl<|w9s rfl<|l8.2<|d7 ix1<|d7 (qF (sm5 (by rw[DN];lia))<|sm5 (by rw[DN];lia)) ?_);rw[<-QL];exact#v[i6 rfl,_,rfl,rfl,T*dn B p,_,_,Nat.mul_pos I D,by rw[w];exact Nat.mul_le_mul k A,t _ (Nat.dvd_mul_right ..)<|Nat.dvd_mul_left ..,rfl]
  .have r:(T:Int) % ((dn B p:Nat))=0:=by simpa using hc
   exact cQ.2 #v[_,rfl,rfl,T,_,_,I,by rw[w];exact uj k<|OZ _<|by decide,t _ (Nat.dvd_refl _) (Nat.dvd_of_mod_eq_zero (by rw[<-Int.natCast_emod]at r;lia)),rfl]
 .rintro E F4 ⟨rfl,T,M,K,I,k,i,rfl⟩;rw[yo,jI]at k i;rw[Il]at i;have G:T<=576:=uj k (uj (ES (by decide) O)<|by decide);refine k7 (O6.2<|A8.2<|w9c rfl<|d6.2<|P1.2<|x8.2<|w9w rfl<|d7 S5 #v[sz (by rw[jI];lia),pI (f:=λp=>kwD pnD (p.1,wtB B T p)) d _ _ (λp g F Q q=>?_) (h8.2 #v[v8 rfl,M0 #v[by lia,B,T,d,?_,U,s,H,I,G,i]]) ])
  .have D:0<(mkRat p.2 B).den:=iW _;have A:=C p g;have hn:(mkRat p.2 B).num.natAbs<=100*(mkRat p.2 B).den:=zB U (p:=p) #v[u.pos p g,by have:=(kx u.pos).2 p g;rw[u.sum]at this;lia];refine A8.2 (w9c rfl<|d6.2<|v4.2<|w9s rfl<|l8.2<|d7 rfl<|w9s rfl<|w9s rfl<|l8.2<|d7 ix1<|d7 (jO (by lia)<|sm9 (by rw[DN];lia)) ?_);rw[<-QI];have hq:T / (mkRat p.2 B).den<=T:=Nat.div_le_self _ _;exact d7 (qF (sm5<|by lia)<|sm5 (by rw[DN];lia))<|h8.2 #v[v8 rfl,q]
  .rw[sJ];rfl
end
section
def ML :tJ none (some 2) (.tuple [a,b,c])=some (.tuple [a,b]):=by rw[uR,show(2:Int)=((2:Nat)) from rfl,fF];rfl
end
def fin (ns):∃F',pY ([none,some .feed]++List.replicate 7 none) (qk ns)=some (.rt<|.bool true,F'):=by
 have I:wp (pY ([none,some .feed]++List.replicate 7 none)<|qk ns) λo _=>o = .rt (.bool true):=by
  have h0:(qk ns).t=0:=rfl;have ek:kb (.str "first")=true:=by decide +kernel
  unfold pY;refine r6.2 ?_;unfold oN;refine G8.2 (U1.2<|d6.2<|l8.2<|h8.2<|d7 (bU (n:=2)<|by decide) (B6 (λm E F'=>F'.t<=2000*m/\∃(S Q H G F q k:Option DV),E=[none,some .feed,S,Q,H,G,F,q,k]) _ 0 _ (qk ns) #v[by (first|lia|omega),_,_,_,_,_,_,_,rfl] ?_ ?_) )
  .rintro m d e E F1 ⟨J,S,Q,H,G,F,q,k,rfl⟩;rw[yo] at *;let(hm,rfl):=fC (f:=λi:Nat=>CD.int (i:Int)) e;refine#v[_,rfl,r6.2 ?_];unfold cx;rw[Ds];refine y6.2<|v4.2<|lH.2<|w9d rfl<|(xu (m:=6) rfl<|by decide).wp (by (first|lia|omega)) λd W t2 v=>lY.2<|yK.2<|l8.2<|d7 xA ?_
   let(h,pl,r,rfl,A,g,_,ab):=v;refine d7 ML (l8.2<|d7 (LX (by show 2+1<=100000;decide)) #v[i6 rfl,k7<|r6.2 ?_]);show wp (ao [none,some .feed,some<|.dat<|.int (m:Int),some<|.dat<|hsD h pl<|.str "first",H,G,F,q,k] W) _;unfold ao;rw[vV];refine y6.2<|l5.2<|dN.2<|dC rfl<|w9v rfl<|O7.2<|v4.2<|l8.2<|w9d rfl<|G1 (by decide) (by decide) (by (first|lia|omega)) λy F3 Y X Z=>d7 K3<|O7.2<|l8.2<|l9.2 ?_
   obtain⟨n,en,n1,n8⟩:∃n:Nat,1+y=(n:Int)/\1<=n/\n<=8:=#v[(1+y).toNat,by (first|lia|omega),by (first|lia|omega),by (first|lia|omega)];rw[en];refine(pO (h:=h) (n:=n) (m:=8) (pl:=pl) rfl rfl (by (first|lia|omega)) ll (by decide) n1<|by (first|lia|omega)).wp (by (first|lia|omega)) λd V t4 v=>#v[i6 rfl,k7<|r6.2 ?_]
   let(l,rfl,L,P):=v;rw[ek]at L;have R:=Hc L n8 A g P;let(w1,w2):=jz λp a=>(L.ok p a).2
   have ac:=L.n2;have N:=L.n1;unfold cz;rw[Ac];refine y6.2 (l5.2<|w9v rfl<|l9.2<|Dd rfl L (by (first|lia|omega)) λb a=>#v[i6 rfl,k7<|r6.2 ?_]);unfold cy;refine y6.2<|l5.2<|w9v rfl<|w9v rfl<|l9.2<|Hj R N #v[i6 rfl,k7 ?_];unfold gE;refine G8.2 (U1.2<|d6.2<|l8.2<|h8.2<|d7 (bU (n:=2)<|by decide) (B6 (λj E F'=>F'=V/\∃(q k:Option DV),E=[none,some .feed,some<|.dat<|.int (m:Int),some<|.dat<|hsD h pl<|.str "first",some<|.dat<|.list<|l.map<|kwD pnD,some<|.dat<|.tuple<|b.map<|shD (A6 l).toNat,some<|.dat<|.str (qg h pl l (A6 l).toNat).shown,q,k]) _ 0 _ V #v[rfl,_,_,rfl] ?_ ?_) )
   .rintro j d e E F7 ⟨rfl,b7,b8,rfl⟩;refine#v[_,rfl,r6.2 ?_];unfold Y8;refine Mh (w9v rfl<|w9v rfl<|l9.2<|GK (R.perm a) (λp K=>by have:=(L.ok p<|a.mem_iff.1 K).2;(first|lia|omega)) (by (first|lia|omega)) (by (first|lia|omega)) #v[i6 rfl,?_]);rw[CC a];let(D,C,e2):=(show ∃D,Cw (.tuple [.list<|X9 h pl l (A6 l).toNat,(qd<|mkRat (N8 pl l) (A6 l).toNat)])=some D/\D.length<QX from #v[(X9 h pl l (A6 l).toNat),rfl,xr (by unfold X9;rw[jI,xB];have:=R.top;(first|lia|omega)) (by rw[xD];decide)]);exact cj.2 (v4.2<|E5.2<|d6.2<|w9w rfl<|h8.2<|d7 (zO<|R.gd (by (first|lia|omega))<|by (first|lia|omega))<|w9w rfl<|d7 MR<|d7 rfl #v[rfl,D,C,e2,l8.2<|cQ.2<|k7<|cQ.2 #v[_,rfl,rfl,_,_,rfl]])
   .rintro E F7 ⟨rfl,b7,b8,rfl⟩;exact#v[_,rfl,by (first|lia|omega),_,_,_,_,_,_,_,rfl]
  .rintro E F1 ⟨J,S,Q,H,G,F,q,k,rfl⟩;refine k7<|r6.2<|y6.2<|A8.2<|d6.2<|v4.2<|l8.2<|w9d rfl<|G1 (by decide) (by decide) (by simp at J;(first|lia|omega)) λy W Y X t2=>d7 K3<|d6.2<|l8.2<|d6.2<|l8.2<|h8.2 #v[v8 rfl,i6 rfl,k7<|r6.2 ?_]
   obtain⟨h,eh,A,g⟩:∃h:Nat,1+y=(h:Int)/\1<=h/\h<=3:=#v[(1+y).toNat,by (first|lia|omega),by (first|lia|omega),by (first|lia|omega)];rw[eh];refine om.2 (l5.2<|dN.2<|dC rfl<|w9v rfl<|l9.2<|(JW A g).wp (by simp at J;(first|lia|omega)) λd F3 Z v=>?_);let(B,T,b,rfl,x,al,s,hT,ad,w):=v;refine d7 rfl<|k7 ?_;have R:=s.rw (by decide) (by (first|lia|omega)) A g;have c:=kx s.pos;rw[s.sum]at c;have O:=λp a=>BJ x<|w p a
   have R2:Rw h none (b.map λp=>(p.1,wtB B T p)):=by
    refine#v[A,g,by rw[jI];exact R.n8,λp a=>?_,λ_ _ _ e=>(nomatch e),λp a=>?_]
    .let(z,u,rfl):=ue.1 a;exact R.st z u
    .let(z,u,rfl):=ue.1 a;have C:=O z u;have U:0<z.2*(T:Int):=Int.mul_pos (by have:=s.pos z u;(first|lia|omega)) (by (first|lia|omega));rw[<-C]at U;have g:=Int.pos_of_mul_pos_left U (by (first|lia|omega));have h4:wtB B T z*B<=T*B:=by rw[C,OM T ];exact Int.mul_le_mul_of_nonneg_right (c.2 z u) (by (first|lia|omega))
     have h5:=Int.le_of_mul_le_mul_right h4 (by (first|lia|omega));(first|lia|omega)
   have eT:A6 (b.map λp=>(p.1,wtB B T p))=T:=by unfold A6;rw[sJ];exact BP x s.sum O
   have M:1<=(b.map λp=>(p.1,wtB B T p)).length:=by
    cases b with
    | nil=>have:(0:Int)=B:=s.sum;(first|lia|omega)
    | cons p b=>simp
   refine O6.2 (v4.2<|E5.2<|d6.2<|l5.2<|w9v rfl<|w9v rfl<|l9.2<|GK R (λp a=>by have:=c.2 p a;(first|lia|omega)) x (by (first|lia|omega))<|h8.2<|d7 (zO<|R.gd x<|by (first|lia|omega)) (l5.2<|w9v rfl<|w9v rfl<|l9.2<|Hj R2 M ?_) );rw[eT,yB,mw x hT O];exact d7 MV rfl
 let(o,F',e,h):=I;exact#v[F',by rw[e,h]]
end K43
namespace K43
open PySem L2 L3
def all_mk {P}{w}{K:PySem.W.Frag}{h}{mg}{fa} (X:K.In h)(G:h.Ns Rf mg)(hfa:mg "law" = some (.ref fa))(hf) (hz:L3.AllNo K ["abs","dict","enumerate","int","len","list","max","min","range","repr","sorted","sum","tuple","zip"])
  {t_KEEPING} {it_KEEPING} {n_KEEPING} {sl_KEEPING} (ga_KEEPING) (gl_KEEPING:K.lookup t_KEEPING=some #v[.type "tuple",none,.seq it_KEEPING n_KEEPING,sl_KEEPING]) (gq_KEEPING:L3.strsOf it_KEEPING.toList=some (["first","last","short","front"]:List Str))
  {t_NEWCOMER} {it_NEWCOMER} {n_NEWCOMER} {sl_NEWCOMER} (ga_NEWCOMER) (gl_NEWCOMER:K.lookup t_NEWCOMER=some #v[.type "tuple",none,.seq it_NEWCOMER n_NEWCOMER,sl_NEWCOMER]) (gq_NEWCOMER:L3.intsV it_NEWCOMER.toList=some ([0,1]:List Int))
  {ti_MOST_AT_A_MOMENT} (gi_MOST_AT_A_MOMENT:PySem.W.nsIn K Rf "MOST_AT_A_MOMENT" = some (some<|My.int (200) ti_MOST_AT_A_MOMENT))
  (hs) (hnd0):=L3.law_mk (P:=P) (w:=w) X G hfa (hf.get 27 rfl) λbase d b {f e} c=>Nl c #v[#v[#v[_,X,G],hf,d,b,hnd0,hs],hz.mg X G (by decide),hz.mg X G (by decide),hz.mg X G (by decide),hz.mg X G (by decide),hz.mg X G (by decide),hz.mg X G (by decide),hz.mg X G (by decide),hz.mg X G (by decide),hz.mg X G (by decide),hz.mg X G (by decide),hz.mg X G (by decide),hz.mg X G (by decide),hz.mg X G (by decide),hz.mg X G (by decide),L3.gd_mk X G ga_KEEPING gl_KEEPING gq_KEEPING (by decide),L3.gd_mkI X G ga_NEWCOMER gl_NEWCOMER gq_NEWCOMER (by decide),#v[_,Oo X G gi_MOST_AT_A_MOMENT]] λa _=>fin a
def walk {l:PySem.W.OpenLaw}{K:Params->PySem.W.Frag}(hn:l.most=some 63)(hdf:d.params.defaults=[])
  (hrec:((["lined_up","picked","beats_waited","row_at"]:List Str).all λx=>((PyProof.Rows.recsOf q).find? λe=>e.name == x).isSome)=true) (hnt:∀w:QQ,PySem.W.noTabs (K w.params)=true)
  (hY:∀w h,YP w h->(K w.params).In h)
  (F:∀w mg fa h,(K w.params).In h->h.Ns Rf mg->mg d.name=some (.ref fa) ->
   ∃fd,(∀s u,BindsTo s fd #v[[u],[]] [("_law_script",u)])/\∀base,(K w.params).In base->base.Ns Rf mg->BMd base mg->(∀t∈L3.tabsK (["lined_up","picked","beats_waited","row_at"]:List Str) (K w.params),PySem.W.CodeHd base t.2.1 t.2.2)->FnOk l.prog w (K w.params) mg base CX0 9 fa fd ["_law_script"] (spLaw<|K w.params)) :
  PySem.W.WalkO q loose XP YP l.row.toRowW d [] (λf vs=>PySem.call f vs) :=
 L3.walk_ofT (["lined_up","picked","beats_waited","row_at"]) hn (by decide) hdf #v[rfl,by decide,by decide,rfl] hrec hnt hY F (λ_ _ a b hl g c=>#v[a,b,rfl,g,hl,c,λ_=>rfl]) λ_ _ _ _ _ z=>z
end K43
open PySem PySem.W PyProof.Rows
set_option maxRecDepth 100000 in
set_option maxHeartbeats 0 in
theorem PySem.Challenge.cw_hatchwaits_k43_waits_by_work_holds : PySem.Challenge.rw_hatchwaits_k43_waits_by_work.Holds := by
 w_on;o_law;k_head;(case hw=>w_witness2);k_fill;refine K43.walk (l:=PySem.Challenge.rw_hatchwaits_k43_waits_by_work) rfl rfl (by first | rfl | kernel_rfl) (by intro w;first | kernel_rfl | with_unfolding_all rfl) (λw h Y=>PySem.W.km_in_of Y) ?F;case F =>
  intro w mg fa h KX G hmg
  apply K43.all_mk KX G hmg
  (case hnd0=>first | kernel_rfl | with_unfolding_all rfl)
  (case hf=>repeat' first | exact trivial | refine⟨.of (by k_is) (by k_is) (by k_is) (by k_is),?_⟩)
  (case hz=>repeat' first | exact trivial | refine⟨by k_is,?_⟩)
  all_goals first | exact .of (by k_is) (by k_is) (by k_is) (by k_is) | k_is | kit_is | k_exc | rfl | decide | kernel_rfl | with_unfolding_all rfl