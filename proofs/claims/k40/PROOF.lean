import PyProof.Rows.All
import Wide.All
import OpenK.AllK
import Wide.FinOn
import Lean
import PyProof.EqAt
import PyProof.EqKinds
import PyProof.TupleCall
import PyProof.Rows.EqDataRows
import PyProof.Rows.InDataRows
import PyProof.StrLawsRepr
import PyProof.AutoListH
import PyProof.TupleKey
import PyProof.P3Eq
import PyProof.FString2
import PyProof.FactsAll.bool
import KE.KDictList
import PyProof.Rows.RuleB_bool
import PySem.Challenge.RW_hatchwaits_k40_means_of_a_beat
namespace PySem.W.Fast
def tw5608664142604958947:=0
def tw10627947422218927417:=0
def tw2905377175544179861:=0
def tw5172517583547037990:=0
def tw243496478121469557:=0
def tw13838274591409422149:=0
def tw16187870738493028716:=0
def tw6390413574597449022:=0
def tw10142315836123300729:=0
def tw13497414649238798876:=0
def tw3292862560110642706:=0
def tw16211947318892159509:=0
def tw4573316876111361951:=0
def tw6150004675184990951:=0
def tw5802390646042954162:=0
def tw8542462236202989901:=0
def tw10547797176657368140:=0
def tw4935041147105130718:=0
def tw15982564767558310996:=0
def tw11596271096680278223:=0
def tw680154266136272827:=0
def tw15399708345587678082:=0
def tw7902772967718572983:=0
def tw4219835367625377933:=0
def tw13443809416879511368:=0
def tw6461170160869613129:=0
def tw11793703461383296624:=0
def tw3399803218194560384:=0
def tw13765423351337533008:=0
def tw11340982058886574709:=0
def tw14344301030670579390:=0
def tw13595223566858140203:=0
def tw10499813962830546916:=0
def tw7991632839995350422:=0
def tw5064938396796425068:=0
def tw17778028089176235479:=0
def tw16720510849717363681:=0
def tw13870757734046433709:=0
def tw6338378245689429059:=0
def tw9424768690839616803:=0
def tw1626172943187762141:=0
def tw4184900408127713936:=0
def tw17896154558598927293:=0
def tw14595590240857612947:=0
def tw15512278628369771683:=0
def tw5479573637617260487:=0
def tw8285040210670340570:=0
def tw2859622447620314764:=0
def tw4046453692445787824:=0
def tw398669425868678908:=0
def tw1745523581401506437:=0
def tw17972941687517264538:=0
def tw18178056125587638136:=0
def tw6900069759566948884:=0
def tw753161482302723775:=0
def tw14247136326012062359:=0
def tw8437520085757745587:=0
def tw16953047388787780910:=0
def tw14381614151910304659:=0
def tw1102123281052327860:=0
def tw9684550785928383591:=0
def tw3099626283151137327:=0
def tw10718321583690356079:=0
def tw3359290275982946230:=0
def tw8217433578714790502:=0
def tw13909579270049294905:=0
def tw1729450899135183444:=0
def tw17124994378688030279:=0
def tw8670245289569009745:=0
def tw15834666139535103430:=0
def tw3833867787726077619:=0
def tw5226062412473084073:=0
def tw1189199676421108183:=0
def tw13307116928658831115:=0
def tw16352350457572395561:=0
def tw15102593550483868990:=0
def tw11445479420345333311:=0
def tw10821165433327887207:=0
def tw9816251283890642598:=0
def tw14472914121752996304:=0
def tw7835308964206640932:=0
def tw4924555302800092189:=0
def tw4498095490282307124:=0
def tw1529345796553631802:=0
def tw16636377345476495136:=0
def tw602570907351458662:=0
def tw17512504618944706376:=0
def tw8729438135377662915:=0
def tw14656532710710515101:=0
def tw7584363871484326912:=0
def tw16520911258828343607:=0
def tw11741183568247805051:=0
def tw11888793409352636449:=0
def tw6086717401670110253:=0
def tw4425914066843356365:=0
def tw17163539806241111593:=0
def tw3310469762787925740:=0
def tw3449155238665991405:=0
def tw6648029383111827875:=0
def tw2808229162221366110:=0
def tw15676050967699176130:=0
def tw11684933607231652599:=0
def tw14280470821293480917:=0
def tw3086435751760809523:=0
def tw16962641922757109381:=0
def tw18245951356235447106:=0
def tw17884930507702671598:=0
def tw4867669917682776768:=0
def tw2083575410717827010:=0
def tw11646650251086301303:=0
def tw3821768233528600361:=0
def tw1531717507595180194:=0
def tw9555295808030084079:=0
def tw11140755969360951438:=0
def tw6897273763382466116:=0
def tw5624303761245091079:=0
def tw16382945354445555616:=0
def tw10411791690041021257:=0
def tw14103332160022688022:=0
def tw13857633587619155128:=0
def tw3690580848845779253:=0
def tw4810023728706646648:=0
def tw17196894996764871562:=0
def tw1234573046940257813:=0
def tw15903473737838788972:=0
def tw6110249718987625764:=0
def tw2129172013837985464:=0
def tw17422595943903881717:=0
def tw5927756261653065146:=0
def tw4242521982889957788:=0
def tw7076622952916963099:=0
def tw16592623562742238794:=0
def tw7441490138641920652:=0
def tw18121140139885665183:=0
def tw7554438423684651699:=0
def tw13267465641088264547:=0
def tw9570500742414805180:=0
def tw7055204995576995965:=0
def tw8326895701239129830:=0
def tw7762643346485816693:=0
def tw17272153389716331980:=0
def tw13822692463543643442:=0
def tw15141803899808414826:=0
def tw6583537158056115394:=0
def tw17902311149244015634:=0
def tw5820424188532984344:=0
def tw15331519607648890761:=0
def tw3197405168501995279:=0
def tw12507098385450376936:=0
def tw4025000277287941025:=0
def tw11708770449867457135:=0
def tw13256217904303701601:=0
def tw17621046413775977384:=0
def tw16547048772293499490:=0
def tw16400591157987090019:=0
def tw8322678960306048985:=0
def tw9396015770226446568:=0
def tw4389010693582729302:=0
def tw14317069824739644082:=0
def tw7338052386070155014:=0
def tw6731971601259300461:=0
def tw2983613354116680885:=0
def tw13006248700697462620:=0
def tw7998579585255660615:=0
def tw344397640656235671:=0
def tw8839606625577462673:=0
def tw2453801145049788597:=0
def tw6254687435979196171:=0
def tw18201006140699387550:=0
def tw653035006853846926:=0
def tw14318079909288841728:=0
def tw7344651716951312168:=0
def tw227960989598228276:=0
def tw16916963474861270069:=0
def tw948489147489614485:=0
def tw1546246130372814917:=0
def tw16084108514650805692:=0
def tw12071056970684618932:=0
def tw5277488287345859489:=0
def tw12646867007779153770:=0
def tw7491907197505739342:=0
def tw16803823792717539945:=0
def tw1978749242349551126:=0
def tw14415602623200361240:=0
def tw10705202419860758974:=0
def tw8344752607127820445:=0
def tw4655750071172415362:=0
def tw281034955195265790:=0
def tw3976294077352510324:=0
def tw12064512009321269672:=0
def tw17305291305424820563:=0
def tw14322444265499419404:=0
def tw17597388685144736821:=0
def tw14385379914395471468:=0
def tw6393903100524962537:=0
def tw6420778067292129999:=0
def tw8049690979143515856:=0
def tw11757973906795950176:=0
def tw14529775275844140838:=0
def tw15949042000582220158:=0
def tw8019616545666994224:=0
def tw18143326766057533807:=0
def tw1246866269119322997:=0
def tw7845029888884350776:=0
def tw12523124624709305114:=0
def tw5720839622582075950:=0
def tw4590250976381501838:=0
def tw13338952803617798236:=0
def tw13189901440209243671:=0
def tw12961235417126939238:=0
def tw9223683132314591915:=0
def tw15772991531220976164:=0
def tw7230986675125051324:=0
def tw13081421598457419138:=0
def tw15131176004384194531:=0
def tw14150798349876612286:=0
def tw12204611318911085431:=0
def tw7934380086213983011:=0
def tw8087400369041695472:=0
def tw16872966869458409566:=0
def tw509958025855191508:=0
def tw14481396752451308843:=0
def tw8809425572085504380:=0
def tw6678677671431073160:=0
def tw16530512781599338714:=0
def tw3097501218679875989:=0
def tw7179611243762799198:=0
def tw10179752210184744867:=0
def tw16065372196694141088:=0
def tw13122903871566014342:=0
def tw13697951466497326403:=0
def tw12574733942701206640:=0
def tw2978168147750056695:=0
def tw3256041506018680205:=0
def tw13958788300938066294:=0
def tw5124240374872011763:=0
end PySem.W.Fast
abbrev Fg:=PySem.W.Frag
open PySem renaming PyData->My,Value->RC,Addr->RD,Shared->RE,Program->RF,World->RG,Around->RH,Scope->RI,FuncData->RJ,Stmt->RK,Expr->RL,Heap->RM,sizeLine->RN,starEach->RO,Obj->RP,Env->RQ,backTo->RR,Keyword->RS,wpAny->RT,mainGlobals->RU,swapsWith->RV,attributeBase->RW,bootBuiltins->RX,foldedSetIterable->RY,assignEach->RZ,cLine->Sa,NameKind->Sd,backToKw->Se,keywordEach->Sf
open PyProof.Rows renaming Keyed->Sb
set_option compiler.extract_closed false
noncomputable section
local macro_rules | `(tactic| omega)=>`(tactic| lia)
def LV:=@PySem.wpAny_bind
def LX:=@List.length_map
def LY:=@PySem.wpAny_pure
def LZ:=@PySem.Heap.get?_push_of_some
def Ma:=@List.map_cons
def Mb:=@if_pos
def Mc:=@List.mem_cons_of_mem
def Md:=@if_neg
def Me:=@List.mem_cons_self
def Mf:=@List.length_cons
def Mg:=@Option.some.inj
def Mh:=@Nat.le_refl
def Mi:=@List.mem_cons
def Mj:=@List.getElem?_eq_some_iff
def Ml:=@List.getElem?_eq_getElem
def Mm:=@PySem.Heap.lt_size
def Mn:=@List.getElem?_set_ne
def Mo:=@List.getElem?_set_self
def Mp:=@PySem.Heap.get?_push_size
def Mq:=@List.map_map
def Mr:=@List.size_toArray
def Ms:=@Option.map_eq_some_iff
def Mt:=@List.getElem?_map
def Mu:=@List.mem_append_right
def Mv:=@decide_eq_true
def Mw:=@decide_eq_false
def Mx:=@Nat.lt_of_lt_of_le
def Mz:=@Bool.false_ne_true
def MA:=@List.cons_append
def MB:=@List.length_range
def MC:=@Nat.ne_of_lt
def MD:=@of_decide_eq_true
def ME:=@List.nil_append
def MF:=@Option.bind_some
def MG:=@List.getD_eq_getElem?_getD
def MH:=@List.pairwise_cons
def MI:=@List.map_nil
def MJ:=@Nat.lt_of_le_of_lt
def MK:=@Nat.le_trans
def ML:=@List.mem_map
def MM:=@Nat.zero_add
def MN:=@List.mem_filter
def MO:=@List.map_congr_left
def MP:=@List.length_nil
def MQ:=@PySem.sizeLine_eq
def MR:=@PySem.wpAny_mono
def MS:=@List.length_append
def MT:=@Bool.false_eq_true
def MU:=@List.mem_of_getElem?
def MV:=@List.drop_eq_getElem_cons
def MW:=@List.mem_range
def MX:=@List.length_take
def MY:=@PySem.wpAny_newObj_type
def MZ:=@Array.length_toList
def Na:=@PySem.mem_of_lookup
def Nb:=@PyProof.Rows.slot_tuple_getitem
def Nc:=@Array.getElem?_toList
def Nd:=@PyProof.Rows.wpS_bind
def Nf:=@if_false
def Ng:=@PySem.wpAny_call_entry
def Nh:=@Int.mul_le_mul_of_nonneg_right
def Ni:=@List.mem_singleton
def Nj:=@Nat.zero_le
def Nk:=@if_true
def Nl:=@List.lookup_cons
def Nm:=@PySem.SeqAt.canLay_of_shaped
def Nn:=@congrArg
def Np:=@Option.isSome_iff_exists
def Nq:=@of_decide_eq_false
def Nr:=@PySem.W.mg_none_of
def Nt:=@List.map_append
def Nu:=@Nat.add_le_add_left
def Nv:=@Nat.lt_irrefl
def Nw:=@Int.mul_assoc
def Nx:=@PySem.wpAny_callSpecial?_slot
def Ny:=@List.getElem?_eq_none_iff
def Nz:=@PySem.wpAny_field
def NA:=@List.take_of_length_le
def NB:=@PySem.Heap.size_push
def NC:=@List.append_nil
def ND:=@List.length_set
def NF:=@List.length_filter_le
def NG:=@List.getElem?_replicate
def NH:=@PyProof.Rows.wpS_pure
def NI:=@List.pairwise_iff_getElem
def NJ:=@PySem.Heap.SameBut.update
def NK:=@List.filter_sublist
def NL:=@PySem.F.slot_dict_keyiterator_next
def NM:=@decide_eq_true_eq
def NO:=@List.mem_append
def NP:=@Int.natAbs_natCast
def NQ:=@Nat.pow_le_pow_right
def NR:=@List.find?_cons_of_pos
def NS:=@List.find?_cons_of_neg
def NT:=@List.flatten_cons
def NU:=@List.take_add_one
def NV:=@List.pairwise_map
def NW:=@List.mem_map_of_mem
def NX:=@List.getElem?_zip_eq_some
def NY:=@List.length_replicate
def NZ:=@Nat.lt_succ_self
def Oa:=@List.getElem_mem
def Ob:=@List.mapM_cons
def Oc:=@PySem.wpAny_truthy_bool
def Od:=@Int.toNat_natCast
def Oe:=@Nat.lt_succ_of_lt
def Of:=@PyProof.Rows.callWith_type1
def Og:=@List.replicate_succ
def Oh:=@Int.mul_comm
def Oi:=@PySem.wpAny_rule
def Oj:=@List.getElem?_append_right
def Ol:=@PySem.wpAny_holding
def Om:=@List.sum_cons
def On:=@PySem.F.slot_tuple_iterator_next
def Oo:=@List.not_mem_nil
def Oq:=@PySem.wpAny_pyIter_tuple
def Os:=@List.getElem?_eq_none
def Ot:=@PySem.wpAny_seqItems
def Ou:=@List.getElem?_append_left
def Ov:=@Nat.le_of_lt
def Ow:=@Bool.eq_iff_iff
def Ox:=@List.nodup_cons
def Oy:=@List.find?_cons
def Oz:=@PySem.wpAny_typeNameOfWhole_keyiter
def OA:=@List.length_eq_zero_iff
def OB:=@List.getElem?_cons_succ
def OC:=@List.filter_cons_of_pos
def OD:=@beq_eq_false_iff_ne
def OE:=@List.getElem?_range
def OF:=@List.getElem_map
def OG:=@decide_eq_decide
def OH:=@List.take_length
def OI:=@Nat.le_succ
def OJ:=@List.drop_of_length_le
def OK:=@Option.isSome_some
def OL:=@PySem.wpAny_setField_rec
def OM:=@PySem.wpAny_passesOwn
def OO:=@List.getElem?_toArray
def OP:=@Classical.choose_spec
def OQ:=@List.nodup_iff_pairwise_ne
def OR:=@Nat.le_of_dvd
def OS:=@PySem.Heap.get?_push_ne
def OT:=@List.mem_of_mem_take
def OU:=@Ne.symm
def OV:=@Bool.and_eq_true
def OW:=@PySem.wpAny_typeNameOf_keyiter
def OX:=@PySem.AutoSeq1.sub_tuple_tuple
def OY:=@List.idxOf_lt_length_iff
def OZ:=@List.filterMap_cons
def Pa:=@List.filter_cons_of_neg
def Pb:=@PySem.wpAny_standAt
def Pc:=@Bool.not_true
def Pd:=@PyProof.Rows.listUpdate_at
def Pe:=@PySem.wpAny_specialOf
def Pf:=@List.zip_cons_cons
def Pg:=@Nat.not_lt_zero
def Ph:=@List.filter_append
def Pi:=@PySem.W.cellsFrom_some
def Pj:=@Int.le_refl
def Pk:=@List.mapM_toArray
def Pl:=@Nat.ne_of_gt
def Pm:=@Int.mul_nonneg
def Po:=@PySem.F.slot_zip_next
def Pp:=@List.getElem_inj
def Pq:=@PySem.call_meets
def Pr:=@List.all_eq_true
def Pt:=@PySem.Heap.size_update
def Pu:=@PySem.wpAny_callSpecialIfBoundUnlessNone?_slot
def Pw:=@PySem.F.slot_tuple_mul
def Px:=@List.drop_length
def Py:=@List.filter_cons
def Pz:=@PySem.Paired.length
def PB:=@PySem.wpAny_attempt
def PD:=@Int.toNat_of_nonneg
def PF:=@PyProof.Rows.get?_update_seq
def PH:=@Nat.min_eq_left
def PJ:=@List.mem_filterMap
def PL:=@PySem.wpAny_Call_Name_kw
def PN:=@PySem.F.args_tuple_add_2
def PP:=@Prod.ext
def PQ:=@PySem.wpAny_comprehension_free
def PR:=@Int.lt_or_eq_of_le
def PU:=@PyProof.Rows.wpS_forRange
def PX:=@Array.forIn_toList
def PY:=@List.getElem_range
def PZ:=@PySem.F.args_dict_keyiterator_next_1
def Qa:=@PySem.Obj.data_mapFields
def Qb:=@PySem.F.slot_str_getitem
def Qc:=@Int.emod_lt_of_pos
def Qd:=@PyProof.Rows.Reads.keeps
def Qe:=@Int.mul_right_comm
def Qf:=@List.getElem_idxOf
def Qg:=@PySem.F.entry_dict_keyiterator_next
def Qh:=@PySem.F.entry_tuple_add
def Qi:=@PySem.AutoSeq1.sub_tuple_list
def Qj:=@PySem.AutoSeq1.sub_list_tuple
def Qk:=@List.reverse_cons
def Ql:=@List.append_assoc
def Qm:=@Option.isSome_map
def Qn:=@PySem.F.slot_tuple_hash
def Qo:=@Option.some.injEq
def Qp:=@PySem.F.args_tuple_iterator_next_1
def Qq:=@Int.gcd_dvd_right
def Qr:=@List.filter_congr
def Qt:=@PySem.F.slot_tuple_add
def Qu:=@decide_true
def Qv:=@PySem.AutoSeq1.sub_list_list
def Qw:=@PySem.F.entry_tuple_iterator_next
def Qx:=@Int.mul_pos
def Qy:=@PySem.W.mg_of
def Qz:=@PySem.wpAny_forIn_list
def QA:=@PySem.wpAny_isInstance
def QB:=@PySem.F.slot_bool_hash
def QC:=@or_false
def QD:=@Rat.mkRat_eq_iff
def QE:=@Nat.min_eq_right
def QF:=@PyProof.Rows.IsTup.new
def QG:=@List.sizeOf_lt_of_mem
def QH:=@List.mem_append_left
def QI:=@PySem.wpAny_Name
def QJ:=@PySem.wpAny_execs_nil
def QK:=@PySem.typeIs_str
def QL:=@PySem.F.slot_int_rmul
def QM:=@Option.map_some
def QN:=@decide_false
def QO:=@PyProof.Rows.pairsOf_size
def QP:=@PySem.wpAny_ite_false
def QQ:=@Int.emod_nonneg
def QR:=@PySem.wpAny_updateSeq_pair
def QS:=@List.filter_nil
def QT:=@List.mem_iff_getElem
def QU:=@List.sum_append
def QV:=@List.length_reverse
def QW:=@List.length_pos_iff
def QX:=@Array.size_map
def QY:=@List.nodup_nil
def QZ:=@PySem.wpAny_setField
def Ra:=@Int.gcd_pos_of_ne_zero_right
def Rb:=@PySem.Calls.spliced_cons
def Rc:=@PySem.Heap.IsSliceOf.new
def Re:=@PySem.wpAny_tupleItemsOf
def Rf:=@PySem.F.args_tuple_mul_2
def Rg:=@Int.fdiv_eq_ediv_of_nonneg
def Rh:=@List.any_cons
def Ri:=@PySem.wpAny_newList
def Rj:=@Nat.add_assoc
def Rk:=@PySem.wpAny_onRaise
def Rl:=@List.perm_ext_iff_of_nodup
def Rn:=@bne_self_eq_false
def Ro:=@List.getElem_take
def Rp:=@Option.getD_none
def Rq:=@Nat.mul_comm
def Rr:=@Nat.lt_trans
def Rt:=@List.all_toArray
def Ru:=@Nat.lt_or_ge
def Rv:=@map_eq_pure_bind
def Rw:=@Nat.gcd_comm
def Rx:=@Int.gcd_dvd_left
def Ry:=@List.of_mem_zip
def Rz:=@List.forIn_cons
def RA:=@Nat.log2_lt
def RB:=@Int.mul_add
def bS9 {α:Type _}{β:Type _}{x:Option α}{f:α->Option β}{b:β}(h:x.bind f=some b):∃a,x=some a/\f a=some b:=Option.bind_eq_some_iff.1 h
set_option Elab.async false
set_option linter.all false
set_option maxRecDepth 100000
set_option hygiene false
local macro_rules | `(tactic| walk_at "v")=>`(tactic| first | exact Or.inl rfl | exact Or.inr rfl | exact Or.inr (Or.inl rfl) | exact Or.inr (Or.inr rfl) | assumption)
local macro_rules | `(tactic| walk_at "kaf")=>`(tactic| (obtain⟨u,rfl,ru⟩:=K0 r;cases ru))
local macro_rules | `(tactic| walk_at "kae")=>`(tactic| (split at hf <;> try cases hf))
local macro_rules | `(tactic| walk_at "kad")=>`(tactic| (refine t9 Fn R9 λSi A outer s H E hr=>?_))
local macro_rules | `(tactic| walk_at "kac")=>`(tactic| (have e:ps.map (λp=>My.int p.2.1)=(ps.map λp=>p.2.1).map My.int:=by rw[Mq];rfl))
local macro_rules | `(tactic| walk_at "kab")=>`(tactic| (obtain⟨⟨x,F1⟩,e1,e⟩:=bS9 e;obtain⟨c,e2,e⟩:=bS9 e))
local macro_rules | `(tactic| walk_at "kaa")=>`(tactic| (cases ra;cases rb;rw[ltM]at hr;cases hr;subst hf;exact kat_nil (by simpa using q)))
local macro_rules | `(tactic| walk_at "kz")=>`(tactic| (intro vv s O H xs us Q I r h))
local macro_rules | `(tactic| walk_at "ky")=>`(tactic| (obtain⟨⟨x,F1⟩,e1,e⟩:=bS9 e;obtain⟨⟨ys,F2⟩,e2,e⟩:=bS9 e;cases e;walk_at "kp"))
local macro_rules | `(tactic| walk_at "kx")=>`(tactic| (
 obtain⟨o,ho,hc,hd⟩:=id hit;obtain⟨ol,hol,_,nl,hdl⟩:=hl;unfold Builtin.SmallTypes.nextOf;refine LV (Nx (name:=Str.ofString "__next__") hit.typeIs On
  (Ng On hit.typeIs Qw ?_ (Qp _)))))
local macro_rules | `(tactic| walk_at "kw")=>`(tactic| (obtain⟨os,hos,hcs,hds⟩:=id hs;have hTs:s.TypeIs (.ref sl) "slice":=⟨os,hos,hcs⟩;unfold getItem))
local macro_rules | `(tactic| walk_at "kv")=>`(tactic| (obtain⟨w1,w2⟩:=zz D.ls (by decide);obtain⟨v1,v2⟩:=uF D.bs (by decide)))
local macro_rules | `(tactic| walk_at "ku")=>`(tactic| (intro X hP hw hK hc i vv s O H E I hf st hg;subst hP hw hK))
local macro_rules | `(tactic| walk_at "kt")=>`(tactic| (
 induction r with
 | nil=>exact .nil
 | @cons p q ps qs h t ih =>
  rw[Ma,Ma];refine .cons ?_ ih;obtain⟨h1,h2,h3⟩:=h;unfold putAt;by_cases e:p.1=k
  .rw[Mb e,Mb (h1.symm.trans e)];exact⟨h1,h2,ry⟩
  .rw[Md e,Md (λz=>e (h1.trans z))];exact⟨h1,h2,h3⟩))
local macro_rules | `(tactic| walk_at "ks")=>`(tactic| (
 have ow4:∀(j:Nat) (ds:List My),E4[j]? = some (some (DV.own ds))->σ4[j]? ≠ some (some (V.ref D)):=λj ds ej=>by
  obtain⟨a1,a2⟩:=fr j λy z=>by rw[ej]at z;cases z
  rw[a2];exact ow j ds (a1▸ej)
 refine ht G (D::B) E4 F3 σ4 H2 _ b F5 I4 e5 λH5 k5 f5=>?_))
local macro_rules | `(tactic| walk_at "kr")=>`(tactic| (show RT _ _ (Builtin.Tuple.tupleItemsOf (.ref t) >>= _) _ _ s;refine LV (tupleItemsOf_ ht ?_);refine LV (wpAny_typeOf hTs ?_);rw[Mb (by decide)]))
local macro_rules | `(tactic| walk_at "kq")=>`(tactic| (
 have ht3:t+1<=200000:=by omega
 obtain⟨sq1,sq2⟩:=zZ ht2 ht3;refine⟨_,rfl,_,_,rfl,rfl,⟨by decide,by decide,by decide⟩,_,_,rfl,rfl,_,rfl,?_⟩;refine rP (λhb1=>⟨_,rfl,_,rfl,c,_,rfl,.inl (SqL.of hc3),_,_,rfl,rfl,_,rfl,rP (λhb2=>?_) (λhb2=>?_)⟩) (λhb1=>DJ ?_)))
local macro_rules | `(tactic| walk_at "kp")=>`(tactic| (refine ha.ok G B E F O H _ x F1 I e1 λv H1 k1 f1 h1=>?_))
local macro_rules | `(tactic| walk_at "ko")=>`(tactic| (
 obtain⟨o,ho,hc,hd⟩:=id hit;obtain⟨od,hod,hcd,hdd⟩:=hm;unfold pyNext;refine LV (PB (Nx (name:=Str.ofString "__next__") hit.typeIs NL
  (Ng NL hit.typeIs Qg ?_ (PZ _))))
 refine LV (LY (LV (LV ?_)));first | refine LV (Oz hit.typeIs (LY ?_)) | refine LV (OW hit.typeIs (LY ?_))))
local macro_rules | `(tactic| walk_at "kn")=>`(tactic| (show RT _ _ (newExc (.type "StopIteration") [] >>= _) _ _ _;refine LV ?_;simp only[newExc,newTuple];refine LV (MY ?_ (by size_fits));refine LV (m:=firstArgMember _ _) (wpAny_of_eq (a:=RC.none) (by first | rfl | (simp only[firstArgMember];rfl)) ?_);refine MY ?_ (by size_fits);simp only[raiseNew];refine LV (wpAny_handled ?_)))
local macro_rules | `(tactic| walk_at "km")=>`(tactic| (obtain⟨⟨y,F1⟩,e1,e⟩:=bS9 e;obtain⟨z,e2,e⟩:=bS9 e;cases e;refine h.ok G B E F O H _ y F1 I e1 λv H1 k1 f1 h1=>?_))
local macro_rules | `(tactic| walk_at "kl")=>`(tactic| (
 intro l;induction l with
 | nil=>intro k;rfl
 | cons d l ih =>
  intro k;rw[R0,ih,Mf,List.range_succ_eq_map,Ma,Mq];have e1:(My.tuple [.int (k:Int),d]) = .tuple [.int ((k+0:Nat):Int),(d::l).getD 0 .none]:=by simp
  rw[<-e1];refine Nn (List.cons _) (MO λi _=>?_);simp only[Function.comp,Nat.succ_eq_add_one,List.getD_cons_succ];rw[show k+1+i=k+(i+1) by omega]))
local macro_rules | `(tactic| walk_at "kk")=>`(tactic| (show RT _ _ (field (.ref it) 0 >>= _) _ _ s;refine LV (Nz ho hd (x:=.ref l) rfl ?_);show RT _ _ (if (RC.ref l == RC.none)=true then _ else _) _ _ s;rw[Md (show ¬((RC.ref l == RC.none)=true) from Mz)];show RT _ _ (field (.ref it) 1 >>= _) _ _ s;refine LV (Nz ho hd (x:=.int i 0) rfl ?_);show RT _ _ (seqItems? (.ref l) >>= _) _ _ s;refine LV (Ot hol hdl ?_)))
local macro_rules | `(tactic| walk_at "kj")=>`(tactic| (refine LV (wpAny_fieldsOf ho hd ?_);simp only[show Builtin.Dict_items.ownsTuple "dict_keyiterator" = false by decide,MT,Nf];show RT _ _ (if (RC.ref d == RC.none)=true then _ else _) _ _ s;rw[Md (show ¬((RC.ref d == RC.none)=true) from Mz)];refine LV (LY (LV (wpAny_dictEntries hod hdd ?_)));rw[Md (by simp)];refine LV (LY (LV (wpAny_dictEpoch hod hdd ?_)));rw[Md (by simp)]))
local macro_rules | `(tactic| walk_at "ki")=>`(tactic| (
 first | refine LV (LY ?_) | skip
 refine LV (wpAny_sequenceKey ht.typeIs (by decide) ?_);refine LV (Nx (name:=Str.ofString "__getitem__") ht.typeIs Nb
  (Ng Nb ht.typeIs entry_tuple_getitem ?_ (args_tuple_getitem _ _)))))
local macro_rules | `(tactic| walk_at "kh")=>`(tactic| (walk_at "kb";refine y9.2 (i9.2 (l7.2 (j4.2 (j3 rfl (l7.2 (j4.2 (j3 rfl (l7.2 (j4.2 (j3 rfl (tV.2 (l4.2 ?_))))))))))))))
local macro_rules | `(tactic| walk_at "kg")=>`(tactic| (intro vv s O H xs us Q I r h;obtain⟨fp,B,ds,z,bk,h1,hf,q⟩:=h))
local macro_rules | `(tactic| walk_at "kf")=>`(tactic| (intro vv s O H x y v u Q I rx ry h;obtain⟨fp,B,d,e,r,bk,h1,h2,hf,q⟩:=h))
local macro_rules | `(tactic| walk_at "ke")=>`(tactic| (
 have big:10 ^ 18<=(FdS.cellL ⟨ns,a,l,t⟩)/\a<ns.length->∀H',H'=(upd H3 d (.dK (v4 c (a+1) (FdS.cellL ⟨ns,a,l,t⟩ / m) (t+1))))->Q (.int (FdS.cellL ⟨ns,a,l,t⟩ % m)) H':=λhb H' eH=>by subst eH;exact k _ _ ⟨ns,a+1,FdS.cellL ⟨ns,a,l,t⟩ / m,t+1⟩ (by rw[hdr,Md hleft,Mb hb]) ⟨k8,by rw[i3 ncd];exact hc3,hl63,by simp only;omega,by simp only;omega⟩ (λb o e hb=>by rw[i3 hb];exact kp3 b o e hb)
 have small:¬(10 ^ 18<=(FdS.cellL ⟨ns,a,l,t⟩)/\a<ns.length)->Q (.int (ro (FdS.cellL ⟨ns,a,l,t⟩) (t+1) % m)) H3:=λhb =>
  k _ _ ⟨ns,a+1,l,t+1⟩ (by rw[hdr,Md hleft,Md hb]) ⟨hd3,hc3,hl63,by simp only;omega,by simp only;omega⟩ kp3))
local macro_rules | `(tactic| walk_at "kd")=>`(tactic| (
 have ysg:∀i,i<its.length->((List.range its.length).map λi=>zs.getD (p' i) .non)[i]? = zs[p' i]?:=λi hi=>by rw[Mt,OE hi];have hpi:=a3.2.2 i hi;show some (zs.getD (p' i) .non)=_;rw[MG,Ml (by omega)];rfl
 have I1:Inv X vv O (upd H (s.heap.objs.size+1) (.lst ((List.range its.length).map λi=>zs.getD (p' i) .non))) { s with heap:=sortedAll s.heap its out,toks:=s.toks } :=
  I.laid (a:=s.heap.objs.size+1) (λb o ho=>sortedAll_old ho) (OI _) ⟨by rw[ysl,MQ];omega,out.toList,e,P9 (by rw[ysl,atl out,a1]) (λi x u hx hu=>by
   have hi:i<its.length:=by have:=(Mj.1 hx).1;rwa [ysl]at this
   rw[ysg i hi]at hx;rw[a2 i hi]at hu;obtain⟨u',g1,g2⟩:=rv.get hx;rw[g1]at hu;rw[<-Mg hu];exact g2),by rw[he]⟩
 exact⟨.ref (s.heap.objs.size+1),_,I1,rfl,q _ _ (I.hok.fresh (OI _)) ⟨by rw[ysl,hlen],p',by rw[hlen];exact a3,λi hi=>ysg i (by omega)⟩⟩))
local macro_rules | `(tactic| walk_at "kc")=>`(tactic| (
 intro vv s O H Q I h;have hcell:∀y∈scope.names,y.2 = .free->∃c,X.env.cells.lookup y.1=some c:=λy hy hk=>I.ok.has y.1 (by show X.env.scope.names.lookup y.1=_\/X.env.scope.names.lookup y.1=_;rw[hosc];exact hcap.free y hy hk)
 walk_at "ka"
 generalize E9 f scope.names []=cl at hclos hcl hhas;rw[eval_ListComp];refine PQ (use:=none) (cl:=cl) rfl hs hclos hcap.kind hcap.loc ?_;refine thn (hi vv s O H _ I h) λv s1 h1=>thn h1 λitv s2 h2=>?_
 obtain⟨it,fp,tn,J,H2,e,I2,T,st2,f2,q2⟩:=h2;subst e;obtain⟨W,⟨m0,w0⟩,turn⟩:=q2 s2.heap.objs.size (I2.hok.fresh (Mh _));refine MY ?_;have I3:Inv X vv O (upd H2 s2.heap.objs.size (.lst [])) { s2 with heap:=s2.heap.push { cls:=.type "list",data:=.seq ([]:List RC).toArray } }:=I2.lnew (ys:=[]) (its:=[]) (t':=s2.toks) .nil (Nj _);have lt2:∀b∈fp,b≠s2.heap.objs.size:=λb hb=>by obtain⟨o,e,_⟩:=T.obj _ _ st2 b hb;exact MC (Mm e)))
local macro_rules | `(tactic| walk_at "kb")=>`(tactic| (refine C2.2 ?_;dsimp only[q5,Ma,MI,Mf,MP,List.replicate,MA,ME,Nat.reduceAdd,Nat.reduceSub]))
local macro_rules | `(tactic| walk_at "ka")=>`(tactic| (
 let f:Str->RD:=λx=>(X.env.cells.lookup x).getD 0
 have hf:∀y∈scope.names,y.2 = .free->X.env.cells.lookup y.1=some (f y.1):=λy hy hk=>by obtain⟨c,e⟩:=hcell y hy hk;show _=some ((X.env.cells.lookup y.1).getD 0);rw[e];rfl
 have hclos:closureFor scope X.env=pure (E9 f scope.names []):=J4 λy hy hk=>by unfold cellOf;rw[hf y hy hk]
 have hcl:∀{x:Str} {c:RD},(E9 f scope.names []).lookup x=some c->X.env.cells.lookup x=some c:=λ{x c} e=>by
  rcases M9 _ _ e with ⟨h1,h2⟩ | h1
  .rw[h2];exact hf (x,.free) h1 rfl
  .simp at h1
 have hhas:∀x,(x,Sd.free)∈scope.names->∃c,(E9 f scope.names []).lookup x=some c:=λx hx=>⟨_,X4 _ _ (.inl hx)⟩))
set_option hygiene true
namespace L2
open PySem PySem.Spec PyProof.Rows
section
abbrev Key :=Sum Int Str
def iZ:Key->RC->Bool
 | .inl k,v=>RC.isInt k v
 | .inr x,v=>RC.isStrOf x v
def EU (w:RG):Key->Int
 | .inl k=>hashInt k
 | .inr x=>hashStr w x
theorem C4:∀{k:Key} {v:RC},iZ k v=true->(∃i t,k=Sum.inl i/\v=RC.int i t)\/(∃x t,k=Sum.inr x/\v=RC.str x t)
 | .inl i,v,h=>by
  obtain⟨t,e⟩:=RC.isInt_shape (k:=i) (v:=v) h;exact .inl ⟨i,t,rfl,e⟩
 | .inr x,v,h=>by obtain⟨t,e⟩:=RC.isStrOf_shape (x:=x) (v:=v) h;exact .inr ⟨x,t,rfl,e⟩
def sA (i:Int)(t:Tok):iZ (.inl i) (.int i t)=true:=by simp[iZ,RC.isInt]
def sR (x:Str)(t:Tok):iZ (.inr x) (.str x t)=true:=by simp[iZ,RC.isStrOf]
def Ce (a b:Int):decide ((Sum.inl a:Key)=Sum.inl b)=(a == b):=by
 by_cases e:a=b
 .subst e;simp
 .have h:¬(Sum.inl a:Key)=Sum.inl b:=λq=>e (Sum.inl.inj q)
  rw[Mw h];exact(OD.2 e).symm
def Ax (a b:Str):decide ((Sum.inr a:Key)=Sum.inr b)=decide (a=b):=by
 by_cases e:a=b
 .subst e;simp
 .have h:¬(Sum.inr a:Key)=Sum.inr b:=λq=>e (Sum.inr.inj q)
  rw[Mw h,Mw e]
def BF (a:Int)(b:Str):decide ((Sum.inl a:Key)=Sum.inr b)=false:=Mw (λq=>nomatch q)
def Ba (a:Str)(b:Int):decide ((Sum.inr a:Key)=Sum.inl b)=false:=Mw (λq=>nomatch q)
def C8 (prog:RF)(w:RG):PySem.KeyKind prog w Key where
 is:=iZ
 hash:=EU w
 inj:=λv a b ha hb=>by
  rcases C4 ha with ⟨i,t,rfl,rfl⟩ | ⟨x,t,rfl,rfl⟩
  .rcases C4 hb with ⟨j,u,rfl,e⟩ | ⟨y,u,rfl,e⟩
   .injection e with e1 _;rw[e1]
   .exact nomatch e
  .rcases C4 hb with ⟨j,u,rfl,e⟩ | ⟨y,u,rfl,e⟩
   .exact nomatch e
   .injection e with e1 _;rw[e1]
 byValue:=λk v h=>by rcases C4 h with ⟨i,t,rfl,rfl⟩ | ⟨x,t,rfl,rfl⟩ <;> rfl
 pyHash:=λhv h=>by
  rcases C4 hv with ⟨i,t,rfl,rfl⟩ | ⟨x,t,rfl,rfl⟩
  .exact wpAny_pyHash_int h
  .exact wpAny_pyHash_str h
 eqBool:=λhu hv h=>by
  rcases C4 hu with ⟨i,t,rfl,rfl⟩ | ⟨x,t,rfl,rfl⟩
  .rcases C4 hv with ⟨j,u,rfl,rfl⟩ | ⟨y,u,rfl,rfl⟩
   .rw[Ce]at h;exact wpAny_eqBool_int h
   .rw[BF]at h;exact SeqAt.EqAt.int_str i t y u _ _ _ _ h
  .rcases C4 hv with ⟨j,u,rfl,rfl⟩ | ⟨y,u,rfl,rfl⟩
   .rw[Ba]at h;exact SeqAt.EqAt.str_int x t j u _ _ _ _ h
   .rw[Ax]at h;exact wpAny_eqBool_str h
 «strs»:=λk x t v h=>by
  rcases C4 h with ⟨i,u,rfl,e⟩ | ⟨y,u,rfl,e⟩
  .exact nomatch e
  .injection e with e1 _
   subst e1;cases v <;> rfl
def mY (prog:RF)(w:RG)(i:Int)(t:Tok):(C8 prog w).is (.inl i) (.int i t)=true:=sA i t
def mW (prog:RF)(w:RG)(x:Str)(t:Tok):(C8 prog w).is (.inr x) (.str x t)=true:=sR x t
end
variable {h':RM}
section
inductive V where
 | non | bl (b:Bool) | int (i:Int) | str (x:Str) | byt (b:Array UInt8) | flt (b:UInt64) | ref (a:RD) | ty (n:String)
 deriving DecidableEq
def u4:V->RC->Prop
 | .non,u=>u=RC.none
 | .bl b,u=>u=RC.bool b
 | .int i,u=>∃t,u=RC.int i t
 | .str x,u=>∃t,u=RC.str x t
 | .byt b,u=>∃t,u=RC.bytes b t
 | .flt b,u=>∃t,u=RC.float b t
 | .ref a,u=>u=RC.ref a
 | .ty n,u=>u=RC.type n
abbrev p8 :List V->List RC->Prop:=Paired u4
def p8.length {xs:List V}{us:List RC}(r:p8 xs us):xs.length=us.length:=Pz r
theorem p8.get:∀{xs:List V} {us:List RC} {i:Nat} {x:V},p8 xs us->xs[i]? = some x->∃u,us[i]? = some u/\u4 x u
 | _,_,_,_,.nil,e=>by simp at e
 | _,_,0,_,.cons r _,e=>by simp at e;subst e;exact⟨_,rfl,r⟩
 | _,_,i+1,x,.cons _ t,e=>by obtain⟨u,h1,h2⟩:=p8.get (i:=i) (x:=x) t (by simpa using e);exact⟨u,by simpa using h1,h2⟩
theorem p8.append:∀{xs ys:List V} {us ws:List RC},p8 xs us->p8 ys ws->p8 (xs++ys) (us++ws)
 | _,_,_,_,.nil,s=>s
 | _,_,_,_,.cons r t,s=>.cons r (p8.append t s)
theorem p8.take:∀{xs:List V} {us:List RC} (n:Nat),p8 xs us->p8 (xs.take n) (us.take n)
 | _,_,0,_=>.nil
 | _,_,_+1,.nil=>.nil
 | _,_,n+1,.cons r t=>.cons r (p8.take n t)
theorem p8.drop:∀{xs:List V} {us:List RC} (n:Nat),p8 xs us->p8 (xs.drop n) (us.drop n)
 | _,_,0,r=>r
 | _,_,_+1,.nil=>.nil
 | _,_,n+1,.cons _ t=>p8.drop n t
def p8.none_of :∀{xs:List V} {us:List RC} {i:Nat},p8 xs us->xs[i]? = none->us[i]? = none:=λ{xs us i} r e=>by have h1:=r.length;have h2:xs.length<=i:=Ny.1 e;exact Ny.2 (by omega)
def df:Option V->Option RC->Prop
 | some v,some u=>u4 v u
 | none,none=>True
 | _,_=>False
def KV {κ:Type}:List (κ×V)->List (κ×RC)->Prop:=Paired λ(p:κ×V) (q:κ×RC)=>p.1=q.1/\u4 p.2 q.2
def kV:Key->V
 | .inl i=>.int i
 | .inr x=>.str x
inductive HO where
  | lst (xs:List V)
  | tup (xs:List V)
  | dK (Sj:List (Key×V)) | dT (Sj:List (List Key×V))
  | set (S:Int->Bool) (n:Nat)
  | ins (C dx:RD) (fs:List (Str×V))
  | own (x:RD)
  | xd (fs:List (Str×V))
  | met (f x:RD)
  | rng (lo hi:Int)
  | frz (o:RP) (u:HO)
  | tbl (ps:Array RC)
  | ext (φ:RM->Prop)
abbrev Hp :=RD->Option HO
def upd (H:Hp)(a:RD)(o:HO):Hp:=λb=>if b=a then some o else H b
def k8 {H:Hp}{a:RD}{o:HO}:upd H a o a=some o:=by unfold upd;rw[Mb rfl]
def i3 {H:Hp}{a b:RD}{o:HO}(h:b≠a):upd H a o b=H b:=by unfold upd;rw[Md h]
def Ak {H:Hp}{a b:RD}{o u:HO}(h:H a=some o)(h':H b=some u)(d:o≠u):a≠b:=by intro e;subst e;rw[h]at h';exact d (Mg h')
def m6 {H:Hp}{a b:RD}{o:HO}(h:H a=some o)(h':H b=none):a≠b:=by intro e;subst e;rw[h]at h';cases h'
section
variable (P:RF)(w:RG)
def D5 (H:Hp)(h:RM)(a:RD):HO->Prop
 | .lst xs=>xs.length<=RN/\∃(its:List RC) (n:Nat),p8 xs its/\h.get? a=some { cls:=.type "list",data:=.seq its.toArray n }
 | .tup xs=>xs.length<=RN/\∃its:List RC,p8 xs its/\IsTup h a its.toArray
 | .dK Sj=>Sj.length<=RN/\(a == sysModules)=false/\∃vs,KV Sj vs/\h.DictOf (C8 P w) a vs
 | .dT Sj=>Sj.length<=RN/\(a == sysModules)=false/\∃xs:List (List Key×RD×RC),
   Paired (λ(p:List Key×V) (q:List Key×RD×RC)=>p.1=q.1/\H q.2.1=some (.tup (p.1.map kV))/\u4 p.2 q.2.2) Sj xs /\
   ∃o es ep,h.get? a=some o/\o.ExactDict/\o.data = .dict es ep/\es.toList=xs.map (entryOfKey (tupleKind (C8 P w)))/\(xs.map (·.1)).Nodup
 | .set S n=>h.SetOf (intKind P w) a S n
 | .ins C dx fs=>H dx=some (.own a)/\fs.length<=1000/\dx≠a/\h.get? a=some (PySem.W.instObj C dx) /\
   ∃mA,h.Ns1 dx mA/\(∀f,df (fs.lookup f) (mA f))/\PySem.Within mA (fs.map (·.1))
 | .own _=>∃o,h.get? a=some o
 | .xd fs=>∃mA,h.Ns1 a mA/\∀f,df (fs.lookup f) (mA f)
 | .rng lo hi=>∃t u v,h.get? a=some { cls:=.type "range",data:=.fields #[.int lo t,.int hi u,.int 1 v] }
 | .frz o u=>h.get? a=some o/\D5 H h a u
 | .tbl ps=>h.get? a=some { cls:=.none,data:=.fields ps }
 | .met f x=>h.get? a=some (PySem.W.methodObj (.ref f) (.ref x))
 | .ext φ=>φ h/\(∃o,h.get? a=some o)/\∀h1 h2:RM,φ h1->(∀o,h1.get? a=some o->h2.get? a=some o)->φ h2
def HOk (H:Hp)(h:RM):Prop:=∀a o,H a=some o->D5 P w H h a o
end
section
variable {P:RF}{w:RG}{H H':Hp}{h:RM}{a:RD}{o:HO}
def D5.lt (x:D5 P w H h a o):a<h.objs.size:=by
 cases o with
 | lst xs=>obtain⟨_,_,_,_,e⟩:=x;exact Mm e
 | tup xs=>obtain⟨_,_,_,p⟩:=x;exact p.lt
 | dK Sj=>obtain⟨_,_,_,_,o,_,_,e,_⟩:=x;exact Mm e
 | dT Sj=>obtain⟨_,_,_,_,o,_,_,e,_⟩:=x;exact Mm e
 | set S n=>obtain⟨o,_,_,_,e,_⟩:=x;exact Mm e
 | ins C dx fs=>obtain⟨_,_,_,e,_⟩:=x;exact Mm e
 | own y=>obtain⟨_,e⟩:=x;exact Mm e
 | xd fs=>obtain⟨_,⟨_,_,_,e,_⟩,_⟩:=x;exact Mm e
 | rng lo hi=>obtain⟨_,_,_,e⟩:=x;exact Mm e
 | frz ob u=>obtain⟨e,_⟩:=x;exact Mm e
 | tbl ps=>exact Mm (show h.get? a=some _ from x)
 | met f y=>exact Mm (show h.get? a=some _ from x)
 | ext φ=>obtain⟨_,⟨_,e⟩,_⟩:=x;exact Mm e
theorem Paired.mapP {α β:Type}{F G:α->β->Prop}:∀{l₁:List α} {l₂:List β},Paired F l₁ l₂->(∀a b,F a b->G a b)->Paired G l₁ l₂
 | _,_,.nil,_=>.nil
 | _,_,.cons r t,f=>.cons (f _ _ r) (Paired.mapP t f)
def D5.stay (x:D5 P w H h a o)(k:∀b u,(b=a\/H b=some (.own a))->h.get? b=some u->h'.get? b=some u)
  (ho:∀b,H b=some (.own a)->H' b=some (.own a)) (ht:∀b xs,H b=some (.tup xs)->H' b=some (.tup xs)):D5 P w H' h' a o:=by
 induction o with
 | lst xs=>obtain⟨z,its,n,r,e⟩:=x;exact⟨z,its,n,r,k _ _ (.inl rfl) e⟩
 | tup xs=>obtain⟨z,its,r,ob,e,c⟩:=x;exact⟨z,its,r,ob,k _ _ (.inl rfl) e,c⟩
 | dK Sj=>obtain⟨z,y,vs,r,ob,es,ep,e,c⟩:=x;exact⟨z,y,vs,r,ob,es,ep,k _ _ (.inl rfl) e,c⟩
 | dT Sj =>obtain⟨z,y,xs,r,ob,es,ep,e,c⟩:=x;exact⟨z,y,xs,Paired.mapP r λp q z=>⟨z.1,ht _ _ z.2.1,z.2.2⟩,ob,es,ep,k _ _ (.inl rfl) e,c⟩
 | set S n=>obtain⟨ob,es,ep,t,e,c⟩:=x;exact⟨ob,es,ep,t,k _ _ (.inl rfl) e,c⟩
 | ins C dx fs =>obtain⟨d,z,ne,e,mA,⟨od,es,ep,e2,c⟩,r⟩:=x;exact⟨ho _ d,z,ne,k _ _ (.inl rfl) e,mA,⟨od,es,ep,k _ _ (.inr d) e2,c⟩,r⟩
 | own y=>obtain⟨ob,e⟩:=x;exact⟨ob,k _ _ (.inl rfl) e⟩
 | xd fs=>obtain⟨mA,⟨od,es,ep,e,c⟩,r⟩:=x;exact⟨mA,⟨od,es,ep,k _ _ (.inl rfl) e,c⟩,r⟩
 | rng lo hi=>obtain⟨t,u,v,e⟩:=x;exact⟨t,u,v,k _ _ (.inl rfl) e⟩
 | frz ob u ih=>obtain⟨e,q⟩:=x;exact⟨k _ _ (.inl rfl) e,ih q⟩
 | tbl ps =>have e:h.get? a=some { cls:=.none,data:=.fields ps }:=x;show h'.get? a=some { cls:=.none,data:=.fields ps };exact k a _ (.inl rfl) e
 | met f y =>have e:h.get? a=some (PySem.W.methodObj (.ref f) (.ref y)):=x;show h'.get? a=some (PySem.W.methodObj (.ref f) (.ref y));exact k a _ (.inl rfl) e
 | ext φ=>obtain⟨p,⟨o,e⟩,st⟩:=x;exact⟨st _ _ p λo q=>k _ _ (.inl rfl) q,⟨o,k _ _ (.inl rfl) e⟩,st⟩
def HOk.lt (x:HOk P w H h)(e:H a=some o):a<h.objs.size:=(x a o e).lt
def HOk.fresh (x:HOk P w H h)(e:h.objs.size<=a):H a=none:=by
 cases q:H a with
 | none=>rfl
 | some u=>exact absurd (Mx (x.lt q) e) (Nv _)
def HOk.kept (x:HOk P w H h)(k:∀b u,h.get? b=some u->h'.get? b=some u):HOk P w H h':=λa o e =>
 (x a o e).stay (λb u _ q=>k b u q) (λ_ q=>q) λ_ _ q=>q
def HOk.laid (x:HOk P w H h)(k:∀b u,h.get? b=some u->h'.get? b=some u)(hp:h.objs.size<=a)(new:D5 P w (upd H a o) h' a o):HOk P w (upd H a o) h':=λb u e=>by
 have hn:=x.fresh hp;by_cases hb:b=a
 .subst hb;rw[k8]at e;cases e;exact new
 .rw[i3 hb]at e;exact(x b u e).stay (λc v _ q=>k c v q) (λc q=>by rw[i3 (m6 q hn)];exact q) λc xs q=>by rw[i3 (m6 q hn)];exact q
end
def Rd (H:Hp)(a:RD)(u:HO):Prop:=H a=some u\/∃o,H a=some (.frz o u)
def Rd.ok {P:RF}{w:RG}{H:Hp}{h:RM}{a:RD}{u:HO}(r:Rd H a u)(x:HOk P w H h):D5 P w H h a u:=by
 rcases r with r | ⟨o,r⟩
 .exact x a u r
 .obtain⟨_,q⟩:=x a _ r;exact q
def Mut:Option HO->Prop
 | some (.lst _)=>True
 | some (.dK _)=>True
 | some (.dT _)=>True
 | some (.set _ _)=>True
 | some (.ins _ _ _)=>True
 | some (.ext _)=>True
 | _=>False
section
variable {P:RF}{w:RG}{H:Hp}{h:RM}{x e:RD}{o':HO}
def HOk.write (ok:HOk P w H h)(mu:Mut (H x))(he:e=x\/H e=some (.own x))(k:∀b u,b≠e->h.get? b=some u->h'.get? b=some u)(heo:∃u,h'.get? e=some u)
  (new:D5 P w (upd H x o') h' x o'):HOk P w (upd H x o') h':=λb u q=>by
 have nown:∀c y,H c=some (.own y)->c≠x:=λc y r z=>by subst z;rw[r]at mu;exact mu
 have ntup:∀c xs,H c=some (.tup xs)->c≠x:=λc xs r z=>by subst z;rw[r]at mu;exact mu
 by_cases hb:b=x
 .subst hb;rw[k8]at q;cases q;exact new
 .rw[i3 hb]at q;by_cases hbe:b=e
  .have q':H b=some (.own x):=by
    rcases he with z | z
    .exact absurd (hbe.trans z) hb
    .rw[hbe];exact z
   rw[q]at q';cases q';obtain⟨v,hv⟩:=heo;exact⟨v,by rw[hbe];exact hv⟩
  .refine(ok b u q).stay (λc v hc r=>k c v ?_ r) (λc r=>by rw[i3 (nown c b r)];exact r) λc xs r=>by rw[i3 (ntup c xs r)];exact r
   rcases hc with rfl | hc
   .exact hbe
   .rintro rfl;rcases he with z | z
    .exact nown c b hc z
    .rw[hc]at z;cases z;exact hb rfl
end
structure Un (fs ex:List RD) (H H':Hp) (h h':RM):Prop where
 keep:∀b o,h.get? b=some o->H b=none->b ∉ fs->b ∉ ex->h'.get? b=some o
 slot:∀b o,h.get? b=some o->H b=none->b∈fs->b ∉ ex->∃sl,h'.get? b=some { o with slots:=sl }
 free:∀b o,h.get? b=some o->H b=none->b ∉ ex->H' b=none
 there:∀b o,h.get? b=some o->b ∉ ex->∃o',h'.get? b=some o'
 tups:∀b xs,H b=some (.tup xs)->H' b=some (.tup xs)
 frzs:∀b o u,H b=some (.frz o u)->H' b=some (.frz o u)
 tbls:∀b ps,H b=some (.tbl ps)->∃more,H' b=some (.tbl (ps++more))
section
variable {fs fs' ex ex':List RD}{H H1 H2:Hp}{h h1 h2:RM}{a x e:RD}{o:HO}
def Un.any (u:Un fs ex H H1 h h1){b:RD}{ob:RP}(q:h.get? b=some ob)(n:H b=none)(hx:b ∉ ex):∃sl,h1.get? b=some { ob with slots:=sl }:=by
 by_cases hb:b∈fs
 .exact u.slot b ob q n hb hx
 .exact⟨ob.slots,u.keep b ob q n hb hx⟩
def Un.kept (k:∀b u,h.get? b=some u->h'.get? b=some u):Un fs ex H H h h' :=
 ⟨λb ob q _ _ _=>k b ob q,λb ob q _ _ _=>⟨ob.slots,k b ob q⟩,λ_ _ _ n _=>n,λb ob q _=>⟨ob,k b ob q⟩,λ_ _ q=>q,λ_ _ _ q=>q,λ_ ps q=>⟨#[],by rw[q];simp⟩⟩
def Un.refl :Un fs ex H H h h:=Un.kept λ_ _ q=>q
def Un.laid (k:∀b u,h.get? b=some u->h'.get? b=some u)(hp:h.objs.size<=a)(hn:H a=none):Un fs ex H (upd H a o) h h' where
 keep:=λb u q _ _ _=>k b u q
 slot:=λb u q _ _ _=>⟨u.slots,k b u q⟩
 free:=λb u q n _=>by rw[i3 (MC (Mx (Mm q) hp))];exact n
 there:=λb u q _=>⟨u,k b u q⟩
 tups:=λb xs q=>by rw[i3 (m6 q hn)];exact q
 frzs:=λb u xs q=>by rw[i3 (m6 q hn)];exact q
 tbls:=λb ps q=>⟨#[],by rw[i3 (m6 q hn),q];simp⟩
def Un.write (mu:Mut (H x))(he:e=x\/H e=some (.own x))(k:∀b u,b≠e->h.get? b=some u->h'.get? b=some u)(heo:∃u,h'.get? e=some u):Un fs ex H (upd H x o) h h':=by
 have hx:∀b,H b=none->b≠x:=λb n z=>by subst z;rw[n]at mu;exact mu
 have hb:∀b,H b=none->b≠e:=λb n z=>by
  subst z;rcases he with r | r
  .exact hx b n r
  .rw[n]at r;cases r
 have hm:∀b u,H b=some u->¬Mut (some u)->b≠x:=λb u q nm z=>by subst z;rw[q]at mu;exact nm mu
 refine⟨λb u q n _ _=>k b u (hb b n) q,λb u q n _ _=>⟨u.slots,k b u (hb b n) q⟩,λb u q n _=>by rw[i3 (hx b n)];exact n,λb u q _=>?_,
  λb xs q=>by rw[i3 (hm b _ q λz=>z)];exact q,λb u xs q=>by rw[i3 (hm b _ q λz=>z)];exact q,λb ps q=>⟨#[],by rw[i3 (hm b _ q λz=>z),q];simp⟩⟩
 by_cases hbe:b=e
 .subst hbe;exact heo
 .exact⟨u,k b u hbe q⟩
end
def trk (h:RM)(H:Hp):List RD:=(List.range h.objs.size).filter λa=>(H a).isSome
def il (h:RM)(H:Hp):RM:=PySem.W.hideAll h (trk h H)
def rj (h:RM)(H:Hp):(il h H).objs.size=h.objs.size:=PySem.W.hideAll_size _ _
def ug {h:RM}{H:Hp}{b:RD}{o:RP}(e:h.get? b=some o)(n:H b=none):(il h H).get? b=some o :=
 PySem.W.hideAll_get _ e λhm=>by have q:(H b).isSome=true:=(MN.1 hm).2;rw[n]at q;simp at q
def zw {h:RM}{H:Hp}{b:RD}{o:RP}(e:(il h H).get? b=some o):h.get? b=some o/\H b=none:=by
 have e':h.get? b=some o:=PySem.W.of_hideAll (trk h H) e;refine⟨e',?_⟩;cases q:H b with
 | none=>rfl
 | some x =>have hm:b∈trk h H:=MN.2 ⟨MW.2 (Mm e'),by simp[q]⟩;have z:(il h H).get? b=none:=PySem.W.hideAll_none (trk h H) hm;rw[z]at e;cases e
end
variable {vv:List (RD×RP)}{g':Array GenState}{t':Nat}
section
structure Mod (K:Fg) (mg:Str->Option RC) (base:RM):Prop where
 kin:K.In base
 glob:base.Ns RU mg
 blt:∃mb,base.Ns builtinsNs mb/\∀x:Str,x ≠ "__name__"->mb x=RX x
 nolimit:base.NoLimit
structure Cx where
 prog:RF
 w:RG
 K:Fg
 mg:Str->Option RC
 base:RM
 A:RH
 N:List Str
 s₀:RE
 H₀:Hp
 env:RQ
 outer:List RQ
 stack:List RQ
 ex:List RD
 fn:Str->Bool
 calm:Bool
 pn:List (RD×RP)
 xe:RC->RE->Prop
def frs (l:List RQ):List RD:=l.filterMap (·.frame)
abbrev Cx.fs (X:Cx):List RD:=frs X.outer
def Vis (sc:RI)(x:Str):Prop:=sc.names.lookup x=some .local\/sc.names.lookup x=some .cell\/sc.names.lookup x=some .free
def Loc (sc:RI)(x:Str):Prop:=sc.names.lookup x=some .local\/sc.names.lookup x=some .cell
def EK (env:RQ)(h:RM)(m:Str->Option RC)(x:Str)(u:RC):Prop :=
 (env.kindOf x=some .local/\m x=some u)\/((env.kindOf x=some .cell\/env.kindOf x=some .free)/\∃c,env.cells.lookup x=some c/\h.IsCell c (some u))
structure Cx.Ok (X:Cx):Prop where
 mod:Mod X.K X.mg X.base
 kind:X.env.scope.kind = .function
 glob:X.env.globals=RU
 blt:X.env.builtins=builtinsNs
 above:X.s₀.heap.objs.size<=X.env.locals
 inj:∀x y c,X.env.cells.lookup x=some c->X.env.cells.lookup y=some c->x=y
 has:∀x,(X.env.kindOf x=some .cell\/X.env.kindOf x=some .free)->∃c,X.env.cells.lookup x=some c
 cab:∀x c,X.fn x=true->X.env.cells.lookup x=some c->X.s₀.heap.objs.size<=c
 hd:X.calm=true->X.A.handled=none
 frames:X.A.frames=some X.stack
 stk:X.stack=X.outer\/(X.stack=X.env::X.outer/\X.env.frame=some X.env.locals)
 exf:∀b∈X.ex,b≠X.env.locals/\∀x c,X.env.cells.lookup x=some c->c≠b
 bs:∀b o,X.base.get? b=some o->X.s₀.heap.get? b=some o/\X.H₀ b=none
 bsz:X.base.objs.size<=X.s₀.heap.objs.size
 noex:∀b o,X.base.get? b=some o->b ∉ X.ex
 exfs:∀b∈X.ex,b ∉ X.fs
 funs:X.s₀.heap.FunFrames X.base X.outer
 frf:∀b∈X.fs,X.H₀ b=none
structure Inv (X:Cx) (vv:List (RD×RP)) (O:List (Option V)) (H:Hp) (s:RE):Prop where
 ok:X.Ok
 os:s.os=X.s₀.os
 bare:AllBare s.gens
 base:Un X.fs X.ex X.H₀ H X.s₀.heap s.heap
 loc:∃m,s.heap.Ns X.env.locals m/\∀(i:Nat) (x:Str) (v:V),X.N[i]? = some x->O[i]? = some (some v)->Vis X.env.scope x->∃u,u4 v u/\EK X.env s.heap m x u
 cell:∀x c,X.env.cells.lookup x=some c->∃v,s.heap.IsCell c v
 free:H X.env.locals=none
 freeC:∀x c,X.env.cells.lookup x=some c->H c=none
 pin:∀p∈X.pn++vv,s.heap.get? p.1=some p.2/\H p.1=none/\p.1≠X.env.locals/\p.1 ∉ X.fs/\∀v,p.2.data ≠ .cell v
 hok:HOk X.prog X.w H s.heap
 len:O.length=X.N.length
section
variable {X:Cx}{O:List (Option V)}{H H':Hp}{s:RE}
def Cx.Ok.nofr (ok:X.Ok){b:RD}{o:RP}(e:X.base.get? b=some o):b ∉ X.fs:=λhb=>by have:=(ok.funs.mem hb).1;rw[e]at this;cases this
def Inv.bs (I:Inv X vv O H s):∀b o,X.base.get? b=some o->s.heap.get? b=some o/\H b=none:=λb o e =>
 ⟨I.base.keep b o (I.ok.bs b o e).1 (I.ok.bs b o e).2 (I.ok.nofr e) (I.ok.noex b o e),I.base.free b o (I.ok.bs b o e).1 (I.ok.bs b o e).2 (I.ok.noex b o e)⟩
def Inv.bk (I:Inv X vv O H s):∀b o,X.base.get? b=some o->s.heap.get? b=some o:=λb o e=>(I.bs b o e).1
def Inv.mod (I:Inv X vv O H s):Mod X.K X.mg X.base:=I.ok.mod
def Inv.kIn (I:Inv X vv O H s):X.K.In s.heap:=I.ok.mod.kin.keeps I.bk
def Inv.nolimit (I:Inv X vv O H s):s.heap.NoLimit:=I.ok.mod.nolimit.keeps I.bk
def Inv.lt (I:Inv X vv O H s):X.env.locals<s.heap.objs.size:=let ⟨_,hn,_⟩:=I.loc;hn.lt
def Inv.sz (I:Inv X vv O H s):X.s₀.heap.objs.size<=s.heap.objs.size:=MK I.ok.above (Ov I.lt)
def Inv.nofs (I:Inv X vv O H s){a:RD}(h:s.heap.objs.size<=a):a ∉ X.fs:=λhb=>by obtain⟨_,o,ho,_⟩:=I.ok.funs.mem hb;exact absurd (Mx (Mm ho) (MK I.sz h)) (Nv _)
def Inv.cne (I:Inv X vv O H s):∀x c,X.env.cells.lookup x=some c->c≠X.env.locals:=λx c e z=>by obtain⟨v,o,ho,hd⟩:=I.cell x c e;obtain⟨m,⟨o',es,ep,ho',hd',_⟩,_⟩:=I.loc;rw[z,ho']at ho;cases ho;rw[hd']at hd;cases hd
def Inv.funs (I:Inv X vv O H s):s.heap.FunFrames X.base X.outer:=by
 have all:∀(l:List RQ),(∀b∈frs l,b∈X.fs)->X.s₀.heap.FunFrames X.base l->s.heap.FunFrames X.base l:=by
  intro l;induction l with
  | nil=>intro _ _;trivial
  | cons env r ih =>
   intro hs hl;obtain⟨hk,⟨L,o,hf,hn,ho,hd⟩,hr⟩:=hl;have hL:L∈X.fs:=hs L (by unfold frs;rw[OZ,hf];exact Me);obtain⟨sl,e⟩:=I.base.slot L o ho (I.ok.frf L hL) hL λz=>I.ok.exfs L z hL
   exact⟨hk,⟨L,_,hf,hn,e,hd⟩,ih (λb hb=>hs b (by unfold frs;rw[OZ,hf];exact Mc _ hb)) hr⟩
 exact all X.outer (λ_ hb=>hb) I.ok.funs
def Inv.stack (I:Inv X vv O H s):s.heap.FunFrames X.base X.stack:=by
 rcases I.ok.stk with e | ⟨e,hf⟩
 .rw[e];exact I.funs
 .rw[e];obtain⟨m,hn,_⟩:=I.loc;refine .cons (by rw[I.ok.kind];decide) hf hn ?_ I.funs;exact RM.get?_none_of_le (MK I.ok.bsz I.ok.above)
def Inv.stkSub (I:Inv X vv O H s):∀b∈frs X.stack,b∈X.env.locals::X.fs:=λb hb=>by
 rcases I.ok.stk with e | ⟨e,hf⟩
 .rw[e]at hb;exact Mc _ hb
 .rw[e]at hb;unfold frs at hb;rw[OZ,hf]at hb;exact hb
def Inv.stkFree (I:Inv X vv O H s):∀b∈frs X.stack,H b=none:=λb hb=>by
 rcases Mi.1 (I.stkSub b hb) with e | hb
 .rw[e];exact I.free
 .obtain⟨_,o,ho,_⟩:=I.ok.funs.mem hb;exact I.base.free b o ho (I.ok.frf b hb) λz=>I.ok.exfs b z hb
def Inv.step {d':Drawn}{ch:List RD}(I:Inv X vv O H s)
  (hch:∀b∈ch,(b∈X.ex\/X.s₀.heap.objs.size<=b)/\b≠X.env.locals/\(∀x c,X.env.cells.lookup x=some c->c≠b)/\∀p∈X.pn++vv,p.1≠b)
  (keep:∀b o,b≠X.env.locals->b ∉ X.fs->b ∉ ch->s.heap.get? b=some o->H b=none->h'.get? b=some o)
  (slot:∀b o,b≠X.env.locals->b∈X.fs->b ∉ ch->s.heap.get? b=some o->H b=none->∃sl,h'.get? b=some { o with slots:=sl }) (free:∀b o,b ∉ ch->s.heap.get? b=some o->H b=none->H' b=none)
  (there:∀b o,b ∉ ch->s.heap.get? b=some o->∃o',h'.get? b=some o')
  (tups:∀b xs,H b=some (.tup xs)->H' b=some (.tup xs)) (frzs:∀b o u,H b=some (.frz o u)->H' b=some (.frz o u)) (tbls:∀b ps,H b=some (.tbl ps)->∃more,H' b=some (.tbl (ps++more)))
  (ns:∀m,s.heap.Ns X.env.locals m->h'.Ns X.env.locals m) (hok:HOk X.prog X.w H' h') (hg:AllBare g') :
  Inv X vv O H' { s with heap:=h',gens:=g',drawn:=d',toks:=t' }:=by
 have neL:∀b o,X.s₀.heap.get? b=some o->b≠X.env.locals:=λb o e=>MC (Mx (Mm e) I.ok.above)
 have neC:∀b o,X.s₀.heap.get? b=some o->b ∉ X.ex->b ∉ ch:=λb o e hx hb=>by
  rcases(hch b hb).1 with z | z
  .exact hx z
  .exact absurd (Mx (Mm e) z) (Nv _)
 have cellK:∀x c,X.env.cells.lookup x=some c->∀v,s.heap.IsCell c v->h'.IsCell c v:=λx c e v ⟨o,ho,hd⟩=>by
  have nch:c ∉ ch:=λz=>(hch c z).2.2.1 x c e rfl
  by_cases hc:c∈X.fs
  .obtain⟨sl,q⟩:=slot c o (I.cne x c e) hc nch ho (I.freeC x c e);exact⟨_,q,hd⟩
  .exact⟨o,keep c o (I.cne x c e) hc nch ho (I.freeC x c e),hd⟩
 refine⟨I.ok,I.os,hg,⟨λb o e n hb hx=>?_,λb o e n hb hx=>?_,λb o e n hx=>?_,λb o e hx=>?_,λb xs e=>tups b xs (I.base.tups b xs e),λb o xs e=>frzs b o xs (I.base.frzs b o xs e),λb ps e=>?_⟩,?_,λx c e=>?_,?_,λx c e=>?_,λp hp=>?_,hok,I.len⟩
 .exact keep b o (neL b o e) hb (neC b o e hx) (I.base.keep b o e n hb hx) (I.base.free b o e n hx)
 .obtain⟨sl,e1⟩:=I.base.slot b o e n hb hx;obtain⟨sl',e2⟩:=slot b _ (neL b o e) hb (neC b o e hx) e1 (I.base.free b o e n hx);exact⟨sl',e2⟩
 .obtain⟨o',e1⟩:=I.base.there b o e hx;exact free b o' (neC b o e hx) e1 (I.base.free b o e n hx)
 .obtain⟨o',e1⟩:=I.base.there b o e hx;exact there b o' (neC b o e hx) e1
 .obtain⟨m1,e1⟩:=I.base.tbls b ps e;obtain⟨m2,e2⟩:=tbls b _ e1;exact⟨m1++m2,by rw[e2,Array.append_assoc]⟩
 .obtain⟨m,hn,hl⟩:=I.loc;refine⟨m,ns m hn,λi x v e1 e2 e3=>?_⟩;obtain⟨u,r,l⟩:=hl i x v e1 e2 e3;refine⟨u,r,?_⟩;rcases l with l | ⟨k,c,e,z⟩
  .exact .inl l
  .exact .inr ⟨k,c,e,cellK x c e _ z⟩
 .obtain⟨v,z⟩:=I.cell x c e;exact⟨v,cellK x c e v z⟩
 .obtain⟨m,⟨o,_,_,ho,_⟩,_⟩:=I.loc;exact free _ o (λz=>(hch _ z).2.1 rfl) ho I.free
 .obtain⟨v,o,ho,hd⟩:=I.cell x c e;exact free c o (λz=>(hch c z).2.2.1 x c e rfl) ho (I.freeC x c e)
 .obtain⟨e,n,ne,nf,d⟩:=I.pin p hp;have nch:p.1 ∉ ch:=λz=>(hch p.1 z).2.2.2 p hp rfl
  exact⟨keep p.1 p.2 ne nf nch e n,free p.1 p.2 nch e n,ne,nf,d⟩
def Inv.un (I:Inv X vv O H s)(u:Un X.fs [] H H' s.heap h')(hok:HOk X.prog X.w H' h'):Inv X vv O H' { s with heap:=h',toks:=t' }:=by
 obtain⟨m,⟨o,es,ep,ho,r⟩,_⟩:=id I.loc;obtain⟨sl,hL⟩:=u.any ho I.free (by simp);exact I.step (g':=s.gens) (d':=s.drawn) (ch:=[]) (λ_ z=>nomatch z) (λb o _ hb _ e n=>u.keep b o e n hb (by simp)) (λb o _ hb _ e n=>u.slot b o e n hb (by simp)) (λb o _ e n=>u.free b o e n (by simp)) (λb o _ e=>u.there b o e (by simp)) u.tups u.frzs u.tbls (λm' hm=>by obtain⟨o',es',ep',ho',r'⟩:=hm;rw[ho]at ho';cases ho';exact⟨_,es',ep',hL,r'⟩) hok I.bare
def Inv.call {d':Drawn}{ch:List RD}(I:Inv X vv O H s)(u:Un (frs X.stack) ch H H' s.heap h')(hok:HOk X.prog X.w H' h')(hg:AllBare g')
  (hch:∀b∈ch,(b∈X.ex\/X.s₀.heap.objs.size<=b)/\b≠X.env.locals/\(∀x c,X.env.cells.lookup x=some c->c≠b)/\∀p∈X.pn++vv,p.1≠b) :
  Inv X vv O H' { s with heap:=h',gens:=g',drawn:=d',toks:=t' }:=by
 obtain⟨m,⟨o,es,ep,ho,r⟩,_⟩:=id I.loc;obtain⟨sl,hL⟩:=u.any ho I.free λz=>(hch _ z).2.1 rfl
 exact I.step (ch:=ch) hch (λb o hL hb hc e n=>u.keep b o e n (λz=>(Mi.1 (I.stkSub b z)).elim hL hb) hc) (λb o _ _ hc e n=>u.any e n hc) (λb o hc e n=>u.free b o e n hc) (λb o hc e=>u.there b o e hc) u.tups u.frzs u.tbls (λm' hm=>by obtain⟨o',es',ep',ho',r'⟩:=hm;rw[ho]at ho';cases ho';exact⟨_,es',ep',hL,r'⟩) hok hg
def Inv.turned {it:RD}(I:Inv X vv O H s)(k:∀b o,b≠it->s.heap.get? b=some o->h'.get? b=some o)(hn:H it=none)(hL:it≠X.env.locals)
  (h1:it∈X.ex\/X.s₀.heap.objs.size<=it) (h2:∀x c,X.env.cells.lookup x=some c->c≠it) (h3:∀p∈X.pn++vv,p.1≠it):Inv X vv O H { s with heap:=h',toks:=t' }:=by
 have nit:∀b u,H b=some u->b≠it:=λb u e z=>by rw[z,hn]at e;cases e
 refine I.step (g':=s.gens) (d':=s.drawn) (ch:=[it]) (λb hb=>?_) (λb o _ _ hc e _=>k b o (λz=>hc (by simp[z])) e) (λb o _ _ hc e _=>⟨o.slots,k b o (λz=>hc (by simp[z])) e⟩) (λ_ _ _ _ n=>n)
  (λb o hc e=>⟨o,k b o (λz=>hc (by simp[z])) e⟩) (λ_ _ e=>e) (λ_ _ _ e=>e) (λb ps e=>⟨#[],by rw[e];simp⟩) (λm hm=>?_) (λb u e=>?_) I.bare
 .have e:b=it:=by simpa using hb
  subst e;exact⟨h1,hL,h2,h3⟩
 .obtain⟨o,es,ep,ho,r⟩:=hm;exact⟨o,es,ep,k _ o (OU hL) ho,r⟩
 .refine(I.hok b u e).stay (λc v hc q=>k c v ?_ q) (λ_ q=>q) λ_ _ q=>q
  rcases hc with z | z
  .rw[z];exact nit b u e
  .exact nit c _ z
def Inv.tok (I:Inv X vv O H s)(t:Nat):Inv X vv O H { s with toks:=t }:=I.un (h':=s.heap) (t':=t) Un.refl I.hok
def Inv.kept (I:Inv X vv O H s)(k:∀b u,s.heap.get? b=some u->h'.get? b=some u):Inv X vv O H { s with heap:=h',toks:=t' }:=I.un (Un.kept k) (I.hok.kept k)
def Inv.laid {a:RD}{o:HO}(I:Inv X vv O H s)(k:∀b u,s.heap.get? b=some u->h'.get? b=some u)(hp:s.heap.objs.size<=a)(new:D5 X.prog X.w (upd H a o) h' a o) :
  Inv X vv O (upd H a o) { s with heap:=h',toks:=t' }:=I.un (Un.laid k hp (I.hok.fresh hp)) (I.hok.laid k hp new)
def Inv.write {x e:RD}{o:HO}(I:Inv X vv O H s)(mu:Mut (H x))(he:e=x\/H e=some (.own x))(k:∀b u,b≠e->s.heap.get? b=some u->h'.get? b=some u)(heo:∃u,h'.get? e=some u)
  (new:D5 X.prog X.w (upd H x o) h' x o):Inv X vv O (upd H x o) { s with heap:=h',toks:=t' }:=I.un (Un.write mu he k heo) (I.hok.write mu he k heo new)
def Inv.pins_of {pins':List (RD×RP)}(I:Inv X vv O H s)(h:∀p∈pins',s.heap.get? p.1=some p.2/\H p.1=none/\p.1≠X.env.locals/\p.1 ∉ X.fs/\∀v,p.2.data ≠ .cell v):Inv X pins' O H s :=
 ⟨I.ok,I.os,I.bare,I.base,I.loc,I.cell,I.free,I.freeC,λp hp=>(NO.1 hp).elim (λz=>I.pin p (QH _ z)) (h p),I.hok,I.len⟩
def nv {N:List Str}(hN:N.Nodup){i j:Nat}{x:Str}(a:N[i]? = some x)(b:N[j]? = some x):i=j:=by obtain⟨h1,e1⟩:=Mj.1 a;obtain⟨h2,e2⟩:=Mj.1 b;exact(Pp hN).1 (e1.trans e2.symm)
def rq {M:Model}{A:RH}{E:RC->RE->Prop}{i:Nat}{x:Str}{v:V}{u:RC}{Q:Unit->RE->Prop}(I:Inv X vv O H s)(hN:X.N.Nodup)(hi:X.N[i]? = some x)(hx:Loc X.env.scope x)(r:u4 v u)
  (h:∀s',Inv X vv (O.set i (some v)) H s'->(∃a,RM.SameBut a s.heap s'.heap/\(a=X.env.locals\/X.env.cells.lookup x=some a))->Q () s') (hf:X.fn x=true\/X.env.scope.names.lookup x=some .local:=by walk_at "v"):RT M A (storeName X.env x u) Q E s:=by
 obtain⟨m,hn,hl⟩:=id I.loc;have hcls:(X.env.scope.kind == .class||(X.env.scope.kind == .module&&X.env.locals != X.env.globals))=false:=by rw[I.ok.kind];rfl
 have hiσ:i < O.length:=by rw[I.len];exact(Mj.1 hi).1
 have cne:=I.cne;have tracked:∀{a:RD} {h':RM},(∃o,s.heap.get? a=some o/\H a=none)->RM.SameBut a s.heap h'->HOk X.prog X.w H h':=λ{a h'} ha hs b ob e=>by
  obtain⟨_,_,hfree⟩:=ha;refine(I.hok b ob e).stay (λc w' hc q=>(hs.2 c ?_).trans q) (λ_ q=>q) λ_ _ q=>q
  rintro rfl;rcases hc with rfl | hc
  .rw[hfree]at e;cases e
  .rw[hfree]at hc;cases hc
 rcases hx with hk | hk
 .refine wpAny_storeName_local hk hn (λh' hn' hs=>?_) hcls;obtain⟨oL,_,_,hoL,_⟩:=id hn;refine h _ ⟨I.ok,I.os,I.bare,⟨λb o e n hb hx=>?_,λb o e n hb hx=>?_,I.base.free,λb o e hx=>?_,I.base.tups,I.base.frzs,I.base.tbls⟩,⟨_,hn',λj y v' e1 e2 e3=>?_⟩,λy c e=>?_,I.free,I.freeC,λp hp=>?_,tracked ⟨oL,hoL,I.free⟩ hs,by simpa using I.len⟩ ⟨_,hs,.inl rfl⟩
  .exact(hs.2 b (MC (Mx (Mm e) I.ok.above))).trans (I.base.keep b o e n hb hx)
  .obtain⟨sl,e1⟩:=I.base.slot b o e n hb hx;exact⟨sl,(hs.2 b (MC (Mx (Mm e) I.ok.above))).trans e1⟩
  .obtain⟨o',e1⟩:=I.base.there b o e hx;exact⟨o',(hs.2 b (MC (Mx (Mm e) I.ok.above))).trans e1⟩
  .by_cases hj:j=i
   .subst hj;rw[hi]at e1;cases e1;rw[Mo hiσ]at e2;cases e2;exact⟨u,r,.inl ⟨hk,by simp⟩⟩
   .rw[Mn (OU hj)]at e2;obtain⟨u',r',q⟩:=hl j y v' e1 e2 e3;refine⟨u',r',?_⟩;rcases q with ⟨k,e⟩ | ⟨k,c,e,z⟩
    .refine .inl ⟨k,?_⟩;have:y≠x:=λe=>hj (nv hN e1 (e▸hi))
     simp[this,e]
    .exact .inr ⟨k,c,e,z.sameBut hs (cne y c e)⟩
  .obtain⟨w',z⟩:=I.cell y c e;exact⟨w',z.sameBut hs (cne y c e)⟩
  .obtain⟨e,n,ne,nf,d⟩:=I.pin p hp;exact⟨(hs.2 p.1 ne).trans e,n,ne,nf,d⟩
 .have hfn:X.fn x=true:=by
   rcases hf with z | z
   .exact z
   .rw[z]at hk;cases hk
  obtain⟨c,hc⟩:=I.ok.has x (.inl hk);obtain⟨w',z⟩:=I.cell x c hc;refine wpAny_storeName_cell I.ok.kind hk hc z (λh' hc' hs=>?_);obtain⟨oc,hoc,hocd⟩:=id z;refine h { s with heap:=h' } ⟨I.ok,I.os,I.bare,⟨λb o e n hb hx=>?_,λb o e n hb hx=>?_,I.base.free,λb o e hx=>?_,I.base.tups,I.base.frzs,I.base.tbls⟩,⟨m,hn.sameBut hs (OU (cne x c hc)),λj y v' e1 e2 e3=>?_⟩,λy c' e=>?_,I.free,I.freeC,λp hp=>?_,tracked ⟨oc,hoc,I.freeC x c hc⟩ hs,by simpa using I.len⟩ ⟨c,hs,.inr hc⟩
  .exact(hs.2 b (MC (Mx (Mm e) (I.ok.cab x c hfn hc)))).trans (I.base.keep b o e n hb hx)
  .obtain⟨sl,e1⟩:=I.base.slot b o e n hb hx;exact⟨sl,(hs.2 b (MC (Mx (Mm e) (I.ok.cab x c hfn hc)))).trans e1⟩
  .obtain⟨o',e1⟩:=I.base.there b o e hx;exact⟨o',(hs.2 b (MC (Mx (Mm e) (I.ok.cab x c hfn hc)))).trans e1⟩
  .by_cases hj:j=i
   .subst hj;rw[hi]at e1;cases e1;rw[Mo hiσ]at e2;cases e2;exact⟨u,r,.inr ⟨.inl hk,c,hc,hc'⟩⟩
   .rw[Mn (OU hj)]at e2;obtain⟨u',r',q⟩:=hl j y v' e1 e2 e3;refine⟨u',r',?_⟩;rcases q with q | ⟨k,c',e,z'⟩
    .exact .inl q
    .refine .inr ⟨k,c',e,z'.sameBut hs ?_⟩;rintro rfl;exact hj (nv hN e1 (I.ok.inj _ _ _ e hc▸hi))
  .by_cases hcc:c'=c
   .subst hcc;exact⟨_,hc'⟩
   .obtain⟨w2,z2⟩:=I.cell y c' e;exact⟨w2,z2.sameBut hs hcc⟩
  .obtain⟨e,n,ne,nf,d⟩:=I.pin p hp;refine⟨(hs.2 p.1 ?_).trans e,n,ne,nf,d⟩;intro q;rw[q,hoc]at e;have q':oc=p.2:=Mg e;exact d w' (by rw[<-q'];exact hocd)
def az {M:Model}{A:RH}{E:RC->RE->Prop}{i:Nat}{x:Str}{v:V}{u:RC}{Q:Unit->RE->Prop}(I:Inv X vv O H s)(hN:X.N.Nodup)(hi:X.N[i]? = some x)(hx:Loc X.env.scope x)(r:u4 v u)
  (h:∀s',Inv X vv (O.set i (some v)) H s'->Q () s') (hf:X.fn x=true\/X.env.scope.names.lookup x=some .local:=by walk_at "v"):RT M A (storeName X.env x u) Q E s :=
 rq I hN hi hx r (λs' I' _=>h s' I') hf
def Inv.call' {s':RE}{ch:List RD}(I:Inv X vv O H s)(ho:s'.os=s.os)(u:Un (frs X.stack) ch H H' s.heap s'.heap)(hok:HOk X.prog X.w H' s'.heap)(hg:AllBare s'.gens)
  (hch:∀b∈ch,(b∈X.ex\/X.s₀.heap.objs.size<=b)/\b≠X.env.locals/\(∀x c,X.env.cells.lookup x=some c->c≠b)/\∀p∈X.pn++vv,p.1≠b):Inv X vv O H' s':=by obtain⟨h',g',d',t',o'⟩:=s';have e:o'=s.os:=ho;subst e;exact I.call (g':=g') (t':=t') (d':=d') u hok hg hch
end
abbrev XK :=RC->Option RD->Hp->Prop
abbrev St :=List (Option V)
abbrev VK :=V->Hp->Prop
abbrev TE :=St->Hp->VK->Prop
abbrev TT :=St->Hp->(Bool->Hp->Prop)->Prop
abbrev TA :=St->Hp->(List V->Hp->Prop)->Prop
structure Ends where
 nx:St->Hp->Prop
 rt:VK
 bk:St->Hp->Prop:=λ_ _=>False
 ct:St->Hp->Prop:=λ_ _=>False
abbrev TS :=Ends->St->Hp->Prop
def EP (X:Cx)(vv:List (RD×RP))(O:St)(Q:VK)(u:RC)(s':RE):Prop:=∃v H',Inv X vv O H' s'/\u4 v u/\Q v H'
def TP (X:Cx)(vv:List (RD×RP))(O:St)(Q:Bool->Hp->Prop)(b:Bool)(s':RE):Prop:=∃H',Inv X vv O H' s'/\Q b H'
def AP (X:Cx)(vv:List (RD×RP))(O:St)(Q:List V->Hp->Prop)(us:List RC)(s':RE):Prop:=∃vs H',Inv X vv O H' s'/\p8 vs us/\Q vs H'
def SP (X:Cx)(vv:List (RD×RP))(D:Ends)(f:Flow)(s':RE):Prop :=
 match f with
 | .next=>∃O' H',Inv X vv O' H' s'/\D.nx O' H'
 | .brk=>∃O' H',Inv X vv O' H' s'/\D.bk O' H'
 | .cont=>∃O' H',Inv X vv O' H' s'/\D.ct O' H'
 | .ret u=>∃v O' H',Inv X vv O' H' s'/\u4 v u/\D.rt v H'
def PE (X:Cx)(e:RL)(t:TE):Prop :=
 ∀(vv:List (RD×RP)) (s:RE) (O:St) (H:Hp) (Q:VK),Inv X vv O H s->t O H Q->RT (model X.prog X.w) X.A (eval e X.env) (EP X vv O Q) X.xe s
def PT (X:Cx)(e:RL)(t:TT):Prop :=
 ∀(vv:List (RD×RP)) (s:RE) (O:St) (H:Hp) (Q:Bool->Hp->Prop),Inv X vv O H s->t O H Q->RT (model X.prog X.w) X.A (isTrue e X.env (eval e X.env)) (TP X vv O Q) X.xe s
def PW (X:Cx)(e:RL)(t:TT):Prop :=
 ∀(whole:Sem RC) (vv:List (RD×RP)) (s:RE) (O:St) (H:Hp) (Q:Bool->Hp->Prop),Inv X vv O H s->t O H Q->RT (model X.prog X.w) X.A (isTrue e X.env whole) (TP X vv O Q) X.xe s
def PW.pt {X:Cx}{e:RL}{t:TT}(h:PW X e t):PT X e t:=h _
def PA (X:Cx)(es:List RL)(t:TA):Prop :=
 ∀(pos:Pos) (vv:List (RD×RP)) (s:RE) (O:St) (H:Hp) (Q:List V->Hp->Prop),Inv X vv O H s->t O H Q->RT (model X.prog X.w) X.A (spliced (RR pos (RO es X.env))) (AP X vv O Q) X.xe s
def PS (X:Cx)(st:RK)(t:TS):Prop :=
 ∀(vv:List (RD×RP)) (s:RE) (O:St) (H:Hp) (D:Ends),Inv X vv O H s->t D O H->RT (model X.prog X.w) X.A (exec st X.env) (SP X vv D) X.xe s
def PSs (X:Cx)(st:List RK)(t:TS):Prop :=
 ∀(vv:List (RD×RP)) (s:RE) (O:St) (H:Hp) (D:Ends),Inv X vv O H s->t D O H->RT (model X.prog X.w) X.A (execs st X.env) (SP X vv D) X.xe s
def thn {α:Type}{t:Sem α}{Q Q':α->RE->Prop}{M:Model}{A:RH}{E:RC->RE->Prop}{s:RE}(h:RT M A t Q E s)(hQ:∀a s,Q a s->Q' a s):RT M A t Q' E s:=MR h hQ λ_ _ x=>x
end
variable {pos:Pos}{ta:TE}
section
section
variable {X:Cx}
def cF (i:Nat):TE:=λO H Q=>∃v,O[i]? = some (some v)/\Q v H
def tC (v:V):TE:=λ_ H Q=>Q v H
def W0 {i:Nat}{x:Str}(hN:X.N[i]? = some x)(hv:Vis X.env.scope x)(hd:(x == ("__debug__":Str))=false:=by decide)(hcd:(x == ("__classdict__":Str))=false:=by decide):PE X (.Name x pos) (cF i):=by
 intro vv s O H Q I h;obtain⟨v,e,h⟩:=h;obtain⟨m,hn,hl⟩:=I.loc;obtain⟨u,r,l⟩:=hl i x v hN e hv;have fin:EP X vv O Q u s:=⟨v,H,I,r,h⟩;rcases l with ⟨hk,hm⟩ | ⟨hk,c,hc,hcell⟩
 .exact QI (wpAny_loadName_local I.ok.kind hk hn hm fin) hd
 .rcases hk with hk | hk
  .exact QI (wpAny_loadName_cell I.ok.kind hk hc hcell fin) hd
  .exact QI (wpAny_loadName_free I.ok.kind hk hc hcell fin hcd) hd
def A7 {i j pos}:PE X (.Constant (.int i) j pos) (tC (.int i)):=λ_ _ _ H _ I h=>wpAny_Constant_int ⟨.int i,H,I.tok _,⟨_,rfl⟩,h⟩
def Dl {b j pos}:PE X (.Constant (.bool b) j pos) (tC (.bl b)):=λ_ _ _ H _ I h=>Constant_bool ⟨.bl b,H,I,rfl,h⟩
def Bo {j pos}:PE X (.Constant .none j pos) (tC .non):=λ_ _ _ H _ I h=>Constant_none ⟨.non,H,I,rfl,h⟩
def J5 {x j pos}:PE X (.Constant (.str x) j pos) (tC (.str x)):=λ_ _ _ H _ I h=>Calls.Constant_str ⟨.str x,H,I.tok _,⟨_,rfl⟩,h⟩
def Gl (X:Cx)(x:Str):Prop:=X.env.kindOf x=some .globalImplicit
def kz {E:RC->RE->Prop}{s:RE}{O:St}{H:Hp}{x:Str}{u:RC}{Q:RC->RE->Prop}(I:Inv X vv O H s)(hg:Gl X x)(hm:X.mg x=some u)(h:Q u s)
  (hd:(x == ("__debug__":Str))=false:=by decide):RT (model X.prog X.w) X.A (eval (.Name x pos) X.env) Q E s :=
 Calls.Name_function_global I.ok.kind hg (Calls.loadGlobal_global (by rw[I.ok.glob];exact I.mod.glob.keeps I.bk) hm h) hd
def cy {E:RC->RE->Prop}{s:RE}{O:St}{H:Hp}{x:Str}{u:RC}{Q:RC->RE->Prop}(I:Inv X vv O H s)(hg:Gl X x)(hm:X.mg x=none)(hv:RX x=some u)(h:Q u s)
  (hn:x ≠ "__name__":=by decide) (hd:(x == ("__debug__":Str))=false:=by decide):RT (model X.prog X.w) X.A (eval (.Name x pos) X.env) Q E s:=by obtain⟨mb,h1,h2⟩:=I.mod.blt;exact Calls.Name_function_global I.ok.kind hg (Calls.loadGlobal_builtin (by rw[I.ok.glob];exact I.mod.glob.keeps I.bk) hm (by rw[I.ok.blt];exact h1.keeps I.bk) ((h2 x hn).trans hv) h) hd
def xO {x:Str}{v:V}{u:RC}(hg:Gl X x)(hm:X.mg x=some u)(r:u4 v u)(hd:(x == ("__debug__":Str))=false:=by decide):PE X (.Name x pos) (tC v) :=
 λ_ _ _ H _ I h=>kz I hg hm ⟨v,H,I,r,h⟩ hd
variable {a b:RL}{tb:TE}
variable {tA tB':TT}{rest:List RL}
def Ee (t u:TT):TT:=λO H Q=>t O H λc H1=>if c=true then u O H1 Q else Q false H1
def tOr (t u:TT):TT:=λO H Q=>t O H λc H1=>if c=true then Q true H1 else u O H1 Q
def pS (ha:PT X a tA):PW X (.BoolOp .And [a] pos) tA:=by
 intro wh vv s O H Q I h;refine isTrue_and (thn (ha vv s O H Q I h) λc s1 e=>?_);cases c with
 | true=>exact isTrue_and_nil e
 | false=>exact e
def Cm (ha:PT X a tA):PW X (.BoolOp .Or [a] pos) tA:=by
 intro wh vv s O H Q I h;refine isTrue_or (thn (ha vv s O H Q I h) λc s1 e=>?_);cases c with
 | false=>exact isTrue_or_nil e
 | true=>exact e
def wK (ha:PT X a tA)(hb:PW X (.BoolOp .And (b::rest) pos) tB'):PW X (.BoolOp .And (a::b::rest) pos) (Ee tA tB'):=by
 intro wh vv s O H Q I h;refine isTrue_and (thn (ha vv s O H _ I h) λc s1 ⟨H1,I1,q1⟩=>?_);cases c with
 | true=>exact hb wh vv s1 O H1 Q I1 q1
 | false=>exact⟨H1,I1,q1⟩
def Di (ha:PT X a tA)(hb:PW X (.BoolOp .Or (b::rest) pos) tB'):PW X (.BoolOp .Or (a::b::rest) pos) (tOr tA tB'):=by
 intro wh vv s O H Q I h;refine isTrue_or (thn (ha vv s O H _ I h) λc s1 ⟨H1,I1,q1⟩=>?_);cases c with
 | true=>exact⟨H1,I1,q1⟩
 | false=>exact hb wh vv s1 O H1 Q I1 q1
def zG (ta tb:TE):TE:=λO H Q=>ta O H λx H1=>∃c,x = .bl c/\if c=true then tb O H1 Q else Q (.bl false) H1
def DQ (ta tb:TE):TE:=λO H Q=>ta O H λx H1=>∃c,x = .bl c/\if c=true then Q (.bl true) H1 else tb O H1 Q
def Ae (ta:TE):TE:=λO H Q=>ta O H λx H1=>∃c,x = .bl c/\Q (.bl (!c)) H1
def BK {op}{t:TE}(h:PE X a t):PE X (.BoolOp op [a] pos) t:=λvv s O H Q I hw=>BoolOp_one (h vv s O H Q I hw)
def AQ (ha:PE X a ta)(hb:PE X (.BoolOp .And (b::rest) pos) tb):PE X (.BoolOp .And (a::b::rest) pos) (zG ta tb):=by
 intro vv s O H Q I h;refine BoolOp_and (thn (ha vv s O H _ I h) λv s1 ⟨x,H1,I1,r1,q1⟩=>?_);obtain⟨c,rfl,q1⟩:=q1;cases r1;refine Oc ?_;cases c with
 | true=>exact hb vv s1 O H1 Q I1 q1
 | false=>exact⟨.bl false,H1,I1,rfl,q1⟩
def CD (ha:PE X a ta)(hb:PE X (.BoolOp .Or (b::rest) pos) tb):PE X (.BoolOp .Or (a::b::rest) pos) (DQ ta tb):=by
 intro vv s O H Q I h;refine BoolOp_or (thn (ha vv s O H _ I h) λv s1 ⟨x,H1,I1,r1,q1⟩=>?_);obtain⟨c,rfl,q1⟩:=q1;cases r1;refine Oc ?_;cases c with
 | false=>exact hb vv s1 O H1 Q I1 q1
 | true=>exact⟨.bl true,H1,I1,rfl,q1⟩
def AD (ha:PE X a ta):PE X (.UnaryOp .Not a pos) (Ae ta):=by intro vv s O H Q I h;refine UnaryOp_ (thn (ha vv s O H _ I h) λv s1 ⟨x,H1,I1,r1,q1⟩=>?_);obtain⟨c,rfl,q1⟩:=q1;cases r1;exact not_of (Oc ⟨.bl (!c),H1,I1,rfl,q1⟩)
def tIf (t:TT)(ta tb:TE):TE:=λO H Q=>t O H λc H1=>if c=true then ta O H1 Q else tb O H1 Q
def mF {c:RL}(hc:PT X c tA)(ha:PE X a ta)(hb:PE X b tb):PE X (.IfExp c a b pos) (tIf tA ta tb):=by
 intro vv s O H Q I h;refine wpAny_IfExp (thn (hc vv s O H _ I h) λd s1 ⟨H1,I1,q1⟩=>?_);cases d with
 | true=>exact ha vv s1 O H1 Q I1 q1
 | false=>exact hb vv s1 O H1 Q I1 q1
end
end
variable {te:TE}{es:List RL}{tg:RL}{body:List RK}
section
def SqL (K:Fg)(H:Hp)(a:RD)(xs:List V):Prop :=
 Rd H a (.lst xs) \/
  ∃(o:RP) (its:Array RC) (n:Nat),K.lookup a=some o/\o.cls = .type "list" /\ o.dict=none/\o.data = .seq its n/\its.size<=RN/\p8 xs its.toList
def SqT (K:Fg)(H:Hp)(a:RD)(xs:List V):Prop :=
 Rd H a (.tup xs) \/
  ∃(o:RP) (its:Array RC) (n:Nat),K.lookup a=some o/\o.cls = .type "tuple" /\ o.data = .seq its n/\its.size<=RN/\p8 xs its.toList
def EH:RC->Option V
 | .none=>some .non
 | .bool b=>some (.bl b)
 | .int i _=>some (.int i)
 | .str x _=>some (.str x)
 | .bytes b _=>some (.byt b)
 | .float b _=>some (.flt b)
 | .ref a=>some (.ref a)
 | .type n=>some (.ty n)
 | _=>none
def u4.abs {x:V}{u:RC}(r:u4 x u):EH u=some x:=by
 cases x with
 | non=>cases r;rfl
 | bl _=>cases r;rfl
 | int _=>obtain⟨t,rfl⟩:=r;rfl
 | str _=>obtain⟨t,rfl⟩:=r;rfl
 | byt _=>obtain⟨t,rfl⟩:=r;rfl
 | flt _=>obtain⟨t,rfl⟩:=r;rfl
 | ref _=>cases r;rfl
 | ty _=>cases r;rfl
def u4.inj {x y:V}{u:RC}(r:u4 x u)(q:u4 y u):x=y:=Mg (r.abs.symm.trans q.abs)
theorem p8.inj:∀{xs ys:List V} {us:List RC},p8 xs us->p8 ys us->xs=ys
 | _,_,_,.nil,.nil=>rfl
 | _,_,_,.cons r t,.cons r' t'=>by rw[r.inj r',p8.inj t t']
section
variable {X:Cx}{O:St}{H:Hp}{s:RE}{a:RD}{xs ys:List V}
def SqL.of {K:Fg}(h:H a=some (.lst xs)):SqL K H a xs:=.inl (.inl h)
def SqT.of {K:Fg}(h:H a=some (.tup xs)):SqT K H a xs:=.inl (.inl h)
def Inv.list (I:Inv X vv O H s)(h:SqL X.K H a xs):∃its:List RC,p8 xs its/\PlainL s.heap a its.toArray/\xs.length<=RN:=by
 rcases h with h | ⟨o,its,n,hk,hc,hd,hs,hz,r⟩
 .obtain⟨z,its,n,r,e⟩:=h.ok I.hok;exact⟨its,r,⟨_,n,e,rfl,rfl,rfl⟩,z⟩
 .refine⟨its.toList,r,⟨o,n,I.kIn a o hk,hc,hd,by simpa using hs⟩,?_⟩;have e:=r.length;simp only[MZ]at e;omega
def Inv.tuple (I:Inv X vv O H s)(h:SqT X.K H a xs):∃its:List RC,p8 xs its/\IsTup s.heap a its.toArray/\xs.length<=RN:=by
 rcases h with h | ⟨o,its,n,hk,hc,hs,hz,r⟩
 .obtain⟨z,its,r,p⟩:=h.ok I.hok;exact⟨its,r,p,z⟩
 .refine⟨its.toList,r,⟨o,I.kIn a o hk,hc,n,by simpa using hs⟩,?_⟩;have e:=r.length;simp only[MZ]at e;omega
def Inv.list_inj (I:Inv X vv O H s)(h:SqL X.K H a xs)(h':SqL X.K H a ys):xs=ys:=by
 obtain⟨its,r,⟨o,n,e,_,_,d⟩,_⟩:=I.list h;obtain⟨its',r',⟨o',n',e',_,_,d'⟩,_⟩:=I.list h';rw[e]at e';cases e';rw[d]at d';injection d' with d1 _
 have:its=its':=by simpa using Nn Array.toList d1
 subst this;exact r.inj r'
def Inv.tuple_inj (I:Inv X vv O H s)(h:SqT X.K H a xs)(h':SqT X.K H a ys):xs=ys:=by
 obtain⟨its,r,⟨o,e,_,n,d⟩,_⟩:=I.tuple h;obtain⟨its',r',⟨o',e',_,n',d'⟩,_⟩:=I.tuple h';rw[e]at e';cases e';rw[d]at d';injection d' with d1 _
 have:its=its':=by simpa using Nn Array.toList d1
 subst this;exact r.inj r'
end
abbrev Cx.wish (X:Cx)(E:RC->RE->Prop):Cx:={ X with xe:=E }
abbrev Cx.nox (X:Cx):Cx:=X.wish λ_ _=>False
def Cx.Ok.wish {X:Cx}(ok:X.Ok)(E:RC->RE->Prop):(X.wish E).Ok :=
 ⟨ok.mod,ok.kind,ok.glob,ok.blt,ok.above,ok.inj,ok.has,ok.cab,ok.hd,ok.frames,ok.stk,ok.exf,ok.bs,ok.bsz,ok.noex,ok.exfs,ok.funs,ok.frf⟩
def Cx.Ok.unwish {X:Cx}{E:RC->RE->Prop}(ok:(X.wish E).Ok):X.Ok :=
 ⟨ok.mod,ok.kind,ok.glob,ok.blt,ok.above,ok.inj,ok.has,ok.cab,ok.hd,ok.frames,ok.stk,ok.exf,ok.bs,ok.bsz,ok.noex,ok.exfs,ok.funs,ok.frf⟩
section
variable {X:Cx}{O:St}{H:Hp}{s:RE}{E:RC->RE->Prop}
def Inv.wish (I:Inv X vv O H s)(E:RC->RE->Prop):Inv (X.wish E) vv O H s:=⟨I.ok.wish E,I.os,I.bare,I.base,I.loc,I.cell,I.free,I.freeC,I.pin,I.hok,I.len⟩
def Inv.unwish (I:Inv (X.wish E) vv O H s):Inv X vv O H s:=⟨I.ok.unwish,I.os,I.bare,I.base,I.loc,I.cell,I.free,I.freeC,I.pin,I.hok,I.len⟩
def SP.unwish {D:Ends}{f:Flow}{s':RE}(h:SP (X.wish E) vv D f s'):SP X vv D f s':=by
 cases f with
 | next=>obtain⟨O',H',I,q⟩:=h;exact⟨O',H',I.unwish,q⟩
 | brk=>obtain⟨O',H',I,q⟩:=h;exact⟨O',H',I.unwish,q⟩
 | cont=>obtain⟨O',H',I,q⟩:=h;exact⟨O',H',I.unwish,q⟩
 | ret u=>obtain⟨v,O',H',I,r,q⟩:=h;exact⟨v,O',H',I.unwish,r,q⟩
def PSs.nox {st:List RK}{t:TS}(h:PSs X.nox st t):PSs X st t:=λvv s O H D I hw =>
 MR (h vv s O H D (I.wish _) hw) (λ_ _ q=>q.unwish) λ_ _ z=>False.elim z
end
section
variable {X:Cx}{st:RK}{rest:List RK}{t u:TS}{e:RL}
def zK :TS:=λD O H=>D.nx O H
def Dk (t u:TS):TS:=λD O H=>t { D with nx:=u D } O H
def ju :PSs X [] zK:=λ_ _ O H _ I h=>QJ ⟨O,H,I,h⟩
def B6 (h1:PS X st t)(h2:PSs X rest u):PSs X (st::rest) (Dk t u):=by
 intro vv s O H D I h;refine wpAny_execs_cons (thn (h1 vv s O H { D with nx:=u D } I h) λf s1 q=>?_);cases f with
 | next =>obtain⟨O',H',I',q⟩:=q;exact h2 vv s1 O' H' D I' q
 | ret v=>exact q
 | brk=>exact q
 | cont=>exact q
def cQ (h1:PS X st t):PSs X [st] t:=by
 intro vv s O H D I h;refine wpAny_execs_cons (thn (h1 vv s O H D I h) λf s1 q=>?_);cases f with
 | next=>exact QJ q
 | ret v=>exact q
 | brk=>exact q
 | cont=>exact q
def Inv.quiet {O:St}{H:Hp}{s:RE}(I:Inv X vv O H s):interactive X.env=false:=by simp[interactive,I.ok.kind]
def xa (te:TE):TS:=λD O H=>te O H λ_ H1=>D.nx O H1
def xI (he:PE X e te)(hs:RV e none pos.line X.env=pure false:=by rfl):PS X (.Expr e pos) (xa te):=by intro vv s O H D I h;exact wpAny_Expr_any (thn (he vv s O H _ I h) λv s1 ⟨x,H1,I1,r1,q1⟩=>⟨O,H1,I1,q1⟩) I.quiet hs
def Bn (te:TE):TS:=λD O H=>te O H D.rt
def eN (he:PE X e te):PS X (.Return (some e) pos) (Bn te):=by intro vv s O H D I h;exact wpAny_Return_some (thn (he vv s O H _ I h) λv s1 ⟨x,H1,I1,r1,q1⟩=>⟨x,O,H1,I1,r1,q1⟩)
def DB (c:TT)(t u:TS):TS:=λD O H=>c O H λb H1=>if b=true then t D O H1 else u D O H1
def xo {c:RL}{a b:List RK}{tc:TT}(hc:PT X c tc)(ha:PSs X a t)(hb:PSs X b u):PS X (.If c a b pos) (DB tc t u):=by
 intro vv s O H D I h;refine wpAny_If (thn (hc vv s O H _ I h) λd s1 ⟨H1,I1,q1⟩=>?_);cases d with
 | true=>exact ha vv s1 O H1 D I1 q1
 | false=>exact hb vv s1 O H1 D I1 q1
end
abbrev TG :=V->St->Hp->(St->Hp->Prop)->Prop
abbrev TGs :=List V->St->Hp->(St->Hp->Prop)->Prop
def PG (X:Cx)(target:RL)(t:TG):Prop :=
 ∀(vv:List (RD×RP)) (s:RE) (O:St) (H:Hp) (v:V) (u:RC) (Q:St->Hp->Prop),Inv X vv O H s->u4 v u->t v O H Q ->
  RT (model X.prog X.w) X.A (assign target X.env u) (λ_ s'=>∃O' H',Inv X vv O' H' s'/\Q O' H') X.xe s
def PGs (X:Cx)(ts:List RL)(t:TGs):Prop :=
 ∀(vv:List (RD×RP)) (s:RE) (O:St) (H:Hp) (vs:List V) (us:List RC) (Q:St->Hp->Prop),Inv X vv O H s->p8 vs us->t vs O H Q ->
  RT (model X.prog X.w) X.A (assignInOrder ((RZ ts X.env).map (·.2)) us) (λ_ s'=>∃O' H',Inv X vv O' H' s'/\Q O' H') X.xe s
section
variable {X:Cx}
def aM (i:Nat):TG:=λv O H Q=>Q (O.set i (some v)) H
def yO {i:Nat}{x:Str}(hN:X.N.Nodup)(hi:X.N[i]? = some x)(hx:Loc X.env.scope x)(hf:X.fn x=true\/X.env.scope.names.lookup x=some .local:=by walk_at "v"):PG X (.Name x pos) (aM i):=by intro vv s O H v u Q I r h;exact wpAny_assign_Name (az I hN hi hx r (λs' I'=>⟨_,H,I',h⟩) hf)
def DT :TGs:=λvs O H Q=>vs=[]/\Q O H
def zM (t:TG)(u:TGs):TGs:=λvs O H Q=>∃v r,vs=v::r/\t v O H λO' H'=>u r O' H' Q
def zb :PGs X [] DT:=by intro vv s O H vs us Q I r h;obtain⟨e,h⟩:=h;subst e;cases r;exact assignInOrder_nil ⟨O,H,I,h⟩
def vC {e:RL}{t:TG}{u:TGs}(h1:PG X e t)(h2:PGs X es u)
  (hs:(RZ (e::es) X.env).map (·.2)=assign e X.env::(RZ es X.env).map (·.2):=by rfl):PGs X (e::es) (zM t u):=by
 intro vv s O H vs us Q I r h;obtain⟨v,vr,e1,h⟩:=h;subst e1;cases r with
 | cons r rr =>rw[hs];refine assignInOrder_cons (thn (h1 vv s O H _ _ _ I r h) λ_ s1 ⟨σ1,H1,I1,q1⟩=>?_);exact h2 vv s1 σ1 H1 _ _ Q I1 rr q1
def BG (K:Fg)(n:Nat)(t:TGs):TG:=λv O H Q=>∃a xs,v = .ref a/\SqT K H a xs/\xs.length=n/\t xs O H Q
def Cp {k:Nat}{t:TGs}{n:Nat}(hc:X.calm=true)(h:PGs X es t)
  (hn:(RZ es X.env).length=n:=by rfl) (hst:(RZ es X.env).findIdx? (·.1)=none:=by rfl):PG X (.Tuple es k pos) (BG X.K n t):=by
 intro vv s O H v u Q I r hw;obtain⟨a,xs,e1,hq,hl,hw⟩:=hw;subst e1;cases r;obtain⟨its,rv,ht,hz⟩:=I.tuple hq;refine assign_Tuple_tuple (I.ok.hd hc) ht (by simp[hn,<-hl,rv.length]) hst λh' hx=>?_
 have I1:Inv X vv O H { s with heap:=h' }:=I.kept (t':=s.toks) λb o e=>hx b o (MC (Mm e)) e
 exact h vv _ O H xs _ Q I1 (by simpa using rv) hw
def gm (te:TE)(g:TG):TS:=λD O H=>te O H λx H1=>g x O H1 D.nx
def Bc {e:RL}{g:TG}(he:PE X e te)(hg:PG X tg g)(hs:swapsWithSole [tg] e pos.line X.env=pure false:=by rfl)(hw:swappedStores [tg] e X.env=pure none:=by rfl)
  (h1:(RZ [tg] X.env).map (·.2)=[assign tg X.env]:=by rfl):PS X (.Assign [tg] e pos) (gm te g):=by intro vv s O H D I h;refine wpAny_Assign_stores (thn (he vv s O H _ I h) λv s1 ⟨x,H1,I1,r1,q1⟩=>?_) hs hw;rw[h1];exact thn (hg vv s1 O H1 x v _ I1 r1 q1) λ_ s2 q=>q
def S7 {i:Nat}{x:Str}{e:RL}{pos':Pos}(hN:X.N.Nodup)(hi:X.N[i]? = some x)(hx:Loc X.env.scope x)(he:PE X e te)(hs:RV e (some (.Name x pos')) pos.line X.env=pure false:=by rfl)(hf:X.fn x=true\/X.env.scope.names.lookup x=some .local:=by walk_at "v") :
  PS X (.Assign [.Name x pos'] e pos) (gm te (aM i)):=by intro vv s O H D I h;refine wpAny_Assign_Name (thn (he vv s O H _ I h) λv s1 ⟨y,H1,I1,r1,q1⟩=>?_) hs;exact az I1 hN hi hx r1 (λs2 I2=>⟨_,H1,I2,q1⟩) hf
def AZ (i j:Nat)(ta:TA):TS:=λD O H=>ta O H λvs H1=>∃v w,vs=[v,w]/\D.nx ((O.set i (some v)).set j (some w)) H1
def vX {i j:Nat}{x y:Str}{a b:RL}{ta:TA}{px py pt:Pos}{kt k2 pt2}(hc:X.calm=true)(hN:X.N.Nodup)(hi:X.N[i]? = some x)(hj:X.N[j]? = some y)(hij:i≠j)
  (hx:X.env.scope.names.lookup x=some .local) (hy:X.env.scope.names.lookup y=some .local) (ha:PA X [a,b] ta)
  (hw:swappedStores [.Tuple [.Name x px,.Name y py] kt pt] (.Tuple [a,b] k2 pt2) X.env=pure (some [x,y]))
  (hs:swapsWithSole [.Tuple [.Name x px,.Name y py] kt pt] (.Tuple [a,b] k2 pt2) pos.line X.env=pure false:=by rfl) :
  PS X (.Assign [.Tuple [.Name x px,.Name y py] kt pt] (.Tuple [a,b] k2 pt2) pos) (AZ i j ta):=by
 intro vv s O H D I h;rw[exec_Assign_arm];refine LV (Pb ?_);rw[hs];refine LV (LY ?_);rw[Md (by decide)];refine LV (Tuple_ (thn (ha _ vv s O H _ I h) λus s1 ⟨vs,H1,I1,r1,q1⟩=>?_));obtain⟨v,w,e1,q1⟩:=q1;subst e1;obtain⟨u1,u2,rfl,rv,rw'⟩:∃u1 u2,us=[u1,u2]/\u4 v u1/\u4 w u2:=by
  cases r1 with
  | cons p q =>
   cases q with
   | cons p' q' =>cases q';exact⟨_,_,rfl,p,p'⟩
 refine MY ?_ (by show 2<=RN;decide);have I2:Inv X vv O H1 { s1 with heap:=s1.heap.push { cls:=.type "tuple",data:=.seq [u1,u2].toArray } }:=I1.kept (t':=s1.toks) λb o e=>LZ _ e
 rw[hw];refine LV (LY ?_);show RT (model X.prog X.w) X.A (do rule "assign.swapped-stores";let items <-unpackItems (.ref s1.heap.objs.size) 2 none;assignInOrder [λv=>bindName X.env y v,λv=>bindName X.env x v] items.reverse;pure Flow.next) _ _ _;refine LV (Oi (LV (unpackItems_tuple (items:=#[u1,u2]) (I.ok.hd hc) (QF s1.heap _) λh' hx'=>?_)));have I3:=I2.kept (h':=h') (t':=s1.toks) λb o e=>hx' b o (MC (Mm e)) e
 show RT _ _ (assignInOrder [λv=>bindName X.env y v,λv=>bindName X.env x v] [u2,u1] >>= λ_=>pure Flow.next) _ _ _;refine LV (assignInOrder_cons (wpAny_bindName (az I3 hN hj (.inl hy) rw' (λs2 I4=>?_) (.inr hy))));refine assignInOrder_cons (wpAny_bindName (az I4 hN hi (.inl hx) rv (λs3 I5=>assignInOrder_nil (LY ?_)) (.inr hx)));rw[List.set_comm _ _ (OU hij)]at I5;exact⟨_,H1,I5,q1⟩
end
section
variable {X:Cx}
def pB (c:TT)(tb:TS):TS:=λD O H=>∃W:Nat->St->Hp->Prop,(∃m,W m O H)/\∀m O H,W m O H ->
 c O H λb H1=>if b=true then ∃N:St->Hp->Prop,(∀O' H',N O' H'->∃m',m'<m/\W m' O' H')/\tb { D with nx:=N,ct:=N,bk:=D.nx } O H1 else D.nx O H1
def wq {c:RL}{tc:TT}{tb:TS}(hp:PassesOwn (model X.prog X.w) X.A X.env X.xe)(hc:PT X c tc)(hb:PSs X body tb):PS X (.While c body [] pos) (pB tc tb):=by
 intro vv s O H D I h;obtain⟨W,⟨m0,w0⟩,turn⟩:=h;refine wpAny_While (codeAny_whileLoop (λn s'=>∃O' H',Inv X vv O' H' s'/\W n O' H') ?_ m0 ⟨O,H,I,w0⟩);rintro n s1 ⟨σ1,H1,I1,w1⟩;refine OM hp (thn (hc vv s1 σ1 H1 _ I1 (turn n σ1 H1 w1)) λb s2 ⟨H2,I2,q2⟩=>?_);cases b with
 | true =>
  obtain⟨N,hN,q2⟩:=q2;rw[Mb rfl];refine OM hp (thn (hb vv s2 σ1 H2 _ I2 q2) λf s3 q3=>?_);cases f with
  | next =>obtain⟨σ3,H3,I3,n3⟩:=q3;obtain⟨m',hm,w3⟩:=hN σ3 H3 n3;exact⟨m',hm,σ3,H3,I3,w3⟩
  | cont =>obtain⟨σ3,H3,I3,n3⟩:=q3;obtain⟨m',hm,w3⟩:=hN σ3 H3 n3;exact⟨m',hm,σ3,H3,I3,w3⟩
  | brk=>exact q3
  | ret v=>exact q3
 | false =>rw[Md Mz];exact QJ ⟨σ1,H2,I2,q2⟩
end
structure It where
 go:Nat->Hp->Prop
 yld:Nat->Hp->V->Hp->Prop
 stop:Nat->Hp->Prop
def cE (X:Cx)(vv:List (RD×RP))(H:Hp)(b:RD):Prop :=
 H b=none/\b≠X.env.locals/\b ∉ X.fs/\(b∈X.ex\/X.s₀.heap.objs.size<=b)/\(∀x c,X.env.cells.lookup x=some c->c≠b)/\∀p∈X.pn++vv,p.1≠b
def Inv.fpOk {X:Cx}{O:St}{H H':Hp}{s:RE}{b:RD}(I:Inv X vv O H s)(hb:s.heap.objs.size<=b)(hn:H' b=none):cE X vv H' b:=by
 refine⟨hn,Pl (Mx I.lt hb),I.nofs hb,.inr (MK I.sz hb),λx c e z=>?_,λp hp z=>?_⟩
 .obtain⟨v,q⟩:=I.cell x c e;exact absurd (Mx q.lt (by rw[z];exact hb)) (Nv _)
 .exact absurd (Mx (Mm (I.pin p hp).1) (by rw[z];exact hb)) (Nv _)
structure Turn (P:RF) (w:RG) (K:Fg) (tg:RL) (J:It) (fp:List RD) (it:RD) (tn:Nat->RM->Prop):Prop where
 mem:it∈fp
 obj:∀i h,tn i h->∀b∈fp,∃o,h.get? b=some o/\∀v,o.data ≠ .cell v
 keep:∀i h h',tn i h->(∀b∈fp,∀o,h.get? b=some o->h'.get? b=some o)->tn i h'
 item:∀(X:Cx),X.prog=P->X.w=w->X.K=K->X.calm=true->∀(i:Nat) (vv:List (RD×RP)) (s:RE) (O:St) (H:Hp) (E:RC->RE->Prop),Inv X vv O H s->(∀b∈fp,cE X vv H b)->tn i s.heap->J.go i H ->
  RT (model P w) X.A (pyNext (.ref it)) (λr s1=>∃u,r=some u /\
   RT (model P w) X.A (letOwnedTupleGo tg (.ref it) u) (λ_ s2=>∃x H',Inv X vv O H' s2/\u4 x u/\J.yld i H x H'/\tn (i+1) s2.heap/\∀b∈fp,H' b=none) E s1) E s
 done:∀(X:Cx),X.prog=P->X.w=w->X.K=K->X.calm=true->∀(i:Nat) (vv:List (RD×RP)) (s:RE) (O:St) (H:Hp) (E:RC->RE->Prop),Inv X vv O H s->(∀b∈fp,cE X vv H b)->tn i s.heap->J.stop i H ->
  RT (model P w) X.A (pyNext (.ref it)) (λr s1=>r=none/\Inv X vv O H s1) E s
 self:∀(A:RH) (i:Nat) (s:RE) (Q:RC->RE->Prop) (E:RC->RE->Prop),tn i s.heap->Q (.ref it) s->RT (model P w) A (pyIter (.ref it)) Q E s
abbrev TI :=St->Hp->(It->Hp->Prop)->Prop
def PIE (X:Cx)(vv:List (RD×RP))(O:St)(tg:RL)(R:It->Hp->Prop)(itv:RC)(s2:RE):Prop :=
 ∃(it:RD) (fp:List RD) (tn:Nat->RM->Prop) (J:It) (H':Hp),itv = .ref it/\Inv X vv O H' s2/\Turn X.prog X.w X.K tg J fp it tn/\tn 0 s2.heap/\(∀b∈fp,cE X vv H' b)/\R J H'
def PI (X:Cx)(tg iter:RL)(wi:TI):Prop :=
 ∀(vv:List (RD×RP)) (s:RE) (O:St) (H:Hp) (R:It->Hp->Prop),Inv X vv O H s->wi O H R ->
  RT (model X.prog X.w) X.A (eval iter X.env) (λv s1=>RT (model X.prog X.w) X.A (pyIter v) (PIE X vv O tg R) X.xe s1) X.xe s
def wC {M:Model}{A:RH}{E:RC->RE->Prop}{s:RE}{it:RD}{u:RC}{o:RP}{n:String}{vs:Array RC}{Q:Unit->RE->Prop}(ho:s.heap.get? it=some o)(hc:o.cls = .type n)(hd:o.data = .fields vs)
    (hn:["enumerate","zip","dict_itemiterator","dict_reverseitemiterator","odict_iterator","itertools.zip_longest","itertools.pairwise"].contains n=false) (hQ:Q () s):RT M A (letOwnedTupleGo tg (.ref it) u) Q E s:=by
  unfold letOwnedTupleGo;cases tg <;> first
    | exact LY hQ
    | (cases u <;> first
        | exact LY hQ
        | (refine LV (wpAny_load ho ?_)
           rw[hc,hd]
           show RT M A (if (["enumerate","zip","dict_itemiterator","dict_reverseitemiterator","odict_iterator","itertools.zip_longest","itertools.pairwise"].contains n&&vs[0]? == some (rawInt _))=true then _ else _) Q E s
           rw[Md (by intro h;rw[hn,Bool.false_and]at h;cases h)]
           exact LY hQ))
def Itl (K:Fg)(a:RD):It :=
 ⟨λi H=>∃xs x,SqL K H a xs/\xs[i]? = some x,λi H x H'=>H'=H/\∀xs,SqL K H a xs->xs[i]? = some x,λi H=>∃xs,SqL K H a xs/\xs.length<=i⟩
def Itt (K:Fg)(a:RD):It :=
 ⟨λi H=>∃xs x,SqT K H a xs/\xs[i]? = some x,λi H x H'=>H'=H/\∀xs,SqT K H a xs->xs[i]? = some x,λi H=>∃xs,SqT K H a xs/\xs.length<=i⟩
def Itr (lo:Int)(n:Nat):It:=⟨λi _=>i<n,λi H x H'=>H'=H/\x = .int (lo+i),λi _=>n<=i⟩
def sJ {P:RF}{w:RG}{K:Fg}(a it:RD):Turn P w K tg (Itl K a) [it] it (λi h=>h.IsListIter it a i) where
 mem:=by simp
 obj:=λi h st b hb=>by
  have e:b=it:=by simpa using hb
  subst e;obtain⟨o,e,c,d⟩:=st;exact⟨o,e,λv z=>by rw[d]at z;cases z⟩
 keep:=λi h h' st k=>st.at λo e=>k it (by simp) o e
 item:=by
  walk_at "ku";obtain⟨xs,x,hq,hx⟩:=hg;obtain⟨its,rv,p,hz⟩:=I.list hq;obtain⟨u,hu,ru⟩:=rv.get hx;obtain⟨f0,f1,f2,f3,f4,f5⟩:=hf it (by simp);refine wpAny_pyNext_list_item st p.isList (x:=u) (by simpa using hu) λh' st' sb=>?_
  have I1:Inv X vv O H { s with heap:=h' }:=I.turned (t':=s.toks) (λb o hb e=>(sb.2 b hb).trans e) f0 f1 f3 f4 f5;obtain⟨o,e,c,d⟩:=id st';exact⟨u,rfl,wC (s:={ s with heap:=h' }) e c d (by decide) ⟨x,H,I1,ru,⟨rfl,λys hy=>by rw[I.list_inj hy hq];exact hx⟩,st',λb hb=>(hf b hb).1⟩⟩
 done:=by intro X hP hw hK hc i vv s O H E I hf st hg;subst hP hw hK;obtain⟨xs,hq,hx⟩:=hg;obtain⟨its,rv,p,hz⟩:=I.list hq;obtain⟨f0,f1,f2,f3,f4,f5⟩:=hf it (by simp);have hl:=rv.length;exact wpAny_pyNext_list_end (I.ok.hd hc) st p.isList (by simp;omega) λh' eb=>⟨rfl,I.turned (t':=s.toks) (λb o hb e=>eb b o hb e) f0 f1 f3 f4 f5⟩
 self:=λ_ _ _ _ _ st h=>wpAny_pyIter_listiter st h
def oQ {P:RF}{w:RG}{K:Fg}(a it:RD):Turn P w K tg (Itt K a) [it] it (λi h=>h.IsTupleIter it a i) where
 mem:=by simp
 obj:=λi h st b hb=>by
  have e:b=it:=by simpa using hb
  subst e;obtain⟨o,e,c,d⟩:=st;exact⟨o,e,λv z=>by rw[d]at z;cases z⟩
 keep:=λi h h' st k=>st.at λo e=>k it (by simp) o e
 item:=by
  walk_at "ku";obtain⟨xs,x,hq,hx⟩:=hg;obtain⟨its,rv,p,hz⟩:=I.tuple hq;obtain⟨u,hu,ru⟩:=rv.get hx;obtain⟨f0,f1,f2,f3,f4,f5⟩:=hf it (by simp);refine wpAny_pyNext_tuple_item st (show s.heap.IsTuple a its.toArray from p) (x:=u) (by simpa using hu) λh' st' sb=>?_
  have I1:Inv X vv O H { s with heap:=h' }:=I.turned (t':=s.toks) (λb o hb e=>(sb.2 b hb).trans e) f0 f1 f3 f4 f5;obtain⟨o,e,c,d⟩:=id st';exact⟨u,rfl,wC (s:={ s with heap:=h' }) e c d (by decide) ⟨x,H,I1,ru,⟨rfl,λys hy=>by rw[I.tuple_inj hy hq];exact hx⟩,st',λb hb=>(hf b hb).1⟩⟩
 done:=by intro X hP hw hK hc i vv s O H E I hf st hg;subst hP hw hK;obtain⟨xs,hq,hx⟩:=hg;obtain⟨its,rv,p,hz⟩:=I.tuple hq;obtain⟨f0,f1,f2,f3,f4,f5⟩:=hf it (by simp);have hl:=rv.length;exact wpAny_pyNext_tuple_end (I.ok.hd hc) st (show s.heap.IsTuple a its.toArray from p) (by simp;omega) λh' eb=>⟨rfl,I.turned (t':=s.toks) (λb o hb e=>eb b o hb e) f0 f1 f3 f4 f5⟩
 self:=λ_ _ _ _ _ st h=>wpAny_pyIter_tupleiter st h
def oS {P:RF}{w:RG}{K:Fg}(it:RD)(lo:Int)(n:Nat):Turn P w K tg (Itr lo n) [it] it (λi h=>IsRangeIter h it (lo+(i:Nat)*1) ((n:Int)-(i:Nat)) 1) where
 mem:=by simp
 obj:=λi h st b hb=>by
  have e:b=it:=by simpa using hb
  subst e;exact⟨_,st,λv z=>by have z':Data.fields _=Data.cell v:=z;cases z'⟩
 keep:=λi h h' st k=>k it (by simp) _ st
 item:=by
  walk_at "ku";obtain⟨f0,f1,f2,f3,f4,f5⟩:=hf it (by simp);have W:=Walks.range (prog:=X.prog) (w:=X.w) (I.ok.hd hc) it lo 1 n;refine W.item i s _ _ hg st λv h' tk hv st' kk=>?_
  obtain⟨t,rfl⟩:=hv;have I1:Inv X vv O H { s with heap:=h',toks:=tk }:=I.turned (λb o hb e=>kk b o (by simpa using hb) e) f0 f1 f3 f4 f5;refine⟨_,rfl,wC (s:={ s with heap:=h',toks:=tk }) (n:="range_iterator") st' rfl rfl (by decide) ⟨.int (lo+i),H,I1,⟨t,?_⟩,⟨rfl,rfl⟩,st',λb hb=>(hf b hb).1⟩⟩;rw[Int.mul_one]
 done:=by intro X hP hw hK hc i vv s O H E I hf st hg;subst hP hw hK;obtain⟨f0,f1,f2,f3,f4,f5⟩:=hf it (by simp);exact wpAny_pyNext_range_end (I.ok.hd hc) st (by have:n<=i:=hg;omega) λh' eb=>⟨rfl,I.turned (t':=s.toks) (λb o hb e=>eb b o hb e) f0 f1 f3 f4 f5⟩
 self:=λ_ _ _ _ _ st h=>wpAny_pyIter_rangeiter st h
end
variable {fp:List RD}
section
section
variable {X:Cx}
def xh {O:St}{H:Hp}{s:RE}{R:It->Hp->Prop}{E:RC->RE->Prop}{lo hi:Int}{t u v:Tok}{tk:Nat}(I:Inv X vv O H s)(h1:-(2 ^ 62)<=lo)(h2:lo<2 ^ 62)(h3:-(2 ^ 62)<=hi)(h4:hi<2 ^ 62)
  (q:R (Itr lo (hi-lo).toNat) H):RT (model X.prog X.w) X.A (pyIter (.ref s.heap.objs.size)) (PIE X vv O tg R) E { s with heap:=s.heap.push { cls:=.type "range",data:=.fields #[.int lo t,.int hi u,.int 1 v] },toks:=tk }:=by
 refine wpAny_pyIter_range (IsRange.new ..) (small_one h1 h2 h3 h4) ?_;have I1:Inv X vv O H { s with heap:=s.heap.push { cls:=.type "range",data:=.fields #[.int lo t,.int hi u,.int 1 v] },toks:=tk }:=I.kept λb o e=>LZ _ e
 refine⟨(s.heap.push { cls:=.type "range",data:=.fields #[.int lo t,.int hi u,.int 1 v] }).objs.size,[(s.heap.push { cls:=.type "range",data:=.fields #[.int lo t,.int hi u,.int 1 v] }).objs.size],_,_,H,rfl,
  I1.kept (t':=tk) λb o e=>LZ _ e,oS _ lo (hi-lo).toNat,?_,λb hb=>?_,q⟩
 .have e1:lo+((0:Nat):Int)*1=lo:=by simp
  have e2:(((hi-lo).toNat:Nat):Int)-((0:Nat):Int)=Builtin.Range.rangeSize lo hi 1:=by rw[rangeSize_one];split <;> omega
  show IsRangeIter _ _ (lo+((0:Nat):Int)*1) ((((hi-lo).toNat:Nat):Int)-((0:Nat):Int)) 1;rw[e1,e2];exact Mp _ rfl
 .have e:b=(s.heap.push { cls:=.type "range",data:=.fields #[.int lo t,.int hi u,.int 1 v] }).objs.size:=by simpa using hb
  subst e;exact I1.fpOk (Mh _) (I1.hok.fresh (Mh _))
def zL (ta:TA):TI:=λO H R=>ta O H λvs H1=>∃j:Int,vs=[.int j] /\ -(2 ^ 62)<=j/\j<2 ^ 62/\R (Itr 0 j.toNat) H1
def sL {a:RL}{ta:TA}{p:Pos}(hg:Gl X "range")(hm:X.mg "range" = none)(ha:PA X [a] ta)(hs:RO [a] X.env=[(false,eval a X.env)]:=by rfl):PI X tg (.Call (.Name "range" p) [a] [] pos) (zL ta):=by
 intro vv s O H R I h;refine Call_ (cy I hg hm boot_range (Of (thn (ha pos vv s O H _ I h) λus s1 ⟨vs,H1,I1,r1,q1⟩=>?_) hs rfl));obtain⟨j,e,q1,q2,q⟩:=q1;subst e;cases r1 with
 | cons r rr =>cases rr;obtain⟨t,rfl⟩:=r;exact call_range_1 (xh I1 (by omega) (by omega) q1 q2 (by simpa using q))
def BD (wi:TI)(g:TG)(tb:TS):TS:=λD O H=>wi O H λJ H1=>∃W:Nat->Nat->St->Hp->Prop,(∃m,W 0 m O H1)/\∀i m O H,W i m O H ->
 (J.stop i H/\D.nx O H)\/(J.go i H/\∃N:St->Hp->Prop,(∀O' H',N O' H'->∃m',m'<m/\W (i+1) m' O' H')/\∀x H',J.yld i H x H'->g x O H' λσ2 H2=>tb { D with nx:=N,ct:=N,bk:=D.nx } σ2 H2)
def dN (fp:List RD)(h:RM):List (RD×RP):=fp.filterMap λb=>(h.get? b).map λo=>(b,o)
def O2 {h:RM}{b:RD}{o:RP}(hb:b∈fp)(e:h.get? b=some o):(b,o)∈dN fp h:=PJ.2 ⟨b,hb,by rw[e];rfl⟩
def rL {h:RM}{p:RD×RP}(hp:p∈dN fp h):p.1∈fp/\h.get? p.1=some p.2:=by
 obtain⟨b,hb,e⟩:=PJ.1 hp;cases q:h.get? b with
 | none=>rw[q]at e;cases e
 | some o =>rw[q]at e;have e':(b,o)=p:=Mg e;subst e';exact⟨hb,q⟩
def Inv.pinned {O:St}{H:Hp}{s:RE}(I:Inv X vv O H s)(hf:∀b∈fp,cE X vv H b)(ho:∀b∈fp,∃o,s.heap.get? b=some o/\∀v,o.data ≠ .cell v):Inv X (vv++dN fp s.heap) O H s :=
 I.pins_of λp hp=>(NO.1 hp).elim (λz=>I.pin p (Mu _ z)) λz=>by obtain⟨hb,e⟩:=rL z;obtain⟨f0,f1,f2,_⟩:=hf p.1 hb;obtain⟨o,e',d⟩:=ho p.1 hb;rw[e]at e';cases e';exact⟨e,f0,f1,f2,d⟩
def Inv.unpinned {pl:List (RD×RP)}{O:St}{H:Hp}{s:RE}(I:Inv X (vv++pl) O H s):Inv X vv O H s:=I.pins_of λp hp=>I.pin p (Mu _ (QH _ hp))
def Ct {iter:RL}{wi:TI}{g:TG}{tb:TS}(hp:PassesOwn (model X.prog X.w) X.A X.env X.xe)(hc:X.calm=true)(hi:PI X tg iter wi)(hg:PG X tg g)(hb:PSs X body tb)
  (hs:∀x,RY iter X.env x=pure x:=by intro _;rfl):PS X (.For tg iter body [] pos) (BD wi g tb):=by
 intro vv s O H D I h;refine wpAny_For (thn (hi vv s O H _ I h) λv s1 h1=>thn h1 λitv s2 h2=>?_) hs;obtain⟨it,fp,tn,J,H2,e,I2,T,st2,f2,W,⟨m0,w0⟩,turn⟩:=h2;subst e;have stat:∀{H':Hp},(∀b∈fp,H' b=none)->∀b∈fp,cE X vv H' b:=λhn b hb=>⟨hn b hb,(f2 b hb).2⟩
 refine codeAny_forLoop_any (λn s'=>∃i O' H',Inv X vv O' H' s'/\tn i s'.heap/\(∀b∈fp,H' b=none)/\W i n O' H') ?_ m0 ⟨0,O,H2,I2,st2,λb hb=>(f2 b hb).1,w0⟩;rintro n s3 ⟨i,σ3,H3,I3,st3,fr3,w3⟩;rcases turn i n σ3 H3 w3 with ⟨stop,qn⟩ | ⟨go,N,hN,step⟩
 .refine OM hp (thn (T.done X rfl rfl rfl hc i vv s3 σ3 H3 X.xe I3 (stat fr3) st3 stop) λr s4 ⟨hr,I4⟩=>?_);subst hr;exact QJ ⟨σ3,H3,I4,qn⟩
 .refine OM hp (thn (T.item X rfl rfl rfl hc i vv s3 σ3 H3 X.xe I3 (stat fr3) st3 go) λr s4 ⟨u,hr,h4⟩=>?_);subst hr;refine OM hp (thn h4 λ_ s5 ⟨x,H5,I5,r5,y5,st5,fr5⟩=>?_);have I5':=I5.pinned (stat fr5) (T.obj _ _ st5);refine OM hp (thn (hg _ s5 σ3 H5 x u _ I5' r5 (step x H5 y5)) λ_ s6 ⟨σ6,H6,I6,q6⟩=>?_);refine OM hp (thn (hb _ s6 σ6 H6 _ I6 q6) λf s7 q7=>?_);have again:∀{σ7:St} {H7:Hp},Inv X (vv++dN fp s5.heap) σ7 H7 s7->N σ7 H7->∃m,m<n/\∃i O' H',Inv X vv O' H' s7/\tn i s7.heap/\(∀b∈fp,H' b=none)/\W i m O' H':=λ{σ7 H7} I7 n7=>by obtain⟨m',hm,w7⟩:=hN σ7 H7 n7;refine⟨m',hm,i+1,σ7,H7,I7.unpinned,T.keep _ _ _ st5 λb hb o e=>(I7.pin (b,o) (Mu _ (Mu _ (O2 hb e)))).1,λb hb=>?_,w7⟩;obtain⟨o,e,d⟩:=T.obj _ _ st5 b hb;exact(I7.pin (b,o) (Mu _ (Mu _ (O2 hb e)))).2.1
  cases f with
  | next=>obtain⟨σ7,H7,I7,n7⟩:=q7;exact again I7 n7
  | cont=>obtain⟨σ7,H7,I7,n7⟩:=q7;exact again I7 n7
  | brk=>obtain⟨σ7,H7,I7,q7⟩:=q7;exact⟨σ7,H7,I7.unpinned,q7⟩
  | ret v=>obtain⟨x7,σ7,H7,I7,r7,q7⟩:=q7;exact⟨x7,σ7,H7,I7.unpinned,r7,q7⟩
end
end
section
abbrev R2 :=V->V->Hp->VK->Prop
def OpR (X:Cx)(f:RC->RC->Sem RC)(r:R2):Prop :=
 ∀(vv:List (RD×RP)) (s:RE) (O:St) (H:Hp) (x y:V) (v u:RC) (Q:VK),Inv X vv O H s->u4 x v->u4 y u->r x y H Q ->
  RT (model X.prog X.w) X.A (f v u) (EP X vv O Q) X.xe s
def UnR (X:Cx)(f:RC->Sem RC)(r:V->Hp->VK->Prop):Prop :=
 ∀(vv:List (RD×RP)) (s:RE) (O:St) (H:Hp) (x:V) (v:RC) (Q:VK),Inv X vv O H s->u4 x v->r x H Q ->
  RT (model X.prog X.w) X.A (f v) (EP X vv O Q) X.xe s
def A8 (X:Cx)(f:RC)(r:List V->Hp->VK->Prop):Prop :=
 ∀(vv:List (RD×RP)) (s:RE) (O:St) (H:Hp) (xs:List V) (us:List RC) (Q:VK),Inv X vv O H s->p8 xs us->r xs H Q ->
  RT (model X.prog X.w) X.A (call f us) (EP X vv O Q) X.xe s
def Ey (X:Cx)(r:V->Hp->(Bool->Hp->Prop)->Prop):Prop :=
 ∀(vv:List (RD×RP)) (s:RE) (O:St) (H:Hp) (x:V) (v:RC) (Q:Bool->Hp->Prop),Inv X vv O H s->u4 x v->r x H Q ->
  RT (model X.prog X.w) X.A (truthy v) (TP X vv O Q) X.xe s
def tOp (r:R2)(ta tb:TE):TE:=λO H Q=>ta O H λx H1=>tb O H1 λy H2=>r x y H2 Q
def tUn (r:V->Hp->VK->Prop)(ta:TE):TE:=λO H Q=>ta O H λx H1=>r x H1 Q
def rI (C:Int->Int->Prop)(g:Int->Int->V):R2:=λx y H Q=>∃i j,x = .int i/\y = .int j/\C i j/\Q (g i j) H
def rI0 (g:Int->Int->V):R2:=λx y H Q=>∃i j,x = .int i/\y = .int j/\Q (g i j) H
def rU (g:Int->V):V->Hp->VK->Prop:=λx H Q=>∃i,x = .int i/\Q (g i) H
section
variable {X:Cx}{a b c:RL}{tb tc:TE}
def Az (ha:PE X a ta)(hb:PE X b tb){s:RE}{O:St}{H:Hp}{R:V->V->Hp->Prop}(I:Inv X vv O H s)
  (h:ta O H λx H1=>tb O H1 λy H2=>R x y H2) {Q:RC->RE->Prop} {f:RC->RC->Sem RC}
  (hf:∀v u s2 x y H2,Inv X vv O H2 s2->u4 x v->u4 y u->R x y H2->RT (model X.prog X.w) X.A (f v u) Q X.xe s2) :
  RT (model X.prog X.w) X.A (eval a X.env) (λv s₁=>RT (model X.prog X.w) X.A (eval b X.env) (λu s₂=>RT (model X.prog X.w) X.A (f v u) Q X.xe s₂) X.xe s₁) X.xe s:=by
 refine thn (ha vv s O H _ I h) λv s1 ⟨x,H1,I1,r1,q1⟩=>?_
 refine thn (hb vv s1 O H1 _ I1 q1) λu s2 ⟨y,H2,I2,r2,q2⟩=>?_
 exact hf v u s2 x y H2 I2 r1 r2 q2
def G4 {op:Operator}{r:R2}(ho:OpR X (binaryOp op) r)(ha:PE X a ta)(hb:PE X b tb):PE X (.BinOp a op b pos) (tOp r ta tb):=by intro vv s O H Q I h;exact wpAny_BinOp (Az ha hb I h λv u s2 x y H2 I2 rx ry q=>ho vv s2 O H2 x y v u Q I2 rx ry q)
def xb {op:UnaryOp}{r:V->Hp->VK->Prop}(ho:UnR X (unaryOp op) r)(ha:PE X a ta):PE X (.UnaryOp op a pos) (tUn r ta):=by intro vv s O H Q I h;exact UnaryOp_ (thn (ha vv s O H _ I h) λv s1 ⟨x,H1,I1,r1,q1⟩=>ho vv s1 O H1 x v Q I1 r1 q1)
def opI {f:RC->RC->Sem RC}{C:Int->Int->Prop}{g:Int->Int->Int}
  (rule:∀(i j:Int) (t u:Tok) (s:RE) (Q:RC->RE->Prop) (E:RC->RE->Prop),C i j->Q (.int (g i j) s.toks) { s with toks:=s.toks+1 }->RT (model X.prog X.w) X.A (f (.int i t) (.int j u)) Q E s) :
  OpR X f (rI C λi j=>.int (g i j)):=by intro vv s O H x y v u Q I rx ry h;obtain⟨i,j,rfl,rfl,hc,q⟩:=h;obtain⟨t,rfl⟩:=rx;obtain⟨t',rfl⟩:=ry;exact rule i j t t' s _ _ hc ⟨.int (g i j),H,I.tok _,⟨_,rfl⟩,q⟩
def CH {f:RC->RC->Sem RC}{g:Int->Int->Int}
  (rule:∀(i j:Int) (t u:Tok) (s:RE) (Q:RC->RE->Prop) (E:RC->RE->Prop),Q (.int (g i j) s.toks) { s with toks:=s.toks+1 }->RT (model X.prog X.w) X.A (f (.int i t) (.int j u)) Q E s) :
  OpR X f (rI0 λi j=>.int (g i j)):=by intro vv s O H x y v u Q I rx ry h;obtain⟨i,j,rfl,rfl,q⟩:=h;obtain⟨t,rfl⟩:=rx;obtain⟨t',rfl⟩:=ry;exact rule i j t t' s _ _ ⟨.int (g i j),H,I.tok _,⟨_,rfl⟩,q⟩
def AF {f:RC->RC->Sem RC}{g:Int->Int->Bool}
  (rule:∀(i j:Int) (t u:Tok) (s:RE) (Q:RC->RE->Prop) (E:RC->RE->Prop),Q (.bool (g i j)) s->RT (model X.prog X.w) X.A (f (.int i t) (.int j u)) Q E s) :
  OpR X f (rI0 λi j=>.bl (g i j)):=by intro vv s O H x y v u Q I rx ry h;obtain⟨i,j,rfl,rfl,q⟩:=h;obtain⟨t,rfl⟩:=rx;obtain⟨t',rfl⟩:=ry;exact rule i j t t' s _ _ ⟨.bl (g i j),H,I,rfl,q⟩
def EO (i j:Int):Prop:=0<j/\j<1073741824
def yw (i j:Int):Prop:=0<=j/\j<=1000000/\i.natAbs<2 ^ 64
def rJ (i j:Int):Prop:=(-(2 ^ 64)<i/\i<2 ^ 64)\/(-(2 ^ 64)<j/\j<2 ^ 64)
def rJ.ok {i j:Int}(h:rJ i j):IntMulOk i j:=by
 rcases h with ⟨h1,h2⟩ | ⟨h1,h2⟩
 .exact .of_left (intBits_le_64 h1 h2)
 .exact .of_right (intBits_le_64 h1 h2)
def eu :OpR X (binaryOp .Add) (rI0 λi j=>.int (i+j)):=CH λ_ _ _ _ _ _ _ q=>add_int q
def AO :OpR X (binaryOp .Sub) (rI0 λi j=>.int (i-j)):=CH λ_ _ _ _ _ _ _ q=>sub_int q
def kH :OpR X (binaryOp .Mult) (rI rJ λi j=>.int (i*j)):=opI λ_ _ _ _ _ _ _ hc q=>mul_int q hc.ok
def kJ :OpR X (binaryOp .FloorDiv) (rI EO λi j=>.int (i / j)):=opI λi j _ _ _ _ _ hc q=>by have h1:(0:Int)<j:=hc.1;have h2:j<1073741824:=hc.2;exact floordiv_int (by omega) (by rw[Rg i (by omega)];exact q) (.inl (PyProof.noPylong_small (by omega)))
def aA :OpR X (binaryOp .Mod) (rI (λ_ j=>0<j) λi j=>.int (i % j)):=opI λi j _ _ _ _ _ hc q=>by have h1:(0:Int)<j:=hc;exact mod_int' (by omega) (by rw[Int.fmod_eq_emod_of_nonneg i (by omega)];exact q)
def nH :OpR X (binaryOp .Pow) (rI yw λi j=>.int (i ^ j.toNat)):=opI λ_ _ _ _ _ _ _ hc q=>pow_int_small hc.1 hc.2.1 hc.2.2 q
def unI {f:RC->Sem RC}{g:Int->Int}
  (rule:∀(i:Int) (t:Tok) (s:RE) (Q:RC->RE->Prop) (E:RC->RE->Prop),Q (.int (g i) s.toks) { s with toks:=s.toks+1 }->RT (model X.prog X.w) X.A (f (.int i t)) Q E s) :
  UnR X f (rU λi=>.int (g i)):=by intro vv s O H x v Q I rx h;obtain⟨i,rfl,q⟩:=h;obtain⟨t,rfl⟩:=rx;exact rule i t s _ _ ⟨.int (g i),H,I.tok _,⟨_,rfl⟩,q⟩
def nP :UnR X (unaryOp .USub) (rU λi=>.int (-i)):=unI λ_ _ _ _ _ q=>neg_int q
end
def Dw:V->V->Bool
 | .non,.non=>true | .non,.int _=>true | .int _,.non=>true | .non,.bl _=>true | .bl _,.non=>true | .non,.str _=>true | .str _,.non=>true
 | .int _,.int _=>true | .bl _,.bl _=>true | .str _,.str _=>true | .byt _,.byt _=>true
 | .int _,.str _=>true | .str _,.int _=>true | .bl _,.str _=>true | .str _,.bl _=>true
 | _,_=>false
def rEq :R2:=λx y H Q=>Dw x y=true/\Q (.bl (decide (x=y))) H
def rNe :R2:=λx y H Q=>Dw x y=true/\Q (.bl (!decide (x=y))) H
def rf {i j:Int}:decide (V.int i=V.int j)=(i == j):=by rw[Ow];simp
def vU {i j:Bool}:decide (V.bl i=V.bl j)=(i == j):=by rw[Ow];simp
def qV {i j:Str}:decide (V.str i=V.str j)=(i == j):=by rw[Ow];simp
def qO {i j:Array UInt8}:decide (V.byt i=V.byt j)=(i.toList == j.toList):=by rw[Ow];cases i;cases j;simp
section
variable {X:Cx}{a b c:RL}{tb tc:TE}
def v6 {O:St}{H:Hp}{s:RE}{Q:VK}{k k':Bool}(I:Inv X vv O H s)(q:Q (.bl k) H)(e:k=k'):EP X vv O Q (.bool k') s:=by subst e;exact⟨.bl k,H,I,rfl,q⟩
def CY :OpR X (compareOp .Eq) rEq:=by
 intro vv s O H x y v u Q I rx ry h;obtain⟨hs,q⟩:=h;cases x with
 | non =>
  cases rx;cases y with
  | non=>cases ry;exact PySem.EqNone.eq_none_none (v6 I q (by simp))
  | bl j=>cases ry;exact PySem.EqNone.eq_none_bool (v6 I q (by simp))
  | int j=>obtain⟨t',rfl⟩:=ry;exact PySem.EqNone.eq_none_int (v6 I q (by simp))
  | str j=>obtain⟨t',rfl⟩:=ry;exact PySem.EqNone.eq_none_str (v6 I q (by simp))
  | _=>exact absurd (show false=true from hs) Mz
 | bl i =>
  cases rx;cases y with
  | non=>cases ry;exact PySem.EqNone.eq_bool_none (v6 I q (by simp))
  | bl j=>cases ry;exact eq_bool (v6 I q vU)
  | str j=>obtain⟨t',rfl⟩:=ry;exact PySem.EqMixed.eq_bool_str (v6 I q (by simp))
  | _=>exact absurd (show false=true from hs) Mz
 | int i =>
  obtain⟨t,rfl⟩:=rx;cases y with
  | non=>cases ry;exact PySem.EqNone.eq_int_none (v6 I q (by simp))
  | int j=>obtain⟨t',rfl⟩:=ry;exact eq_int (v6 I q rf)
  | str j=>obtain⟨t',rfl⟩:=ry;exact PySem.EqMixed.eq_int_str (v6 I q (by simp))
  | _=>exact absurd (show false=true from hs) Mz
 | str i =>
  obtain⟨t,rfl⟩:=rx;cases y with
  | non=>cases ry;exact PySem.EqNone.eq_str_none (v6 I q (by simp))
  | bl j=>cases ry;exact PySem.EqMixed.eq_str_bool (v6 I q (by simp))
  | int j=>obtain⟨t',rfl⟩:=ry;exact PySem.EqMixed.eq_str_int (v6 I q (by simp))
  | str j=>obtain⟨t',rfl⟩:=ry;exact eq_str (v6 I q qV)
  | _=>exact absurd (show false=true from hs) Mz
 | byt i =>
  obtain⟨t,rfl⟩:=rx;cases y with
  | byt j=>obtain⟨t',rfl⟩:=ry;exact PySem.W.eq_bytes (v6 I q qO)
  | _=>exact absurd (show false=true from hs) Mz
 | _=>cases y <;> exact absurd (show false=true from hs) Mz
def DP :OpR X (compareOp .NotEq) rNe:=by
 intro vv s O H x y v u Q I rx ry h;obtain⟨hs,q⟩:=h;cases x with
 | non =>
  cases rx;cases y with
  | non=>cases ry;exact PySem.EqNone.ne_none_none (v6 I q (by simp))
  | bl j=>cases ry;exact PySem.EqNone.ne_none_bool (v6 I q (by simp))
  | int j=>obtain⟨t',rfl⟩:=ry;exact PySem.EqNone.ne_none_int (v6 I q (by simp))
  | str j=>obtain⟨t',rfl⟩:=ry;exact PySem.EqNone.ne_none_str (v6 I q (by simp))
  | _=>exact absurd (show false=true from hs) Mz
 | bl i =>
  cases rx;cases y with
  | non=>cases ry;exact PySem.EqNone.ne_bool_none (v6 I q (by simp))
  | bl j=>cases ry;exact ne_bool (v6 I q (Nn not vU))
  | str j=>obtain⟨t',rfl⟩:=ry;exact PySem.EqMixed.ne_bool_str (v6 I q (by simp))
  | _=>exact absurd (show false=true from hs) Mz
 | int i =>
  obtain⟨t,rfl⟩:=rx;cases y with
  | non=>cases ry;exact PySem.EqNone.ne_int_none (v6 I q (by simp))
  | int j=>obtain⟨t',rfl⟩:=ry;exact ne_int (v6 I q (Nn not rf))
  | str j=>obtain⟨t',rfl⟩:=ry;exact PySem.EqMixed.ne_int_str (v6 I q (by simp))
  | _=>exact absurd (show false=true from hs) Mz
 | str i =>
  obtain⟨t,rfl⟩:=rx;cases y with
  | non=>cases ry;exact PySem.EqNone.ne_str_none (v6 I q (by simp))
  | bl j=>cases ry;exact PySem.EqMixed.ne_str_bool (v6 I q (by simp))
  | int j=>obtain⟨t',rfl⟩:=ry;exact PySem.EqMixed.ne_str_int (v6 I q (by simp))
  | str j=>obtain⟨t',rfl⟩:=ry;exact ne_str (v6 I q (Nn not qV))
  | _=>exact absurd (show false=true from hs) Mz
 | byt i =>
  obtain⟨t,rfl⟩:=rx;cases y with
  | byt j=>obtain⟨t',rfl⟩:=ry;exact PySem.W.ne_bytes (v6 I q (Nn not qO))
  | _=>exact absurd (show false=true from hs) Mz
 | _=>cases y <;> exact absurd (show false=true from hs) Mz
def An :OpR X (compareOp .Lt) (rI0 λi j=>.bl (decide (i<j))):=AF λ_ _ _ _ _ _ _ q=>lt_int q
def Ad :OpR X (compareOp .Gt) (rI0 λi j=>.bl (decide (j<i))):=AF λ_ _ _ _ _ _ _ q=>gt_int q
def Ek :OpR X (compareOp .GtE) (rI0 λi j=>.bl (decide (j<=i))):=AF λ_ _ _ _ _ _ _ q=>ge_int q
def Bu :OpR X (compareOp .Is) (λx y H Q=>y = .non/\Q (.bl (decide (x = .non))) H):=by
 intro vv s O H x y v u Q I rx ry h;obtain⟨rfl,q⟩:=h;cases ry;refine is_none_gen (v6 I q ?_);cases x <;> first
  | (cases rx;rfl)
  | (obtain⟨t,rfl⟩:=rx;rfl)
def xW :OpR X (compareOp .IsNot) (λx y H Q=>y = .non/\Q (.bl (!decide (x = .non))) H):=by
 intro vv s O H x y v u Q I rx ry h;obtain⟨rfl,q⟩:=h;cases ry;refine isnot_none_gen (v6 I q ?_);cases x <;> first
  | (cases rx;rfl)
  | (obtain⟨t,rfl⟩:=rx;rfl)
def dZ (b:RL){op:CmpOp}(h:op ≠ .In:=by decide)(h2:op ≠ .NotIn:=by decide):behindInMarks op b=false:=by
 have e1:(op == CmpOp.In)=false:=by cases op <;> first | rfl | exact absurd rfl h
 have e2:(op == CmpOp.NotIn)=false:=by cases op <;> first | rfl | exact absurd rfl h2
 cases b <;> simp[behindInMarks,e1,e2]
def xZ {op:CmpOp}{r:R2}(ho:OpR X (compareOp op) r)(ha:PE X a ta)(hb:PE X b tb)(hm:behindInMarks op b=false):PE X (.Compare a [op] [b] pos) (tOp r ta tb):=by intro vv s O H Q I h;exact wpAny_Compare1 (Az ha hb I h λv u s2 x y H2 I2 rx ry q=>ho vv s2 O H2 x y v u Q I2 rx ry q) hm
def Ag (t:TE):TT:=λO H Q=>t O H λx H'=>∃k,x = .bl k/\Q k H'
def dg {op:CmpOp}{r:R2}(ho:OpR X (compareOp op) r)(ha:PE X a ta)(hb:PE X b tb)(hm:behindInMarks op b=false):PT X (.Compare a [op] [b] pos) (Ag (tOp r ta tb)):=by
 intro vv s O H Q I h;refine wpAny_isTrue_Compare1 (thn (ha vv s O H _ I h) λv s1 ⟨x,H1,I1,r1,q1⟩=>thn (hb vv s1 O H1 _ I1 q1) λu s2 ⟨y,H2,I2,r2,q2⟩ =>
  thn (ho vv s2 O H2 x y v u _ I2 r1 r2 q2) λc s3 ⟨z,H3,I3,r3,k,e,q3⟩=>?_) hm
 subst e;cases r3;exact Oc ⟨H3,I3,q3⟩
def uL (K:Fg)(x:V)(H:Hp)(k:Bool):Prop :=
 match x with
 | .non=>k=false
 | .bl b=>k=b
 | .int i=>k=(i != 0)
 | .str y=>y.length<=RN/\k=((y.length:Int) != 0)
 | .byt y=>y.size<=RN/\k=((y.size:Int) != 0)
 | .ref p=>(∃xs,SqL K H p xs/\k = !xs.isEmpty)\/(∃xs,SqT K H p xs/\k = !xs.isEmpty)\/∃Sj,H p=some (.dK Sj)/\k = !Sj.isEmpty
 | _=>False
def nM {κ:Type}{Sj:List (κ×V)}{vs:List (κ×RC)}(r:KV Sj vs):(!vs.isEmpty) = !Sj.isEmpty:=by cases r <;> rfl
def gZ {xs:List V}{its:List RC}(r:p8 xs its):(!its.toArray.isEmpty) = !xs.isEmpty:=by cases r <;> simp
def eG :(RN:Nat)<2 ^ 63:=by rw[MQ];decide
def BQ :Ey X (λx H Q=>∃k,uL X.K x H k/\Q k H):=by
 intro vv s O H x v Q I rx h;obtain⟨k,e,q⟩:=h;have hl:=eG;have hs:RN=16777216:=MQ;cases x with
 | non =>cases rx;have e':k=false:=e;subst e';exact truthy_none ⟨H,I,q⟩
 | bl b =>cases rx;have e':k=b:=e;subst e';exact Oc ⟨H,I,q⟩
 | int i =>obtain⟨t,rfl⟩:=rx;have e':k=(i != 0):=e;subst e';exact PySem.P.truthy_int ⟨H,I,q⟩
 | str y =>obtain⟨t,rfl⟩:=rx;obtain⟨hy,e'⟩:y.length<=RN/\k=((y.length:Int) != 0):=e;subst e';exact PySem.P.truthy_str (by omega) ⟨H,I.tok _,q⟩
 | byt y =>obtain⟨t,rfl⟩:=rx;obtain⟨hy,e'⟩:y.size<=RN/\k=((y.size:Int) != 0):=e;subst e';exact PySem.W.truthy_bytes (by omega) ⟨H,I.tok _,q⟩
 | ref p =>
  cases rx;have e':(∃xs,SqL X.K H p xs/\k = !xs.isEmpty)\/(∃xs,SqT X.K H p xs/\k = !xs.isEmpty)\/∃Sj,H p=some (.dK Sj)/\k = !Sj.isEmpty:=e;rcases e' with ⟨xs,hx,e'⟩ | ⟨xs,hx,e'⟩ | ⟨Sj,hx,e'⟩
  .subst e';obtain⟨its,r,pl,hz⟩:=I.list hx;have hlen:=r.length;exact wpAny_truthy_list pl.isList (by simp only[Mr];omega) ⟨H,I.tok _,by rw[gZ r];exact q⟩
  .subst e';obtain⟨its,r,pl,hz⟩:=I.tuple hx;have hlen:=r.length;exact truthy_tuple pl (by simp only[Mr];omega) ⟨H,I.tok _,by rw[gZ r];exact q⟩
  .subst e';obtain⟨hz,hS,vs,r,m⟩:Sj.length<=RN/\(p == sysModules)=false/\∃vs,KV Sj vs/\s.heap.DictOf (C8 X.prog X.w) p vs:=I.hok p _ hx;have hlen:Sj.length=vs.length:=Pz r;exact wpAny_truthy_dict hS m (by omega) ⟨H,I.tok _,by rw[nM r];exact q⟩
 | _=>exact(show False from e).elim
def wG (ha:PE X a ta)(he:∀whole,isTrue a X.env whole=(do let v <-whole;standAt a.pos;holding [v] (truthy v))) :
  PT X a (λO H Q=>ta O H λx H'=>∃k,uL X.K x H' k/\Q k H'):=by intro vv s O H Q I h;exact isTrue_plain (thn (ha vv s O H _ I h) λv s1 ⟨x,H1,I1,r1,q1⟩=>BQ vv s1 O H1 x v Q I1 r1 q1) (he _)
def pz :OpR X (binaryOp .Add) (λx y H Q=>∃i j,x = .str i/\y = .str j/\i.length+j.length<=RN/\Q (.str (i++j)) H):=by intro vv s O H x y v u Q I rx ry h;obtain⟨i,j,rfl,rfl,hz,q⟩:=h;obtain⟨t,rfl⟩:=rx;obtain⟨t',rfl⟩:=ry;exact add_str (λt' tk=>⟨.str (i++j),H,I.tok _,⟨_,rfl⟩,q⟩) hz
def K0 {x:V}{us:List RC}(r:p8 [x] us):∃u,us=[u]/\u4 x u:=by
 cases r with
 | cons r1 r2=>cases r2;exact⟨_,rfl,r1⟩
def DC {x y:V}{us:List RC}(r:p8 [x,y] us):∃u w',us=[u,w']/\u4 x u/\u4 y w':=by
 cases r with
 | cons r1 r2 =>
  cases r2 with
  | cons r3 r4=>cases r4;exact⟨_,_,rfl,r1,r3⟩
def wt :A8 X (.builtin "abs") (λxs H Q=>∃i,xs=[.int i]/\Q (.int (if i<0 then -i else i)) H):=by intro vv s O H xs us Q I r h;obtain⟨i,rfl,q⟩:=h;obtain⟨u,rfl,t,rfl⟩:=K0 r;exact call_abs_int λu tk=>⟨.int (if i<0 then -i else i),H,I.tok _,⟨_,rfl⟩,q⟩
def sY (hc:X.calm=true):A8 X (.builtin "min") (λxs H Q=>∃i j,xs=[.int i,.int j]/\Q (.int (if j<i then j else i)) H):=by
 walk_at "kz";obtain⟨i,j,rfl,q⟩:=h;obtain⟨u,w',rfl,⟨t,rfl⟩,⟨t',rfl⟩⟩:=DC r;refine min_two_ints (I.ok.hd hc) λh' tk k=>⟨_,H,I.kept k,?_,q⟩
 by_cases hj:j<i
 .rw[Mb hj,Mb hj];exact⟨_,rfl⟩
 .rw[Md hj,Md hj];exact⟨_,rfl⟩
def iM :A8 X (.type "int") (λxs H Q=>(∃i,xs=[.int i]/\Q (.int i) H)\/∃k,xs=[.bl k]/\Q (.int (if k then 1 else 0)) H):=by
 walk_at "kz";rcases h with ⟨i,rfl,q⟩ | ⟨k,rfl,q⟩
 .obtain⟨u,rfl,t,rfl⟩:=K0 r;exact call_int_int ⟨.int i,H,I,⟨_,rfl⟩,q⟩
 .obtain⟨u,rfl,r1⟩:=K0 r;cases r1;exact call_int_bool ⟨.int (if k then 1 else 0),H,I.tok _,⟨_,rfl⟩,q⟩
end
end
variable {C:RD}
section
section
variable {prog:RF}{w:RG}{A:RH}{E:RC->RE->Prop}{s:RE}{K:Fg}{x dx f:RD}{mA:Str->Option RC}{name:Str}{v:RC}
end
def df.some_of {v:V}{o:Option RC}(r:df (some v) o):∃u,o=some u/\u4 v u:=by
 cases o with
 | none=>exact(show False from r).elim
 | some u=>exact⟨u,rfl,r⟩
section
variable {P:RF}{w:RG}{H H':Hp}{h:RM}{a dx:RD}{fs fs':List (Str×V)}
end
section
variable {X:Cx}{O:St}{H:Hp}{s:RE}{a dx:RD}{fs:List (Str×V)}{f:Str}{v:V}{A:RH}{E:RC->RE->Prop}
end
section
variable {X:Cx}{o e value:RL}{f:Str}{pos' tpos:Pos}{tv:TE}
end
section
variable {X:Cx}{O:St}{H:Hp}{s:RE}{A:RH}{E:RC->RE->Prop}{Q:RC->RE->Prop}{c:RC}{b:Bool}
end
end
variable {kindOf:Str->Option Sd}
section
structure Room (k:Nat) (A:RH):Prop where
 hd:A.handled=none
 dp:A.depth+3*k+5<recursionLimit
 un:A.units+16*k+200<Sa
 gd:A.guards=some []
def Room.mono {j k:Nat}{A:RH}(r:Room k A)(h:j<=k):Room j A:=⟨r.hd,by have:=r.dp;omega,by have:=r.un;omega,r.gd⟩
def Room.deeper {k:Nat}{A:RH}(r:Room (k+1) A)(env:RQ):Room k (A.deeper env) :=
 ⟨r.hd,by have:=r.dp;show A.depth+1+3*k+5<_;omega,by have:=r.un;show A.units+3+16*k+200<_;omega,r.gd⟩
def Room.depth {k:Nat}{A:RH}(r:Room k A):A.depth<recursionLimit:=by have:=r.dp;omega
def Room.units {k:Nat}{A:RH}(r:Room k A):A.units+64<Sa:=by have:=r.un;omega
def Room.units0 {k:Nat}{A:RH}(r:Room k A):A.units<Sa:=by have:=r.un;omega
def bY :TA:=λ_ H Q=>Q [] H
def N8 (ta:TE)(tr:TA):TA:=λO H Q=>ta O H λx H1=>tr O H1 λxs H2=>Q (x::xs) H2
section
variable {X:Cx}{e:RL}{t:TA}
def J6 :PA X [] bY:=λ_ _ _ _ H Q I h=>Calls.spliced_nil ⟨[],H,I,.nil,h⟩
def A3 (ha:PE X e te)(hr:PA X es t)(hs:RO (e::es) X.env=(false,eval e X.env)::RO es X.env:=by rfl):PA X (e::es) (N8 te t):=by intro pos vv s O H Q I h;rw[hs];show RT _ _ (spliced ((false,eval e X.env)::RR pos (RO es X.env))) _ _ s;refine Rb (thn (ha vv s O H _ I h) λu s1 ⟨x,H1,I1,r1,q1⟩=>?_);exact thn (hr pos vv s1 O H1 _ I1 q1) λus s2 ⟨xs,H2,I2,r2,q2⟩=>⟨x::xs,H2,I2,.cons r1 r2,q2⟩
def Bq (t:TA):TE:=λO H Q=>t O H λxs H1=>xs.length<=RN/\∀p,H1 p=none->Q (.ref p) (upd H1 p (.tup xs))
def zp (t:TA):TE:=λO H Q=>t O H λxs H1=>xs.length<=RN/\∀p,H1 p=none->Q (.ref p) (upd H1 p (.lst xs))
def uZ {x1}(h:PA X es t):PE X (.Tuple es x1 pos) (Bq t):=by intro vv s O H Q I hq;refine wpAny_Tuple_spliced (thn (h pos vv s O H _ I hq) λus s1 ⟨xs,H1,I1,r,z,q⟩=>⟨by rw[<-r.length];exact z,?_⟩);have hf:H1 s1.heap.objs.size=none:=I1.hok.fresh (Mh _);refine⟨.ref s1.heap.objs.size,upd H1 s1.heap.objs.size (.tup xs),I1.laid (t':=s1.toks) (λb u e=>LZ _ e) (Mh _) ?_,rfl,q _ hf⟩;exact⟨z,us,r,⟨_,Mp _ rfl,rfl,_,rfl⟩⟩
def jH (h:PA X es t):PE X (.List es pos) (zp t):=by intro vv s O H Q I hq;refine wpAny_List_spliced (thn (h pos vv s O H _ I hq) λus s1 ⟨xs,H1,I1,r,z,q⟩=>⟨by rw[<-r.length];exact z,?_⟩);have hf:H1 s1.heap.objs.size=none:=I1.hok.fresh (Mh _);refine⟨.ref s1.heap.objs.size,upd H1 s1.heap.objs.size (.lst xs),I1.laid (t':=s1.toks) (λb u e=>LZ _ e) (Mh _) ?_,rfl,q _ hf⟩;exact⟨z,us,0,r,Mp _ rfl⟩
end
abbrev Sp :=List V->Hp->VK->XK->Prop
abbrev CXT :=List RQ->Hp->RE->XK->RC->RE->Prop
structure Env0 (P:RF) (w:RG) (K:Fg) (mg:Str->Option RC) (base:RM) (A:RH) (outer:List RQ) (s:RE) (H:Hp):Prop where
 frames:A.frames=some outer
 mod:Mod K mg base
 bs:∀b o,base.get? b=some o->s.heap.get? b=some o/\H b=none
 bsz:base.objs.size<=s.heap.objs.size
 funs:s.heap.FunFrames base outer
 frf:∀b∈frs outer,H b=none
 hok:HOk P w H s.heap
 bare:AllBare s.gens
def CE (outer:List RQ)(P:RF)(w:RG)(H:Hp)(s:RE)(Q:VK)(u:RC)(s':RE):Prop :=
 ∃v H',s'.os=s.os/\AllBare s'.gens/\Un (frs outer) [] H H' s.heap s'.heap/\HOk P w H' s'.heap/\u4 v u/\Q v H'
def CR (CX:CXT)(outer:List RQ)(P:RF)(w:RG)(H:Hp)(s:RE)(Q:VK)(E:XK)(r:Result)(s':RE):Prop :=
 match r with
 | .ok (.ret u)=>CE outer P w H s Q u s'
 | .ok _=>False
 | .error e=>CX outer H s E e s'
structure FnOk (P:RF) (w:RG) (K:Fg) (mg:Str->Option RC) (base:RM) (CX:CXT) (k:Nat) (f:RD) (fd:RJ) (ps:List Str) (sp:Sp):Prop where
 len:∀vs H Q E,sp vs H Q E->vs.length=ps.length
 run:∀(A:RH) (outer:List RQ) (s:RE) (H:Hp) (args:Args) (us:List RC) (vs:List V) (Q:VK) (E:XK),Room k A->Env0 P w K mg base A outer s H->BindsTo s fd args (ps.zip us)->p8 vs us->sp vs H Q E ->
  codeAny (model P w) A (.call (.ref f) args) (CR CX outer P w H s Q E) s
section
variable {X:Cx}{O:St}{H:Hp}{s s':RE}
def Inv.env0 (I:Inv X vv O H s):Env0 X.prog X.w X.K X.mg X.base X.A X.stack s H :=
 ⟨I.ok.frames,I.ok.mod,I.bs,MK I.ok.bsz I.sz,I.stack,I.stkFree,I.hok,I.bare⟩
def Inv.after {Q:VK}{u:RC}(I:Inv X vv O H s)(h:CE X.stack X.prog X.w H s Q u s'):EP X vv O Q u s':=by obtain⟨v,H',os,bare,un,hok,r,q⟩:=h;obtain⟨hh,g,d,t,os'⟩:=s';obtain rfl:os'=s.os:=os;exact⟨v,H',I.call (h':=hh) (g':=g) (d':=d) (t':=t) (ch:=[]) un hok bare (λb z=>absurd z (by simp)),r,q⟩
end
def mN (sp:Sp)(dvs:List V)(E:XK)(t:TA):TE:=λO H Q=>t O H λvs H1=>sp (vs++dvs) H1 Q E
def fm (K:Fg)(fd:RJ)(ps:List Str)(ds:List RC):Prop :=
 ∀(s:RE) (us:List RC),K.In s.heap->(us++ds).length=ps.length->BindsTo s fd ⟨us,[]⟩ (ps.zip (us++ds))
def fm.all {K:Fg}{fd:RJ}{ps:List Str}(h:∀us:List RC,us.length=ps.length->bindArgs fd ⟨us,[]⟩=pure (ps.zip us)):fm K fd ps []:=λs us _ hl=>by rw[NC]at hl ⊢;exact .of_eq (h us hl)
def pK (CX:CXT)(X:Cx)(E:XK):Prop:=∀(vv:List (RD×RP)) (O:St) (H:Hp) (s:RE) (e:RC) (s':RE),Inv X vv O H s->CX X.stack H s E e s'->X.xe e s'
section
variable {X:Cx}{CX:CXT}{k:Nat}{f:RD}{fd:RJ}{ps:List Str}{sp:Sp}{dvs:List V}{ds:List RC}{E:XK}{x m:Str}{p apos:Pos}{e o:RL}{t:TA}
def xu {O:St}{H:Hp}{s:RE}{Q:VK}{us:List RC}{vs:List V}(F:FnOk X.prog X.w X.K X.mg X.base CX k f fd ps sp)(hr:Room k X.A)(hb:fm X.K fd ps ds)(hd:p8 dvs ds)(hx:pK CX X E)
  (I:Inv X vv O H s) (r:p8 vs us) (h:sp (vs++dvs) H Q E):RT (model X.prog X.w) X.A (call (.ref f) us) (EP X vv O Q) X.xe s:=by
 have r2:p8 (vs++dvs) (us++ds):=r.append hd;have hl:(us++ds).length=ps.length:=by rw[<-r2.length];exact F.len _ _ _ _ h
 refine wpAny_call (codeAny_mono (F.run X.A X.stack s H ⟨us,[]⟩ (us++ds) (vs++dvs) Q E hr I.env0 (hb s us I.kIn hl) r2 h) λr s' hq=>?_);cases r with
 | error e=>exact hx vv O H s e s' I hq
 | ok fl =>
  cases fl with
  | ret u=>exact I.after hq
  | next=>exact False.elim hq
  | brk=>exact False.elim hq
  | cont=>exact False.elim hq
def zx (F:FnOk X.prog X.w X.K X.mg X.base CX k f fd ps sp)(hr:Room k X.A)(hg:Gl X x)(hm:X.mg x=some (.ref f))(hk:PySem.W.keepIn X.K (.ref f)=true)(hb:fm X.K fd ps ds)(hd:p8 dvs ds)(hx:pK CX X E)
  (ha:PA X (e::es) t) (hdb:(x == ("__debug__":Str))=false:=by decide) (he:RO (e::es) X.env=(false,eval e X.env)::RO es X.env:=by rfl) (hpl:(RR pos (RO es X.env)).any (·.1)=false:=by rfl) :
  PE X (.Call (.Name x p) (e::es) [] pos) (mN sp dvs E t):=by intro vv s O H Q I h;refine PL (kz I hg hm ?_ hdb);refine PySem.W.callWith_K (h₀:=X.base) I.ok.mod.kin hk (thn (ha pos vv s O H _ I h) λus s1 ⟨vs,H1,I1,r,q⟩=>⟨I1.kIn,?_⟩) he hpl;exact xu F hr hb hd hx I1 r q
end
section
variable {X:Cx}{CX:CXT}{k:Nat}{f:RD}{fd:RJ}{ps ks:List Str}{sp:Sp}{E:XK}{x m:Str}{p apos kpos:Pos}{e o:RL}{kws:List RS}{t tk:TA}{nm:Option Str}
variable {g:List RC->List RC->List RC}{gV:List V->List V->List V}
end
structure FnScope (N P:List Str) (sc:RI):Prop where
 kind:sc.kind = .function:=by rfl
 co:sc.isCoroutine=false:=by rfl
 gen:sc.isGenerator=false:=by rfl
 nd:N.Nodup:=by decide +kernel
 pre:N.take P.length=P:=by rfl
 par:∀x∈P,sc.names.lookup x=some .local\/sc.names.lookup x=some .cell:=by decide +kernel
 nofree:∀y∈sc.names,y.2 ≠ .free:=by decide +kernel
theorem jh {kindOf:Str->Option Sd}{x:Str}:∀{binds:List (Str×RC)} {m:Str->Option RC},(∀v,(x,v) ∉ binds)->bindL kindOf binds m x=m x
 | [],_,_=>rfl
 | (n,v)::r,m,h=>by
  unfold bindL;rw[jh λw hw=>h w (Mc _ hw)];split
  .have:x≠n:=by rintro rfl;exact h v Me
   simp[this]
  .rfl
theorem iN {kindOf:Str->Option Sd}{x:Str}:∀{binds:List (Str×RC)} {m:Str->Option RC},(∀v,(x,v) ∉ binds)->bindC kindOf binds m x=m x
 | [],_,_=>rfl
 | (n,v)::r,m,h=>by
  unfold bindC;rw[iN λw hw=>h w (Mc _ hw)];split
  .rfl
  .have:x≠n:=by rintro rfl;exact h v Me
   simp[this]
def jr {x:Str}{v:RC}:∀{P:List Str} {vs:List RC} {i:Nat} {m:Str->Option RC},P.Nodup->P[i]? = some x->vs[i]? = some v->kindOf x=some .local ->
  bindL kindOf (P.zip vs) m x=some v
 | [],_,_,_,_,h,_,_=>by simp at h
 | _::_,[],_,_,_,_,h,_=>by simp at h
 | p::P,w::vs,0,m,nd,h1,h2,hk=>by
  simp at h1 h2;subst h1;subst h2;show bindL kindOf ((p,w)::P.zip vs) m p=_;unfold bindL;rw[jh λv hv=>(Ox.1 nd).1 (Ry hv).1,Mb hk];simp
 | p::P,w::vs,i+1,m,nd,h1,h2,hk=>by show bindL kindOf ((p,w)::P.zip vs) m x=_;unfold bindL;exact jr (i:=i) (Ox.1 nd).2 (by simpa using h1) (by simpa using h2) hk
def jq {x:Str}{v:RC}:∀{P:List Str} {vs:List RC} {i:Nat} {m:Str->Option RC},P.Nodup->P[i]? = some x->vs[i]? = some v->kindOf x≠some .local ->
  bindC kindOf (P.zip vs) m x=some v
 | [],_,_,_,_,h,_,_=>by simp at h
 | _::_,[],_,_,_,_,h,_=>by simp at h
 | p::P,w::vs,0,m,nd,h1,h2,hk=>by
  simp at h1 h2;subst h1;subst h2;show bindC kindOf ((p,w)::P.zip vs) m p=_;unfold bindC;rw[iN λv hv=>(Ox.1 nd).1 (Ry hv).1,Md hk];simp
 | p::P,w::vs,i+1,m,nd,h1,h2,hk=>by show bindC kindOf ((p,w)::P.zip vs) m x=_;unfold bindC;exact jq (i:=i) (Ox.1 nd).2 (by simpa using h1) (by simpa using h2) hk
def T7 (N:List Str)(vs:List V):St:=vs.map some++List.replicate (N.length-vs.length) none
def U1 (CX:CXT)(P:RF)(w:RG)(K:Fg)(mg:Str->Option RC)(base:RM)(N:List Str)(qual:Str)(scope:RI)(f:RD)(cd:RC)(A:RH)(outer:List RQ)(s:RE)(H:Hp)(E:XK):Cx where
 prog:=P
 w:=w
 K:=K
 mg:=mg
 base:=base
 A:=A.deeper (envOfC qual scope s.heap.objs.size f cd)
 N:=N
 s₀:=s
 H₀:=H
 env:=envOfC qual scope s.heap.objs.size f cd
 outer:=outer
 stack:=envOfC qual scope s.heap.objs.size f cd::outer
 ex:=[]
 calm:=true
 fn:=λ_=>true
 pn:=[]
 xe:=λe s'=>RT (model P w) (A.deeper (envOfC qual scope s.heap.objs.size f cd)) (leaving (envOfC qual scope s.heap.objs.size f cd) e) (λ_ s''=>CX outer H s E e s'') (λe' s''=>CX outer H s E e' s'') s'
def lV {sc:RI}{n:Nat}{x:Str}(h:sc.names.lookup x=some .cell):∃c,(cellsFrom n sc.names []).lookup x=some c:=by have q:=Pi sc.names n [] (.inl h);exact Np.1 q
def rA {CX:CXT}{P:RF}{w:RG}{K:Fg}{mg:Str->Option RC}{base:RM}{N ps:List Str}{qual:Str}{scope:RI}{f:RD}{cd:RC}{A:RH}{outer:List RQ}{s s1:RE}{H:Hp}{E:XK}{us:List RC}{vs:List V}
  (S:FnScope N ps scope) (hd:A.handled=none) (e0:Env0 P w K mg base A outer s H) (hl:vs.length=ps.length) (r:p8 vs us)
  (x:InCallC s s.heap.objs.size (bindL (envOfC qual scope s.heap.objs.size f cd).kindOf (ps.zip us) λ_=>none) (cellsFrom (s.heap.objs.size+1) scope.names []) (bindC (envOfC qual scope s.heap.objs.size f cd).kindOf (ps.zip us) λ_=>none) s1) :
  Inv (U1 CX P w K mg base N qual scope f cd A outer s H E) [] (T7 N vs) H s1:=by
 have hpl:ps.length<=N.length:=by have:=Nn List.length S.pre;rw[MX]at this;omega
 obtain⟨h1,tk,rfl,hk⟩:=x.done;have noA:∀b:RD,b ∉ (U1 CX P w K mg base N qual scope f cd A outer s H E).ex:=λb z=>absurd (show b∈([]:List RD) from z) (by simp)
 refine⟨⟨e0.mod,S.kind,rfl,rfl,Mh _,λy z c h1 h2=>?_,λy hy=>?_,λy c _ h=>?_,λ_=>hd,RH.frames_deeper e0.frames,.inr ⟨rfl,rfl⟩,λb z=>absurd z (noA b),e0.bs,e0.bsz,λb _ _=>noA b,λb z=>absurd z (noA b),e0.funs,e0.frf⟩,
  rfl,e0.bare,Un.kept hk,⟨_,x.toInCall.ns,λi y v h1 h2 h3=>?_⟩,λy c h=>⟨_,x.cell y c h⟩,e0.hok.fresh (Mh _),λy c h=>?_,λp hp=>absurd (show p∈([]:List (RD×RP)) from hp) (by simp),e0.hok.kept hk,?_⟩
 .exact name_of_addr x.apart (Na h1) (Na h2)
 .have hy:scope.names.lookup y=some .cell\/scope.names.lookup y=some .free:=hy;rcases hy with hy | hy
  .exact lV hy
  .exact absurd rfl (S.nofree _ (Na hy))
 .exact Ov (x.above y c (Na h))
 .have hi:i<vs.length:=by
   unfold T7 at h2;by_cases hi:i<vs.length
   .exact hi
   .rw[Oj (by simpa using hi)]at h2;rw[NG]at h2;split at h2 <;> cases h2
  have ha:vs[i]? = some v:=by
   unfold T7 at h2;rw[Ou (by simpa using hi),Mt]at h2;cases e:vs[i]? with
   | none=>rw[e]at h2;cases h2
   | some a=>rw[e]at h2;cases h2;rfl
  obtain⟨u,hu,rv⟩:=r.get ha;have hp:ps[i]? = some y:=by rw[<-S.pre,List.getElem?_take_of_lt (by omega)];exact h1
  have ndP:ps.Nodup:=by rw[<-S.pre];exact S.nd.sublist (List.take_sublist _ _)
  refine⟨u,rv,?_⟩;rcases S.par y (MU hp) with k | k
  .exact .inl ⟨k,jr ndP hp hu k⟩
  .obtain⟨c,e⟩:=lV (n:=s.heap.objs.size+1) k;refine .inr ⟨.inl k,c,e,?_⟩;have q:=x.cell y c e;rw[jq ndP hp hu (by show scope.names.lookup y≠_;rw[k];decide)]at q;exact q
 .exact e0.hok.fresh (Ov (x.above y c (Na h)))
 .unfold T7;show _=N.length;rw[MS,LX,NY];omega
def zH {CX:CXT}{P:RF}{w:RG}{K:Fg}{mg:Str->Option RC}{base:RM}{k:Nat}{f:RD}{name qual:Str}{params:Arguments}{scope:RI}{dV kV doc pm Si ct oc:RC}{an od:Option RD}
  {osl:Array (Option RC)} {N ps:List Str} {sp:Sp} (lk:K.lookup f=some ⟨oc,od,.func (PySem.W.fnOf name qual params body scope dV kV doc pm an Si ct),osl⟩) (hcd:PySem.W.codeIn K Si qual=true) (S:FnScope N ps scope)
  (len:∀vs H Q E,sp vs H Q E->vs.length=ps.length)
  (hbody:∀(A:RH) (outer:List RQ) (s:RE) (H:Hp) (vs:List V) (Q:VK) (E:XK),Room k (A.deeper (envOfC qual scope s.heap.objs.size f Si))->sp vs H Q E ->
   ∃t,PSs (U1 CX P w K mg base N qual scope f Si A outer s H E) body t/\t { nx:=λ_ H'=>Q .non H',rt:=Q } (T7 N vs) H) :
  FnOk P w K mg base CX (k+1) f (PySem.W.fnOf name qual params body scope dV kV doc pm an Si ct) ps sp:=by
 refine⟨len,λA outer s H args us vs Q E hr e0 hb r hsp=>?_⟩;have hl:=len _ _ _ _ hsp;have KX:K.In s.heap:=e0.mod.kin.keeps λb o e=>(e0.bs b o e).1
 have lim:s.heap.NoLimit:=e0.mod.nolimit.keeps λb o e=>(e0.bs b o e).1
 have hkind:∀y∈ps.zip us,scope.names.lookup y.1=some .local\/(scope.names.lookup y.1=some .cell/\((cellsFrom (s.heap.objs.size+1) scope.names []).lookup y.1).isSome=true):=λ⟨n,v⟩ hy=>by
  rcases S.par n (Ry hy).1 with q | q
  .exact .inl q
  .exact .inr ⟨q,Pi _ _ _ (.inl q)⟩
 refine codeAny_call_function hr.depth (KX _ _ lk) rfl S.co S.gen rfl (PySem.W.codeRec_of KX hcd) (hb _ _ _ _ ?_);refine wpAny_newFunctionEnv_cells S.kind hkind λenv he s1 x=>?_
 subst he;refine⟨lim.keeps x.toInCall.keep,codeAny_func ?_⟩;obtain⟨t,ht,hq⟩:=hbody A outer s H vs Q E (hr.deeper _) hsp;have I:Inv (U1 CX P w K mg base N qual scope f Si A outer s H E) [] (T7 N vs) H s1:=rA S hr.hd e0 hl r x;refine MR (ht [] s1 (T7 N vs) H _ I hq) (λfl s' hs=>?_) λe s' hs=>hs
 have fin:∀{O':St} {H':Hp} {v:V} {u:RC},Inv (U1 CX P w K mg base N qual scope f Si A outer s H E) [] O' H' s'->u4 v u->Q v H'->CE outer P w H s Q u s' :=
  λ{O' H' v u} J rv q=>⟨v,H',J.os,J.bare,J.base,J.hok,rv,q⟩
 cases fl with
 | ret u =>obtain⟨v,O',H',J,rv,q⟩:=hs;exact fin J rv q
 | next =>obtain⟨O',H',J,q⟩:=hs;exact fin (v:=V.non) (u:=RC.none) J rfl q
 | brk =>obtain⟨_,_,_,q⟩:=hs;exact False.elim q
 | cont =>obtain⟨_,_,_,q⟩:=hs;exact False.elim q
end
section
section
variable {X:Cx}{x:Str}{p:Pos}{e:RL}{t:TA}{id T:String}{r:List V->Hp->VK->Prop}
def tCB (r:List V->Hp->VK->Prop)(t:TA):TE:=λO H Q=>t O H λvs H1=>r vs H1 Q
def hX (hc:A8 X (.builtin id) r)(hg:Gl X x)(hm:X.mg x=none)(hv:RX x=some (.builtin id))(ha:PA X (e::es) t)(hn:x ≠ "__name__":=by decide)(hdb:(x == ("__debug__":Str))=false:=by decide)
  (he:RO (e::es) X.env=(false,eval e X.env)::RO es X.env:=by rfl) (hpl:(RR pos (RO es X.env)).any (·.1)=false:=by rfl):PE X (.Call (.Name x p) (e::es) [] pos) (tCB r t):=by intro vv s O H Q I h;refine PL (cy I hg hm hv ?_ hn hdb);exact PyProof.Rows.callWith_builtin1 (thn (ha pos vv s O H _ I h) λus s1 ⟨vs,H1,I1,r1,q1⟩=>hc vv s1 O H1 vs us Q I1 r1 q1) he hpl
def X1 (hc:A8 X (.type T) r)(hg:Gl X x)(hm:X.mg x=none)(hv:RX x=some (.type T))(ha:PA X (e::es) t)(hn:x ≠ "__name__":=by decide)(hdb:(x == ("__debug__":Str))=false:=by decide)
  (he:RO (e::es) X.env=(false,eval e X.env)::RO es X.env:=by rfl) (hpl:(RR pos (RO es X.env)).any (·.1)=false:=by rfl):PE X (.Call (.Name x p) (e::es) [] pos) (tCB r t):=by intro vv s O H Q I h;refine PL (cy I hg hm hv ?_ hn hdb);exact Of (thn (ha pos vv s O H _ I h) λus s1 ⟨vs,H1,I1,r1,q1⟩=>hc vv s1 O H1 vs us Q I1 r1 q1) he hpl
end
end
end L2
namespace HT
open PySem PyProof.Rows
section
open PySem.SeqAt
open PySem.AutoSeq1 (wpAny_loadPart')
open PySem.MeetsSeq PySem.MeetsSeq2 PySem.MeetsSeq3
end
section
variable {prog:RF}{w:RG}{A:RH}{E:RC->RE->Prop}{s:RE}
def cat_tup {t b:RD}{vs ws:List RC}{Q:RC->RE->Prop}(ht:IsTup s.heap t vs.toArray)(hb:IsTup s.heap b ws.toArray)(hv:vs≠[])
  (h1:ws=[]->Q (.ref t) s) (h2:ws≠[]->Q (.ref s.heap.objs.size) { s with heap:=s.heap.push { cls:=.type "tuple",data:=.seq (vs++ws).toArray } })
  (hsz:vs.length+ws.length<=RN):RT (model prog w) A (binaryOp .Add (.ref t) (.ref b)) Q E s:=by
 obtain⟨⟨cls,dd,data,sl⟩,ho,hc,n,hd⟩:=id ht;obtain⟨⟨cls2,dd2,data2,sl2⟩,ho2,hc2,n2,hd2⟩:=id hb;simp only at hc hd hc2 hd2;subst hc hd hc2 hd2;have e:vs.toArray++ws.toArray=(vs++ws).toArray:=by simp
 by_cases hw:ws=[]
 .exact concat_meets ⟨_,ho,rfl⟩ ⟨_,ho2,rfl⟩ noFill_tuple_add seq_tuple_add Qt Qh (PN _ _)
   (tuple_addW1 t b vs.toArray ws.toArray n n2 dd dd2 sl sl2 (by simpa using hv) (by simp[hw])) ⟨ho,ho2,h1 hw⟩
 .refine concat_meets ⟨_,ho,rfl⟩ ⟨_,ho2,rfl⟩ noFill_tuple_add seq_tuple_add Qt Qh (PN _ _)
   (tuple_addW2 t b vs.toArray ws.toArray n n2 dd dd2 sl sl2 (by simpa using hv) (by simpa using hw) (by rw[Mr,Mr];exact hsz)) ⟨ho,ho2,?_⟩
  rw[e];exact h2 hw
def sIx (n d:Nat):Option Int->Nat
 | none=>d
 | some v=>if v<0 then(v+(n:Int)).toNat else min v.toNat n
def sIx_none (n d:Nat):sIx n d none=d:=rfl
def sIx_nat (n d k:Nat):sIx n d (some (k:Int))=min k n:=by show(if (k:Int)<0 then((k:Int)+(n:Int)).toNat else min (k:Int).toNat n)=min k n;rw[Md (by omega),Od]
def AE (n d:Nat)(hd:d<=n)(o:Option Int):sIx n d o<=n:=by
 cases o with
 | none=>exact hd
 | some v =>
  show(if v<0 then(v+(n:Int)).toNat else min v.toNat n)<=n;by_cases hv:v<0
  .rw[Mb hv];omega
  .rw[Md hv];exact Nat.min_le_right _ _
def qD (v:Int)(n d:Nat):(if v<0 then max (v+(n:Int)) 0 else min v (n:Int))=((sIx n d (some v):Nat):Int):=by
 show(if v<0 then max (v+(n:Int)) 0 else min v (n:Int))=(((if v<0 then(v+(n:Int)).toNat else min v.toNat n):Nat):Int);by_cases hv:v<0
 .simp only[Mb hv];omega
 .simp only[Md hv];omega
def pN (lo hi:Option Int)(n:Nat):Builtin.Slice.sliceAdjust lo hi 1 (n:Int)=(((sIx n 0 lo:Nat):Int),((sIx n n hi:Nat):Int)):=by
 have h1:¬((1:Int)<0):=by omega
 unfold Builtin.Slice.sliceAdjust;simp only[h1,Nf];refine PP ?_ ?_
 .cases lo with
  | none=>rfl
  | some v=>exact qD v n 0
 .cases hi with
  | none=>rfl
  | some v=>exact qD v n n
def oA (i j:Nat):Builtin.Slice.slicePlaces (i:Int) (j:Int) 1=j-i:=by
 unfold Builtin.Slice.slicePlaces;have h1:(1:Int) > 0:=by omega
 simp only[h1,Nk,Int.ediv_one];split <;> omega
def bZ {v:RC}{o:Option Int}{Q:Option Int->RE->Prop}(p:IsPart v o)(h:Q o s):RT (model prog w) A (Builtin.Slice.slicePartIndex v) Q E s:=by
 cases p with
 | none=>exact slicePart_none h
 | int i t=>exact slicePart_int h
def X6 {sl:RD}{vl vu:RC}{lo hi:Option Int}{n:Nat}{Q:Int×Int×Nat->RE->Prop}(hs:s.heap.IsSliceOf sl vl vu .none)(pl:IsPart vl lo)(pu:IsPart vu hi)
  (h:Q (((sIx n 0 lo:Nat):Int),1,sIx n n hi-sIx n 0 lo) s):RT (model prog w) A (Builtin.Slice.sliceApplied (.ref sl) (pure (n:Int))) Q E s:=by obtain⟨os,hos,hcs,hds⟩:=id hs;unfold Builtin.Slice.sliceApplied Builtin.Slice.sliceFields;refine LV (LV (Nz hos hds (x:=vl) rfl (LV (Nz hos hds (x:=vu) rfl (LV (Nz hos hds (x:=.none) rfl (LY ?_)))))));refine LV (slicePart_none ?_);show RT _ _ (if ((1:Int) == 0)=true then _ else _) _ _ s;rw[Md (by decide)];refine LV (bZ pl (LV (bZ pu (LV (LY ?_)))));show RT _ _ (match Builtin.Slice.sliceAdjust lo hi 1 (n:Int) with | (lo,hi)=>pure (lo,(1:Int),Builtin.Slice.slicePlaces lo hi 1)) _ _ s;rw[pN lo hi n];show RT _ _ (pure (((sIx n 0 lo:Nat):Int),(1:Int),Builtin.Slice.slicePlaces ((sIx n 0 lo:Nat):Int) ((sIx n n hi:Nat):Int) 1)) _ _ s;rw[oA];exact LY h
def xt (xs:Array RC)(i k:Nat):((List.range k).filterMap λ(m:Nat)=>xs[((i:Int)+(m:Int)*1).toNat]?).toArray=((xs.toList.drop i).take k).toArray:=by
 have e:(λ(m:Nat)=>xs[((i:Int)+(m:Int)*1).toNat]?) = λm=>xs[i+m]?:=by
  funext m;have:((i:Int)+(m:Int)*1).toNat=i+m:=by omega
  rw[this]
 rw[e];have:=pick_run xs i k;rw[List.filterMap_map]at this;have e2:((λx=>xs[x]?) ∘ λx=>i+x) = λm=>xs[i+m]?:=rfl
 rw[e2]at this;rw[this]
def getItem_tuple_cut {t sl:RD}{items:Array RC}{vl vu:RC}{lo hi:Option Int}{Q:RC->RE->Prop}(ht:IsTup s.heap t items)(hs:s.heap.IsSliceOf sl vl vu .none)(pl:IsPart vl lo)(pu:IsPart vu hi)
  (hw:¬(sIx items.size 0 lo=0/\sIx items.size items.size hi=items.size))
  (h:Q (.ref s.heap.objs.size) { s with heap:=s.heap.push { cls:=.type "tuple",data:=.seq ((items.toList.drop (sIx items.size 0 lo)).take (sIx items.size items.size hi-sIx items.size 0 lo)).toArray } })
  (hsz:items.size<=RN):RT (model prog w) A (getItem (.ref t) (.ref sl)) Q E s:=by
 have htake:sizeOk (.seq ((items.toList.drop (sIx items.size 0 lo)).take (sIx items.size items.size hi-sIx items.size 0 lo)).toArray):=by show((items.toList.drop (sIx items.size 0 lo)).take (sIx items.size items.size hi-sIx items.size 0 lo)).toArray.size<=RN;rw[Mr,MX,List.length_drop,MZ];omega
 have hj:sIx items.size items.size hi<=items.size:=AE _ _ (Mh _) hi;walk_at "kw";try with_reducible refine Ol ?_
 walk_at "ki"
 walk_at "kr";refine LV (X6 hs pl pu ?_);have hno:¬((((sIx items.size 0 lo:Nat):Int) == 0&&(1:Int) == 1&&(sIx items.size items.size hi-sIx items.size 0 lo) == items.size)=true):=by intro q;rw[OV,OV]at q;have q1:((sIx items.size 0 lo:Nat):Int)=0:=eq_of_beq q.1.1;have q2:sIx items.size items.size hi-sIx items.size 0 lo=items.size:=eq_of_beq q.2;exact hw ⟨by omega,by omega⟩
 show RT _ _ (if (((sIx items.size 0 lo:Nat):Int) == 0&&(1:Int) == 1&&(sIx items.size items.size hi-sIx items.size 0 lo) == items.size)=true then _ else _) _ _ s;rw[Md hno,xt];first
  | exact LV (m:=Builtin.Tuple.tupleExact _) (MY (LY ⟨_,rfl,LY h⟩) htake)
  | exact LV (m:=Builtin.Tuple.tupleExact _) (MY (LV (LY (LY ⟨_,rfl,LY h⟩))) htake)
  | exact LV (LV (m:=Builtin.Tuple.tupleExact _) (MY (LY (LY ⟨_,rfl,LY h⟩)) htake))
  | exact LV (LV (m:=Builtin.Tuple.tupleExact _) (MY (LY ⟨_,rfl,LY h⟩) htake))
end
end HT
namespace L2
open PySem PySem.Spec PyProof.Rows
variable {pos:Pos}
section
abbrev TO :=St->Hp->(Option Int->Hp->Prop)->Prop
def PO (X:Cx)(e:Option RL)(t:TO):Prop :=
 ∀(vv:List (RD×RP)) (s:RE) (O:St) (H:Hp) (Q:Option Int->Hp->Prop),Inv X vv O H s->t O H Q ->
  RT (model X.prog X.w) X.A (evalPart e X.env) (λu s'=>∃o H',Inv X vv O H' s'/\IsPart u o/\Q o H') X.xe s
def qX :TO:=λ_ H Q=>Q none H
def zX (t:TE):TO:=λO H Q=>t O H λx H1=>∃i,x = .int i/\Q (some i) H1
def ck {ns:List Int}:∀{us:List RC},p8 (ns.map V.int) us->IntsAre us ns:=by
 induction ns with
 | nil=>intro us r;rw[MI]at r;cases r;exact .nil
 | cons n ns ih =>
  intro us r;rw[Ma]at r;cases r with
  | cons r1 r2 =>obtain⟨t,e⟩:=r1;subst e;exact .cons n t (ih r2)
section
variable {X:Cx}{e:RL}{te:TE}{lo hi:Option RL}{tl th:TO}{p2:Pos}
def qy :PO X none qX:=by intro vv s O H Q I h;rw[evalPart_none];exact LY ⟨none,H,I,.none,h⟩
def jV (h:PE X e te):PO X (some e) (zX te):=by
 intro vv s O H Q I hw;rw[evalPart_some];refine thn (h vv s O H _ I hw) λu s1 ⟨x,H1,I1,r1,q1⟩=>?_
 obtain⟨i,rfl,q⟩:=q1;obtain⟨t,rfl⟩:=r1;exact⟨some i,H1,I1,.int i t,q⟩
def SlR (X:Cx)(r:V->Option Int->Option Int->Hp->VK->Prop):Prop :=
 ∀(vv:List (RD×RP)) (s:RE) (O:St) (H:Hp) (x:V) (v vl vu:RC) (lo hi:Option Int) (sl:RD) (Q:VK),Inv X vv O H s->u4 x v->s.heap.IsSliceOf sl vl vu .none->IsPart vl lo->IsPart vu hi->r x lo hi H Q ->
  ∃T id,typeLookup (.type T) "__getitem__" = pure (some (.builtin id))/\s.TypeIs v T/\RT (model X.prog X.w) X.A (getItem v (.ref sl)) (EP X vv O Q) X.xe s
def tSl (r:V->Option Int->Option Int->Hp->VK->Prop)(te:TE)(tl th:TO):TE:=λO H Q=>te O H λx H1=>tl O H1 λl H2=>th O H2 λu H3=>r x l u H3 Q
def mJ {r:V->Option Int->Option Int->Hp->VK->Prop}(hr:SlR X r)(he:PE X e te)(hl:PO X lo tl)(hu:PO X hi th):PE X (.Subscript e (.Slice lo hi none p2) pos) (tSl r te tl th):=by
 intro vv s O H Q I h;refine Subscript_ (thn (he vv s O H _ I h) λv s1 ⟨x,H1,I1,r1,q1⟩=>?_);refine wpAny_Slice (thn (hl vv s1 O H1 _ I1 q1) λvl s2 ⟨l,H2,I2,pl,q2⟩=>thn (hu vv s2 O H2 _ I2 q2) λvu s3 ⟨u,H3,I3,pu,q3⟩=>?_);rw[evalPart_none];refine LY ?_;have I4:Inv X vv O H3 { s3 with heap:=s3.heap.push { cls:=.type "slice",data:=.fields #[vl,vu,.none] } }:=I3.kept (t':=s3.toks) λb ob q=>LZ _ q
 obtain⟨T,id,hT,ht,hg⟩:=hr vv { s3 with heap:=s3.heap.push { cls:=.type "slice",data:=.fields #[vl,vu,.none] } } O H3 x v vl vu l u s3.heap.objs.size Q I4 r1 (Rc ..) pl pu q3;show RT (model X.prog X.w) X.A (subscriptTail e (.Slice lo hi none p2) v (.ref s3.heap.objs.size)) (EP X vv O Q) X.xe { s3 with heap:=s3.heap.push { cls:=.type "slice",data:=.fields #[vl,vu,.none] } };exact tail_any (ops:=[.ref s3.heap.objs.size,v]) ht hT hg (by with_unfolding_all rfl)
def ee (xs:List V)(lo hi:Option Int):List V:=(xs.drop (HT.sIx xs.length 0 lo)).take (HT.sIx xs.length xs.length hi-HT.sIx xs.length 0 lo)
def eX (xs:List V)(lo hi:Option Int):(ee xs lo hi).length<=xs.length:=by unfold ee;rw[MX,List.length_drop];omega
def EM (K:Fg):V->Option Int->Option Int->Hp->VK->Prop:=λx lo hi H Q=>∃a xs,x = .ref a/\SqT K H a xs /\
 ¬(HT.sIx xs.length 0 lo=0/\HT.sIx xs.length xs.length hi=xs.length)/\∀p,H p=none->Q (.ref p) (upd H p (.tup (ee xs lo hi)))
def BE :SlR X (EM X.K):=by
 intro vv s O H x v vl vu lo hi sl Q I rx hs pl pu h;obtain⟨a,xs,rfl,hx,hw,q⟩:=h;cases rx;obtain⟨its,r,ht,hz⟩:=I.tuple hx;have hlen:its.toArray.size=xs.length:=by rw[Mr];exact r.length.symm
 refine⟨"tuple",_,Nb.lookup,ht.typeIs,?_⟩;refine HT.getItem_tuple_cut ht hs pl pu (by rw[hlen];exact hw) ?_ (by rw[hlen];exact hz);rw[hlen];refine⟨.ref s.heap.objs.size,_,I.laid (t':=s.toks) (o:=.tup (ee xs lo hi)) (λb ob q=>LZ _ q) (Mh _) ?_,rfl,q _ (I.hok.fresh (Mh _))⟩;exact⟨MK (eX xs lo hi) hz,_,(r.drop (HT.sIx xs.length 0 lo)).take (HT.sIx xs.length xs.length hi-HT.sIx xs.length 0 lo),QF _ _⟩
def DX (K:Fg):R2:=λx y H Q=>∃a b xs ys,x = .ref a/\y = .ref b/\SqT K H a xs/\SqT K H b ys/\xs≠[]/\xs.length+ys.length<=RN /\
 (ys=[]->Q (.ref a) H)/\(ys≠[]->∀p,H p=none->Q (.ref p) (upd H p (.tup (xs++ys))))
def p8.nil_iff {xs:List V}{us:List RC}(r:p8 xs us):us=[]↔xs=[]:=by
 cases r with
 | nil=>simp
 | cons _ _=>simp
def yW :OpR X (binaryOp .Add) (DX X.K):=by intro vv s O H x y v u Q I rx ry h;obtain⟨a,b,xs,ys,rfl,rfl,ha,hb,hx,hz,q1,q2⟩:=h;cases rx;cases ry;obtain⟨its,r1,p1,_⟩:=I.tuple ha;obtain⟨its2,r2,p2,_⟩:=I.tuple hb;refine HT.cat_tup p1 p2 (λz=>hx (r1.nil_iff.1 z)) (λz=>⟨.ref a,H,I,rfl,q1 (r2.nil_iff.1 z)⟩) (λz=>?_) (by rw[<-r1.length,<-r2.length];exact hz);refine⟨.ref s.heap.objs.size,_,I.laid (t':=s.toks) (o:=.tup (xs++ys)) (λb ob q=>LZ _ q) (Mh _) ?_,rfl,q2 (λw=>z (r2.nil_iff.2 w)) _ (I.hok.fresh (Mh _))⟩;exact⟨by rw[MS];exact hz,_,r1.append r2,QF _ _⟩
end
end
variable {vv:List (RD×RP)}
section
def ixN (n:Nat)(i:Int):Option Nat:=if 0<=i then(if i<n then some i.toNat else none) else if -(n:Int)<=i then some (i+n).toNat else none
def atI {α:Type}(xs:List α)(i:Int):Option α:=(ixN xs.length i).bind λj=>xs[j]?
def zt {n:Nat}{i:Int}{j:Nat}(h:ixN n i=some j):seqIndex? i n=some j/\j<n /\ -(n:Int)<=i/\i<n:=by
 unfold ixN at h;by_cases h0:0<=i
 .rw[Mb h0]at h;by_cases h1:i<n
  .rw[Mb h1]at h;have e:i.toNat=j:=Mg h;exact⟨by rw[seqIndex_of h0 h1,e],by omega,by omega,h1⟩
  .rw[Md h1]at h;cases h
 .rw[Md h0]at h;by_cases h1:-(n:Int)<=i
  .rw[Mb h1]at h;have e:(i+n).toNat=j:=Mg h;exact⟨by rw[seqIndex_neg (by omega) h1,e],by omega,h1,by omega⟩
  .rw[Md h1]at h;cases h
def kK {α:Type}{xs:List α}{i:Int}{v:α}(h:atI xs i=some v):∃j,seqIndex? i xs.length=some j/\xs[j]? = some v/\j<xs.length /\ -(xs.length:Int)<=i/\i<xs.length:=by
 unfold atI at h;cases e:ixN xs.length i with
 | none=>rw[e]at h;cases h
 | some j =>rw[e]at h;obtain⟨h1,h2,h3,h4⟩:=zt e;exact⟨j,h1,h,h2,h3,h4⟩
def jA {α:Type}{xs:List α}{j:Nat}{v:α}(h:xs[j]? = some v):atI xs (j:Int)=some v:=by
 have hj:j<xs.length:=(Mj.1 h).1;have e:ixN xs.length (j:Int)=some j:=by unfold ixN;rw[Mb (by omega),Mb (by omega)];simp
 unfold atI;rw[e];exact h
def qM (b:RL):Prop:=∀o i,subscripted b false o i=operate [o,i] (getItem o i)
def IxR (X:Cx)(r:R2):Prop :=
 ∀(value slice:RL) (vv:List (RD×RP)) (s:RE) (O:St) (H:Hp) (x y:V) (v u:RC) (Q:VK),Inv X vv O H s->u4 x v->u4 y u->r x y H Q ->
  subscripted slice false v u=operate [v,u] (getItem v u)->RT (model X.prog X.w) X.A (subscriptTail value slice v u) (EP X vv O Q) X.xe s
def MtR (X:Cx)(id:String)(r:V->List V->Hp->VK->Prop):Prop :=
 ∀(vv:List (RD×RP)) (s:RE) (O:St) (H:Hp) (x:V) (xs:List V) (v:RC) (us:List RC) (Q:VK),Inv X vv O H s->u4 x v->p8 xs us->r x xs H Q ->
  RT (model X.prog X.w) X.A (call (.builtin id) (v::us)) (EP X vv O Q) X.xe s
section
variable {X:Cx}{a b:RL}{ta tb:TE}
def zS {r:R2}(hr:IxR X r)(ha:PE X a ta)(hb:PE X b tb)(hs:qM b):PE X (.Subscript a b pos) (tOp r ta tb):=by intro vv s O H Q I h;exact Subscript_ (Az ha hb I h λv u s2 x y H2 I2 rx ry q=>hr a b vv s2 O H2 x y v u Q I2 rx ry q (hs _ _))
def Dx (K:Fg):R2:=λx y H Q=>∃p xs i v,x = .ref p/\y = .int i/\SqL K H p xs/\atI xs i=some v/\Q v H
def Ex (K:Fg):R2:=λx y H Q=>∃p xs i v,x = .ref p/\y = .int i/\SqT K H p xs/\atI xs i=some v/\Q v H
def EI :R2:=λx y H Q=>∃z i c,x = .str z/\y = .int i/\z.length<=RN/\atI z.cps.toList i=some c/\Q (.str ⟨#[c]⟩) H
def qT :IxR X (Dx X.K):=by
 intro value slice vv s O H x y v u Q I rx ry h hs;obtain⟨p,xs,i,z,rfl,rfl,hq,he,q⟩:=h;cases rx;obtain⟨t,rfl⟩:=ry;obtain⟨its,r,pl,hz⟩:=I.list hq;obtain⟨j,h1,h2,h3,h4,h5⟩:=kK he;obtain⟨w,ew,rw'⟩:=r.get h2;have hl:=r.length;have hn:=eG;have fin:EP X vv O Q w s:=⟨z,H,I,rw',q⟩;by_cases h0:0<=i
 .have hj:i.toNat=j:=by rw[seqIndex_of h0 h5]at h1;exact Mg h1
  exact item_listR pl.isList h0 (by omega) (by rw[hj];simpa using ew) fin hs
 .have hj:(i+(its.toArray.size:Int)).toNat=j:=by rw[seqIndex_neg (by omega) h4]at h1;rw[Mr,<-hl];exact Mg h1
  exact subscriptTail_builtinR (x:=w) pl.isList.typeIs slot_list_getitem.lookup
   (wpAny_getItem_list_neg (Q:=λr s'=>r=w/\EP X vv O Q r s') pl.isList (by omega) (by rw[Mr] <;> omega) (by omega) (by rw[hj];simpa using ew) ⟨rfl,fin⟩) hs
def Bs :IxR X (Ex X.K):=by
 intro value slice vv s O H x y v u Q I rx ry h hs;obtain⟨p,xs,i,z,rfl,rfl,hq,he,q⟩:=h;cases rx;obtain⟨t,rfl⟩:=ry;obtain⟨its,r,pl,hz⟩:=I.tuple hq;obtain⟨j,h1,h2,h3,h4,h5⟩:=kK he;obtain⟨w,ew,rw'⟩:=r.get h2;have hl:=r.length;have hn:=eG;have fin:EP X vv O Q w s:=⟨z,H,I,rw',q⟩;exact subscriptTail_builtinR (x:=w) pl.typeIs slot_tuple_getitem.lookup
  (getItem_tuple (j:=j) (Q:=λr s'=>r=w/\EP X vv O Q r s') pl (by omega) (by omega) (by rw[Mr,<-hl];exact h1) (by simpa using ew) ⟨rfl,fin⟩) hs
def Cr :IxR X EI:=by
 intro value slice vv s O H x y v u Q I rx ry h hs;obtain⟨z,i,c,rfl,rfl,hz,he,q⟩:=h;obtain⟨t,rfl⟩:=rx;obtain⟨t',rfl⟩:=ry;obtain⟨j,h1,h2,h3,h4,h5⟩:=kK he;have hl:z.cps.toList.length=z.length:=by simp[Str.length]
 rw[hl]at h1 h4 h5;have hn:=eG;exact tail_any (QK s z t) slot_str_getitem.lookup (getItem_str (c:=c) (by have e1:decide (i < -(2 ^ 63:Int))=false:=Mw (by omega);have e2:decide (i >= 2 ^ 63)=false:=Mw (by omega);rw[e1,e2,Bool.or_false]) (by rw[h1];simpa using h2) ⟨.str ⟨#[c]⟩,H,I.tok _,⟨_,rfl⟩,q⟩) hs
def jX (lo hi:Option Int)(n:Nat):(sliceBounds lo hi none n).1=((HT.sIx n 0 lo:Nat):Int)/\(sliceBounds lo hi none n).2.1=((HT.sIx n n hi:Nat):Int)/\(sliceBounds lo hi none n).2.2=1:=by
 refine⟨?_,?_,rfl⟩
 .cases lo with
  | none=>simp[sliceBounds,HT.sIx]
  | some i =>
   simp only[sliceBounds,HT.sIx,Rp,show(1:Int) > 0 by decide,Nk]
   by_cases h:i<0
   .simp only[h,Nk] <;> omega
   .simp only[h,Nf] <;> omega
 .cases hi with
  | none=>simp[sliceBounds,HT.sIx]
  | some i =>
   simp only[sliceBounds,HT.sIx,Rp,show(1:Int) > 0 by decide,Nk]
   by_cases h:i<0
   .simp only[h,Nk] <;> omega
   .simp only[h,Nf] <;> omega
def iD (its:List RC)(lo hi:Option Int):slicePick its.toArray lo hi none=((its.drop (HT.sIx its.length 0 lo)).take (HT.sIx its.length its.length hi-HT.sIx its.length 0 lo)).toArray:=by obtain⟨h1,h2,h3⟩:=jX lo hi its.toArray.size;unfold slicePick;rw[h1,h2,h3];simp only[sliceRange_one,pick_run,Mr] <;> rfl
def EB (K:Fg):V->Option Int->Option Int->Hp->VK->Prop:=λx lo hi H Q=>∃a xs,x = .ref a/\SqL K H a xs/\∀p,H p=none->Q (.ref p) (upd H p (.lst (ee xs lo hi)))
def qZ :SlR X (EB X.K):=by intro vv s O H x v vl vu lo hi sl Q I rx hs pl pu h;obtain⟨a,xs,rfl,hx,q⟩:=h;cases rx;obtain⟨its,r,ht,hz⟩:=I.list hx;have hlen:=r.length;refine⟨"list",_,slot_list_getitem.lookup,ht.isList.typeIs,?_⟩;refine wpAny_getItem_list_slice ht.isList hs pl pu .none (by simp) ?_ (by rw[Mr] <;> omega);rw[iD,<-hlen];refine⟨.ref s.heap.objs.size,_,I.laid (t':=s.toks) (o:=.lst (ee xs lo hi)) (λb ob q=>LZ _ q) (Mh _) ?_,rfl,q _ (I.hok.fresh (Mh _))⟩;exact⟨MK (eX xs lo hi) hz,_,0,(r.drop (HT.sIx xs.length 0 lo)).take (HT.sIx xs.length xs.length hi-HT.sIx xs.length 0 lo),Mp _ rfl⟩
def Z8 :A8 X (.builtin "len") (λxs H Q=>∃p ys,xs=[.ref p]/\(SqL X.K H p ys\/SqT X.K H p ys)/\Q (.int ys.length) H):=by
 walk_at "kz";obtain⟨p,ys,rfl,hq,q⟩:=h;obtain⟨u,rfl,rx⟩:=K0 r;cases rx;have hn:=eG;rcases hq with hq | hq
 .obtain⟨its,r',pl,hz⟩:=I.list hq;have hlen:=r'.length;exact Calls.call_len_list pl.isList (by simp only[Mr] <;> omega) ⟨.int ys.length,H,I.tok _,⟨s.toks+1,by rw[Mr,hlen]⟩,q⟩
 .obtain⟨its,r',pl,hz⟩:=I.tuple hq;have hlen:=r'.length;exact len_tuple pl (by simp only[Mr] <;> omega) ⟨.int ys.length,H,I.tok _,⟨s.toks+1,by rw[Mr,hlen]⟩,q⟩
def ll :A8 X (.builtin "len") (λxs H Q=>∃z,xs=[.str z]/\z.length<=RN/\Q (.int z.length) H):=by intro vv s O H xs us Q I r h;obtain⟨z,rfl,hz,q⟩:=h;obtain⟨u,rfl,t,rfl⟩:=K0 r;have hn:=eG;exact len_str (by omega) ⟨.int z.length,H,I.tok _,⟨_,rfl⟩,q⟩
def dm :A8 X (.type "list") (λxs H Q=>∃p ys,xs=[.ref p]/\(SqL X.K H p ys\/SqT X.K H p ys)/\∀l,H l=none->Q (.ref l) (upd H l (.lst ys))):=by
 intro vv s O H xs us Q I r h;obtain⟨p,ys,rfl,hq,q⟩:=h;obtain⟨u,rfl,rx⟩:=K0 r;cases rx;have fin:∀(its:List RC),p8 ys its->ys.length<=RN->∀(h':RM) (c':Nat),(∀b o',s.heap.get? b=some o'->h'.get? b=some o') ->
   h'.get? s.heap.objs.size=some { cls:=.type "list",dict:=none,data:=.seq its.toArray c',slots:=#[] }->EP X vv O Q (.ref s.heap.objs.size) { s with heap:=h' }:=λits r' hz h' c' kp e =>
  ⟨.ref s.heap.objs.size,_,I.laid (t':=s.toks) kp (Mh _) (show D5 X.prog X.w _ h' _ (.lst ys) from⟨hz,its,c',r',e⟩),rfl,q _ (I.hok.fresh (Mh _))⟩
 rcases hq with hq | hq
 .obtain⟨its,r',pl,hz⟩:=I.list hq;have hlen:=r'.length;obtain⟨o,ho,hc,n,hd⟩:=pl.isList;exact call_list_seq p (.inl rfl) ho hc hd (λh' c' kp e=>fin its r' hz h' c' kp e) (by simp only[Mr] <;> omega)
 .obtain⟨its,r',pl,hz⟩:=I.tuple hq;have hlen:=r'.length;obtain⟨o,ho,hc,n,hd⟩:=pl;exact call_list_seq p (.inr rfl) ho hc hd (λh' c' kp e=>fin its r' hz h' c' kp e) (by simp only[Mr] <;> omega)
def iG :A8 X (.type "tuple") (λxs H Q=>∃p ys,xs=[.ref p]/\((SqL X.K H p ys/\∀l,H l=none->Q (.ref l) (upd H l (.tup ys)))\/(SqT X.K H p ys/\Q (.ref p) H))):=by
 walk_at "kz";obtain⟨p,ys,rfl,h⟩:=h;obtain⟨u,rfl,rx⟩:=K0 r;cases rx;rcases h with ⟨hq,q⟩ | ⟨hq,q⟩
 .obtain⟨its,r',pl,hz⟩:=I.list hq;have hlen:=r'.length;refine call_tuple_list pl.isList (λh' kp=>?_) (by simp only[Mr] <;> omega);have I1:Inv X vv O H { s with heap:=h' }:=I.kept (t':=s.toks) kp;have I2:Inv X vv O (upd H h'.objs.size (.tup ys)) { s with heap:=h'.push { cls:=.type "tuple",data:=.seq its.toArray } } :=
   I1.laid (t':=s.toks) (λb o e=>LZ _ e) (Mh _) (show D5 X.prog X.w _ _ _ (.tup ys) from⟨hz,its,r',QF _ _⟩)
  exact⟨.ref h'.objs.size,_,I2,rfl,q _ (I1.hok.fresh (Mh _))⟩
 .obtain⟨its,r',pl,hz⟩:=I.tuple hq;exact call_tuple_same pl ⟨.ref p,H,I,rfl,q⟩
def tyV (K:Fg)(T:String)(x:V)(H:Hp):Prop:=match x with
 | .str _=>T = "str"
 | .int _=>T = "int"
 | .ref p=>(T = "list" /\ ∃xs,SqL K H p xs)\/(T = "tuple" /\ ∃o,K.lookup p=some o/\o.cls = .type "tuple" /\ o.dict=none) \/
   (T = "dict" /\ ((∃Sj,H p=some (.dK Sj))\/∃Sj,H p=some (.dT Sj)))\/(T = "set" /\ ∃S n,H p=some (.set S n))
 | _=>False
def AI {O:St}{H:Hp}{s:RE}{T:String}{x:V}{v:RC}(I:Inv X vv O H s)(r:u4 x v)(ty:tyV X.K T x H) :
  s.TypeIs v T/\∀a,v = .ref a->∃ob,s.heap.get? a=some ob/\ob.dict=none:=by
 cases x with
 | str z =>obtain⟨t,rfl⟩:=r;cases(show T = "str" from ty);exact⟨QK s z t,λ_ e=>nomatch e⟩
 | int i =>obtain⟨t,rfl⟩:=r;cases(show T = "int" from ty);exact⟨typeIs_int s i t,λ_ e=>nomatch e⟩
 | ref p =>
  cases r;rcases ty with ⟨rfl,xs,hq⟩ | ⟨rfl,o,hk,hc,hd⟩ | ⟨rfl,hk⟩ | ⟨rfl,S,n,hk⟩
  .obtain⟨its,_,pl,_⟩:=I.list hq;refine⟨pl.isList.typeIs,λa e=>?_⟩;cases e;obtain⟨o,n,e,c,hd,_⟩:=pl;exact⟨o,e,hd⟩
  .refine⟨⟨o,I.kIn p o hk,hc⟩,λa e=>?_⟩;cases e;exact⟨o,I.kIn _ o hk,hd⟩
  .have z:∃o,s.heap.get? p=some o/\o.ExactDict:=by
    rcases hk with ⟨Sj,hk⟩ | ⟨Sj,hk⟩
    .obtain⟨_,_,_,_,o,_,_,e,ex,_⟩:=I.hok p _ hk;exact⟨o,e,ex⟩
    .obtain⟨_,_,_,_,o,_,_,e,ex,_⟩:=I.hok p _ hk;exact⟨o,e,ex⟩
   obtain⟨o,e,ex⟩:=z;refine⟨⟨o,e,ex.1⟩,λa e2=>?_⟩;cases e2;exact⟨o,e,ex.2.1⟩
  .obtain⟨o,_,_,_,e,ex,_⟩:=I.hok p _ hk;refine⟨⟨o,e,ex.1⟩,λa e2=>?_⟩;cases e2;exact⟨o,e,ex.2.1⟩
 | _=>exact False.elim ty
def tBM (K:Fg)(T:String)(r:V->List V->Hp->VK->Prop)(to:TE)(t:TA):TE:=λO H Q=>to O H λx H1=>tyV K T x H1/\t O H1 λxs H2=>r x xs H2 Q
variable {o e:RL}{es:List RL}{to:TE}{t:TA}{name:Str}{apos cpos:Pos}{T id:String}{r:V->List V->Hp->VK->Prop}
def CQ (pa:PlainAttrs T)(slot:Slot T name id)(hty:typeOf (.builtin id)=pure (.type "method_descriptor"))(hm:MtR X id r)(ho:PE X o to)(ha:PA X (e::es) t)
  (hbase:RW o name X.env (eval o X.env)=eval o X.env:=by rfl)
  (hfew:((RR cpos (RO (e::es) X.env)).all (λx=>!x.1)&&(Se cpos (Sf [] X.env)).all (λx=>x.1.isSome)
   && decide ((e::es).length+([]:List RS).length+(if ([]:List RS).isEmpty then 0 else 1)<30))=true:=by rfl)
  (hline:(apos.endLine == cpos.line)=true:=by rfl) (hs:RO (e::es) X.env=(false,eval e X.env)::RO es X.env:=by rfl) (hplain:(RR cpos (RO es X.env)).any (·.1)=false:=by rfl) :
  PE X (.Call (.Attribute o name apos) (e::es) [] cpos) (tBM X.K T r to t):=by intro vv s O H Q I h;refine wpAny_Call_method_late hbase hfew hline rfl (thn (ho vv s O H _ I h) λv s1 ⟨x,H1,I1,r1,ty,q1⟩=>?_);obtain⟨h1,h2⟩:=AI I1 r1 ty;refine⟨T,id,pa,slot,hty,h1,h2,?_⟩;have hA:=ha cpos vv s1 O H1 _ I1 q1;rw[hs]at hA ⊢;refine Calls.callWith_builtin (by show(false||(RR cpos (RO es X.env)).any (·.1))=false;rw[hplain] <;> rfl) (Calls.evalArgs_plain ?_);exact thn hA λus s2 ⟨vs,H2,I2,r2,q2⟩=>hm vv s2 O H2 x vs v us Q I2 r1 r2 q2
end
end
variable {t':Nat}
section
def MtM (X:Cx)(id:String)(r:V->List V->Hp->VK->Prop):Prop :=
 ∀(vv:List (RD×RP)) (s:RE) (O:St) (H:Hp) (x:V) (xs:List V) (v:RC) (us:List RC) (Q:VK),Inv X vv O H s->u4 x v->p8 xs us->r x xs H Q ->
  RT (model X.prog X.w) X.A (call (.builtin id) (v::us)) (EP X vv O Q) X.xe s
theorem p8.one:∀{x:V} {us:List RC},p8 [x] us->∃u,us=[u]/\u4 x u
 | _,_,.cons r .nil=>⟨_,rfl,r⟩
def p8.reverse {xs:List V}{us:List RC}(h:p8 xs us):p8 xs.reverse us.reverse:=by
 induction h with
 | nil=>exact .nil
 | cons r t ih=>rw[Qk,Qk];exact p8.append ih (.cons r .nil)
theorem p8.rep {xs:List V}{us:List RC}(h:p8 xs us):∀k:Nat,p8 (List.replicate k xs).flatten (List.replicate k us).flatten
 | 0=>.nil
 | k+1=>by rw[Og,Og,NT,NT];exact p8.append h (p8.rep h k)
def dY (its:List RC):∀(k:Nat) (acc:List RC),
  List.foldl (λx1 x2=>x1++x2) acc.toArray (List.replicate k its.toArray)=(acc++(List.replicate k its).flatten).toArray
 | 0,acc=>by simp
 | k+1,acc=>by
  have e:acc.toArray++its.toArray=(acc++its).toArray:=by simp
  have e2:(acc++its)++(List.replicate k its).flatten=acc++(List.replicate (k+1) its).flatten:=by rw[Og,NT,Ql]
  rw[<-e2,<-dY its k (acc++its),<-e,Og,List.foldl_cons]
section
variable {X:Cx}{O:St}{H:Hp}{s:RE}{l b:RD}{xs ys zs:List V}
def Inv.lset {its its':List RC}{n:Nat}{f:Array RC->Array RC}(I:Inv X vv O H s)(hH:H l=some (.lst xs))
  (e:s.heap.get? l=some { cls:=.type "list",data:=.seq its.toArray n }) (hf:f its.toArray=its'.toArray) (hv:p8 ys its') (hz:ys.length<=RN) :
  Inv X vv O (upd H l (.lst ys)) { s with heap:=s.heap.update l (RP.mapSeq f),toks:=t' }:=by have q:=PySem.IsL.update e f;rw[hf]at q;refine I.write (x:=l) (e:=l) (by rw[hH];exact trivial) (.inl rfl) (λb' u hb hu=>(RM.get?_update_other s.heap (RP.mapSeq f) (OU hb)).trans hu) ⟨_,q⟩ ?_;exact⟨hz,its',_,hv,q⟩
def Inv.lnew {its:List RC}(I:Inv X vv O H s)(hv:p8 ys its)(hz:ys.length<=RN) :
  Inv X vv O (upd H s.heap.objs.size (.lst ys)) { s with heap:=s.heap.push { cls:=.type "list",data:=.seq its.toArray },toks:=t' } :=
 I.laid (λ_ _ q=>LZ _ q) (Mh _) ⟨hz,its,0,hv,Mp _ rfl⟩
def Inv.fresh (I:Inv X vv O H s):H s.heap.objs.size=none:=I.hok.fresh (Mh _)
def Inv.lstM (I:Inv X vv O H s)(hH:H l=some (.lst xs)):xs.length<=RN/\∃(its:List RC) (n:Nat),p8 xs its/\xs.length=its.length/\s.heap.get? l=some { cls:=.type "list",data:=.seq its.toArray n }:=by obtain⟨z,its,n,r,e⟩:=I.hok l _ hH;exact⟨z,its,n,r,r.length,e⟩
def uK {n:Nat}(h:n<=RN):Builtin.List.listTooLong n=false:=by unfold Builtin.List.listTooLong;exact Mw (by omega)
end
section
variable {X:Cx}
def kB :V->List V->Hp->VK->Prop:=λx vs H Q=>∃l xs y,x = .ref l/\vs=[y]/\H l=some (.lst xs)/\xs.length<RN/\Q .non (upd H l (.lst (xs++[y])))
def bz :MtM X "list.append" kB:=by intro vv s O H x vs v us Q I rx rv h;obtain⟨l,xs,y,rfl,rfl,hH,hz,q⟩:=h;cases rx;obtain⟨u,rfl,ru⟩:=rv.one;obtain⟨z,its,n,r,hl,e⟩:=I.lstM hH;refine Pq F.slot_list_append ⟨_,e,rfl⟩ F.entry_list_append (F.args_list_append_2 _ _) (PySem.list_append l its.toArray n u (by rw[Mr];omega)) ⟨e,?_⟩;refine⟨.non,_,I.lset (its':=its++[u]) hH e (by simp) (r.append (.cons ru .nil)) ?_,rfl,q⟩;rw[MS,List.length_singleton];omega
def EJ :R2:=λx y H Q=>∃l b xs zs,x = .ref l/\y = .ref b/\H l=some (.lst xs)/\H b=some (.lst zs)/\xs.length+zs.length<=RN/\∀p,H p=none->Q (.ref p) (upd H p (.lst (xs++zs)))
def BZ :OpR X (binaryOp .Add) EJ:=by
 intro vv s O H x y v u Q I rx ry h;obtain⟨l,b,xs,zs,rfl,rfl,hH,hB,hz,q⟩:=h;cases rx;cases ry;obtain⟨z,its,n,r,hl,e⟩:=I.lstM hH;obtain⟨z2,its2,n2,r2,hl2,e2⟩:=I.lstM hB;refine PySem.P.add_list e e2 ?_ (by rw[Mr,Mr];omega);have ea:its.toArray++its2.toArray=(its++its2).toArray:=by simp
 rw[ea];exact⟨.ref _,_,I.lnew (t':=s.toks) (r.append r2) (by rw[MS];omega),rfl,q _ I.fresh⟩
def EZ :R2:=λx y H Q=>∃l k xs,x = .ref l/\y = .int k/\H l=some (.lst xs) /\ -(2 ^ 63)<=k/\k<2 ^ 63/\xs.length*k.toNat<=RN /\
 ∀p,H p=none->Q (.ref p) (upd H p (.lst (List.replicate k.toNat xs).flatten))
def jL {α:Type}(xs:List α)(k:Nat):(List.replicate k xs).flatten.length=k*xs.length:=by
 induction k with
 | zero=>simp
 | succ k ih=>rw[Og,NT,MS,ih,Nat.succ_mul,Nat.add_comm]
def Ca :OpR X (binaryOp .Mult) EZ:=by
 intro vv s O H x y v u Q I rx ry h;obtain⟨l,k,xs,rfl,rfl,hH,h1,h2,hz,q⟩:=h;cases rx;obtain⟨t,rfl⟩:=ry;obtain⟨z,its,n,r,hl,e⟩:=I.lstM hH;have hlen:its.toArray.size*k.toNat<=RN:=by rw[Mr,<-hl];exact hz
 have hcap:¬its.toArray.size*k.toNat > (2 ^ 63-1) / 8:=by
  have:(RN:Nat)<=(2 ^ 63-1) / 8:=by decide
  omega
 have hfit:¬(!Builtin.List.listFitsIndex k)=true:=by rw[fitsIndex_both h1 h2];exact Mz
 have hlong:¬Builtin.List.listTooLong (its.toArray.size*k.toNat)=true:=by rw[uK hlen];exact Mz
 have hnew:List.foldl (λx1 x2=>x1++x2) #[] (List.replicate (if its.toArray.isEmpty=true then 0 else k.toNat) its.toArray)=(List.replicate k.toNat its).flatten.toArray:=by
  have f0:∀m:Nat,List.foldl (λx1 x2=>x1++x2) #[] (List.replicate m its.toArray)=(List.replicate m its).flatten.toArray:=λm=>by have:=dY its m [];rw[ME]at this;exact this
  rw[f0];cases its with
  | nil=>simp
  | cons a r'=>rw[Md (by simp)]
 refine wpAny_binaryOp_repeat_ref (T:="list") (U:="int") (by decide) ⟨_,e,rfl⟩ (λs'=>typeIs_int s' k t) noFill_list_mul F.fills_int_mul QL repeat_list F.slot_int_index.lookup
  (Pq QL (typeIs_int s k t) F.entry_int_rmul (F.args_int_rmul_2 _ _) (int___rmul___int_list k t l its.toArray n)
   ⟨e,rfl,⟨_,e,rfl⟩,Pq F.slot_list_mul ⟨_,e,rfl⟩ F.entry_list_mul (F.args_list_mul_2 _ _) (AutoListH.list___mul___list_int_3 l its.toArray n k t hfit hcap hlong) ⟨e,?_⟩⟩)
 rw[hnew];exact⟨.ref _,_,I.lnew (t':=s.toks) (r.rep k.toNat) (by rw[jL,Rq];exact hz),rfl,q _ I.fresh⟩
end
section
variable {prog:RF}{w:RG}{A:RH}{E:RC->RE->Prop}{s:RE}
end
section
variable {X:Cx}
end
end
variable {o:Option V}{Sj:List (Key×V)}{vs:List (Key×RC)}{trs:List (TE×TE)}
section
section
variable {κ:Type}[DecidableEq κ]
def bG (Sj:List (κ×V))(k:κ):Option V:=(Sj.find? λkv=>decide (kv.1=k)).map (·.2)
def L4 (Sj:List (κ×V))(k:κ)(v:V):List (κ×V) :=
 if (Sj.any λkv=>decide (kv.1=k))=true then Sj.map (λkv=>if kv.1=k then(kv.1,v) else kv) else Sj++[(k,v)]
def T8 {p:κ×V}{r:List (κ×V)}{k:κ}(e:p.1=k):bG (p::r) k=some p.2:=by simp[bG,Oy,e]
def B4 {p:κ×V}{r:List (κ×V)}{k:κ}(e:¬p.1=k):bG (p::r) k=bG r k:=by simp[bG,Oy,e]
theorem X3 (k:κ):∀Sj:List (κ×V),(Sj.any λkv=>decide (kv.1=k))=(bG Sj k).isSome
 | []=>rfl
 | p::r=>by
  rw[Rh];by_cases e:p.1=k
  .simp only[T8 e,Mv e,Bool.true_or,OK]
  .rw[B4 e,Mw e,Bool.false_or];exact X3 k r
def aD (Sj:List (κ×V))(k:κ)(v:V):(L4 Sj k v).length<=Sj.length+1:=by
 unfold L4;split
 .rw[LX];omega
 .rw[MS,Mf,MP];omega
def dC {Sj:List (κ×V)}{k:κ}(v:V)(h:bG Sj k=none):L4 Sj k v=Sj++[(k,v)]:=by unfold L4;rw[X3,h];exact Md (by decide)
def df.isSome_eq {u:Option RC}(r:df o u):o.isSome=u.isSome:=by
 cases o with
 | none=>cases u with
  | none=>rfl
  | some _=>exact(show False from r).elim
 | some _=>cases u with
  | none=>exact(show False from r).elim
  | some _=>rfl
def df.getD {u:Option RC}{d:V}{d':RC}(r:df o u)(rd:u4 d d'):u4 (o.getD d) (u.getD d'):=by
 cases o with
 | none=>cases u with
  | none=>exact rd
  | some _=>exact(show False from r).elim
 | some _=>cases u with
  | none=>exact(show False from r).elim
  | some _=>exact r
def KV.val {Sj:List (κ×V)}{vs:List (κ×RC)}(r:KV Sj vs)(k:κ):df (bG Sj k) (valueAt vs k):=by
 unfold KV at r;induction r with
 | nil=>exact True.intro
 | @cons p q ps qs h t ih =>
  obtain⟨h1,h2⟩:=h;by_cases e:p.1=k
  .have e':q.1=k:=h1.symm.trans e;have b:valueAt (q::qs) k=some q.2:=by simp[valueAt,Oy,e']
   rw[T8 e,b];exact h2
  .have e':¬q.1=k:=λz=>e (h1.trans z)
   have b:valueAt (q::qs) k=valueAt qs k:=by simp[valueAt,Oy,e']
   rw[B4 e,b];exact ih
def KV.any {Sj:List (κ×V)}{vs:List (κ×RC)}(r:KV Sj vs)(k:κ):(Sj.any λkv=>decide (kv.1=k))=vs.any λkv=>decide (kv.1=k):=by
 unfold KV at r;induction r with
 | nil=>rfl
 | cons h t ih=>rw[Rh,Rh,ih,h.1]
def KV.repl {Sj:List (κ×V)}{vs:List (κ×RC)}(r:KV Sj vs)(k:κ){y:V}{u:RC}(ry:u4 y u) :
  KV (Sj.map λkv=>if kv.1=k then(kv.1,y) else kv) (vs.map λkv=>if kv.1=k then(kv.1,u) else kv):=by
 unfold KV at r ⊢;induction r with
 | nil=>exact .nil
 | @cons p q ps qs h t ih =>
  rw[Ma,Ma];refine .cons ?_ ih;obtain⟨h1,h2⟩:=h;by_cases e:p.1=k
  .rw[Mb e,Mb (h1.symm.trans e)];exact⟨h1,ry⟩
  .rw[Md e,Md (λz=>e (h1.trans z))];exact⟨h1,h2⟩
def KV.put {Sj:List (κ×V)}{vs:List (κ×RC)}(r:KV Sj vs)(k:κ){y:V}{u:RC}(ry:u4 y u):KV (L4 Sj k y) (stored vs k u):=by
 unfold L4 stored;rw[r.any k];by_cases e:(vs.any λkv=>decide (kv.1=k))=true
 .rw[Mb e,Mb e];exact r.repl k ry
 .rw[Md e,Md e];exact Paired.snoc r ⟨rfl,ry⟩
def KV.length {Sj:List (κ×V)}{vs:List (κ×RC)}(r:KV Sj vs):Sj.length=vs.length:=Pz r
end
def qa {P:RF}{w:RG}{k:Key}{u:RC}(r:u4 (kV k) u):(C8 P w).is k u=true:=by
 cases k with
 | inl i=>obtain⟨t,e⟩:=(show ∃t,u=RC.int i t from r);subst e;exact mY P w i t
 | inr x=>obtain⟨t,e⟩:=(show ∃t,u=RC.str x t from r);subst e;exact mW P w x t
theorem iI {P:RF}{w:RG}:∀{ks:List Key} {us:List RC},p8 (ks.map kV) us->ItemsAre (C8 P w) ks us
 | [],_,r=>by rw[MI]at r;cases r;exact .nil
 | k::ks,_,r=>by
  rw[Ma]at r;cases r with
  | cons h t=>exact .cons (qa h) (iI t)
abbrev KT (H:Hp):List (List Key×V)->List (List Key×RD×RC)->Prop:=Paired λp q=>p.1=q.1/\H q.2.1=some (.tup (p.1.map kV))/\u4 p.2 q.2.2
def KT.val {H:Hp}{Sj:List (List Key×V)}{xs:List (List Key×RD×RC)}(r:KT H Sj xs)(k:List Key):df (bG Sj k) ((atKey xs k).map (·.2)):=by
 induction r with
 | nil=>exact True.intro
 | @cons p q ps qs h t ih =>
  obtain⟨h1,_,h2⟩:=h;by_cases e:p.1=k
  .have e':q.1=k:=h1.symm.trans e;have b:atKey (q::qs) k=some q.2:=by simp[atKey,Oy,e']
   rw[T8 e,b];exact h2
  .have e':¬q.1=k:=λz=>e (h1.trans z)
   have b:atKey (q::qs) k=atKey qs k:=by simp[atKey,Oy,e']
   rw[B4 e,b];exact ih
def KT.repl {H:Hp}{Sj:List (List Key×V)}{xs:List (List Key×RD×RC)}(r:KT H Sj xs)(k:List Key){y:V}{u:RC}(ry:u4 y u) :
  KT H (Sj.map λkv=>if kv.1=k then(kv.1,y) else kv) (xs.map (putAt k u)):=by
 walk_at "kt"
def KT.put {H:Hp}{Sj:List (List Key×V)}{xs:List (List Key×RD×RC)}(r:KT H Sj xs)(k:List Key){b:RD}{y:V}{u:RC}(hb:H b=some (.tup (k.map kV)))(ry:u4 y u) :
  KT H (L4 Sj k y) (storedH xs k b u):=by
 have e:(Sj.any λkv=>decide (kv.1=k))=(atKey xs k).isSome:=by rw[X3,(r.val k).isSome_eq,Qm]
 unfold L4 storedH;rw[e];by_cases q:(atKey xs k).isSome=true
 .rw[Mb q,Mb q];exact r.repl k ry
 .rw[Md q,Md q];exact Paired.snoc r ⟨rfl,hb,ry⟩
def KT.keeps {H H':Hp}{Sj:List (List Key×V)}{xs:List (List Key×RD×RC)}(r:KT H Sj xs)(ht:∀b ys,H b=some (.tup ys)->H' b=some (.tup ys)):KT H' Sj xs :=
 Paired.mapP r λ_ _ z=>⟨z.1,ht _ _ z.2.1,z.2.2⟩
section
variable {P:RF}{w:RG}{H:Hp}{h:RM}{a:RD}
def zQ {u:HO}(ok:HOk P w H h)(e:Rd H a u):D5 P w H h a u:=e.ok ok
def uo (ok:HOk P w H h)(e:Rd H a (.dK Sj)):Sj.length<=RN/\(a == sysModules)=false/\∃vs,KV Sj vs/\h.DictOf (C8 P w) a vs :=
 show D5 P w H h a (.dK Sj) from zQ ok e
def Aq (ok:HOk P w H h)(e:H a=some (.dK Sj)):Sj.length<=RN/\(a == sysModules)=false/\∃vs,KV Sj vs/\h.DictOf (C8 P w) a vs:=uo ok (.inl e)
def om {ks:List Key}(ok:HOk P w H h)(e:H a=some (.tup (ks.map kV))):(tupleKind (C8 P w)).is h ks a:=by obtain⟨_,its,r,o,h1,h2,n,h3⟩:=(show D5 P w H h a (.tup (ks.map kV)) from ok a _ e);exact⟨o,its.toArray,n,h1,h2,h3,by simpa using iI r⟩
def tq {Sj:List (List Key×V)}(ok:HOk P w H h)(e:Rd H a (.dT Sj)):Sj.length<=RN/\(a == sysModules)=false /\
  ∃xs,KT H Sj xs/\h.DictOfH (tupleKind (C8 P w)) a xs:=by
 obtain⟨z,y,xs,r,o,es,ep,h1,h2,h3,h4,h5⟩:=(show D5 P w H h a (.dT Sj) from zQ ok e);refine⟨z,y,xs,r,o,es,ep,h1,h2,h3,h4,λx hx=>?_,h5⟩;have all:∀{l:List (List Key×V)} {m:List (List Key×RD×RC)},KT H l m->∀x∈m,(tupleKind (C8 P w)).is h x.1 x.2.1:=by
  intro l m q;induction q with
  | nil=>intro x hx;exact nomatch hx
  | @cons p q ps qs hq t ih =>
   intro x hx;rcases Mi.1 hx with e | hx
   .subst e;exact om ok (by rw[<-hq.1];exact hq.2.1)
   .exact ih x hx
 exact all r x hx
def CP {Sj:List (List Key×V)}(ok:HOk P w H h)(e:H a=some (.dT Sj)):Sj.length<=RN/\(a == sysModules)=false /\
  ∃xs,KT H Sj xs/\h.DictOfH (tupleKind (C8 P w)) a xs:=tq ok (.inl e)
end
def eP (H:Hp)(a:RD)(y:V)(r:Option V):Prop :=
 (∃Sj k,Rd H a (.dK Sj)/\y=kV k/\r=bG Sj k)\/∃Sj k b,Rd H a (.dT Sj)/\y = .ref b/\H b=some (.tup (k.map kV))/\r=bG Sj k
def iC (H:Hp)(a:RD)(y v:V)(H':Hp):Prop :=
 (∃Sj k,H a=some (.dK Sj)/\y=kV k/\Sj.length<RN/\H'=upd H a (.dK (L4 Sj k v))) \/
 ∃Sj k b,H a=some (.dT Sj)/\y = .ref b/\H b=some (.tup (k.map kV))/\Sj.length<RN/\H'=upd H a (.dT (L4 Sj k v))
def eP.k {H:Hp}{a:RD}{k:Key}(e:H a=some (.dK Sj)):eP H a (kV k) (bG Sj k):=.inl ⟨Sj,k,.inl e,rfl,rfl⟩
def iC.k {H:Hp}{a:RD}{k:Key}{v:V}(e:H a=some (.dK Sj))(hl:Sj.length<RN):iC H a (kV k) v (upd H a (.dK (L4 Sj k v))):=.inl ⟨Sj,k,e,rfl,hl,rfl⟩
section
variable {X:Cx}{O:St}{H:Hp}{s:RE}{a:RD}{y v:V}{u r:RC}{A:RH}{E:RC->RE->Prop}
def Inv.big (I:Inv X vv O H s):sysModules<s.heap.objs.size:=by have h:RU<s.heap.objs.size:=(I.mod.glob.keeps I.bk).lt;exact Rr (by decide) h
def rK {Q:RC->RE->Prop}(hu:A.units+1<Sa)(I:Inv X vv O H s)(g:eP H a y (some v))(ry:u4 y u)(h:∀w' s',Inv X vv O H s'->u4 v w'->Q w' s') :
  RT (model X.prog X.w) A (getItem (.ref a) u) Q E s:=by
 rcases g with ⟨Sj,k,e,ey,l⟩ | ⟨Sj,k,b,e,ey,eb,l⟩
 .subst ey;obtain⟨z,hd,vs,rel,dd⟩:=uo I.hok e;obtain⟨w',hw,rw'⟩:=df.some_of (v:=v) (o:=valueAt vs k) (by rw[l];exact rel.val k);exact wpAny_getItem_of (qa ry) dd.mapOf hw (h w' _ (I.tok _) rw')
 .subst ey;cases(show u=RC.ref b from ry);obtain⟨z,hd,xs,rel,dd⟩:=tq I.hok e;obtain⟨w',hw,rw'⟩:=df.some_of (v:=v) (o:=(atKey xs k).map (·.2)) (by rw[l];exact rel.val k);obtain⟨p,hp,hp2⟩:=Ms.1 hw;refine wpAny_getItem_heap (tupleKind_room_in1 hu) (om I.hok eb) dd hp ?_;rw[hp2];exact h w' _ (I.tok _) rw'
def fI {h':RM}{ob:HO}(I:Inv X vv O H s)(mu:Mut (H a))(hs:RM.SameBut a s.heap h')(he:∃q,h'.get? a=some q)(new:D5 X.prog X.w (upd H a ob) h' a ob) :
  Inv X vv O (upd H a ob) { s with heap:=h',toks:=t' } :=
 I.write (x:=a) (e:=a) mu (.inl rfl) (λb q hb z=>(hs.2 b hb).trans z) he new
def wa {P:RF}{w:RG}{H':Hp}{h':RM}(z:Sj.length<=RN)(hd:(a == sysModules)=false)(rel:KV Sj vs)(dd:h'.DictOf (C8 P w) a vs) :
  D5 P w H' h' a (.dK Sj):=⟨z,hd,vs,rel,dd⟩
def sU {H':Hp}{Q:Unit->RE->Prop}(hu:A.units+1<Sa)(I:Inv X vv O H s)(g:iC H a y v H')(ry:u4 y u)(rv:u4 v r)(h:∀s',Inv X vv O H' s'->Q () s') :
  RT (model X.prog X.w) A (setItem (.ref a) u r) Q E s:=by
 rcases g with ⟨Sj,k,e,ey,l,eH⟩ | ⟨Sj,k,b,e,ey,eb,l,eH⟩
 .subst ey eH;obtain⟨z,hd,vs,rel,dd⟩:=Aq I.hok e;have hz:vs.length<=RN:=by rw[<-rel.length];exact z
  have hl:(L4 Sj k v).length<=RN:=by have:=aD Sj k v;omega
  refine wpAny_setItem_pairs (hsz:=hz) (qa ry) dd λh' dd' hs=>h _ ?_
  have he:∃q,h'.get? a=some q:=let ⟨q,_,_,hq,_⟩:=dd';⟨q,hq⟩;exact fI I (by rw[e];exact True.intro) hs he (wa hl hd (rel.put k rv) dd')
 .subst ey eH;cases(show u=RC.ref b from ry);obtain⟨z,hd,xs,rel,dd⟩:=CP I.hok e;have hz:xs.length<=RN:=by rw[<-Pz rel];exact z
  have hl:(L4 Sj k v).length<=RN:=by have:=aD Sj k v;omega
  refine wpAny_setItem_heap (hsz:=hz) (tupleKind_room_in1 hu) (om I.hok eb) dd λh' dd' hs=>h _ ?_
  obtain⟨q,es,ep,hq,h2,h3,h4,_,h5⟩:=dd';refine fI I (by rw[e];exact True.intro) hs ⟨q,hq⟩ ⟨hl,hd,_,(rel.put k eb rv).keeps λc ys ec=>?_,q,es,ep,hq,h2,h3,h4,h5⟩;rw[i3 (Ak ec e (λz=>nomatch z))];exact ec
end
section
variable {X:Cx}{O:St}{H:Hp}{s:RE}{a:RD}{k:Key}{u:RC}{A:RH}{E:RC->RE->Prop}
end
def xD (i:RL):Prop:=∀ov iv,subscripted i false ov iv=operate [ov,iv] (getItem ov iv)
def qf {prog:RF}{w:RG}{A:RH}{E:RC->RE->Prop}{s:RE}{env:RQ}{value slice:RL}{T id:String}{Q:RC->RE->Prop}
  (hl:typeLookup (.type T) "__getitem__" = pure (some (.builtin id))) (hs:xD slice)
  (h:RT (model prog w) A (eval value env) (λo s₁=>RT (model prog w) A (eval slice env) (λi s₂=>s₂.TypeIs o T/\RT (model prog w) A (getItem o i) Q E s₂) E s₁) E s) :
  RT (model prog w) A (eval (.Subscript value slice pos) env) Q E s:=by
 refine Subscript_ (MR h (λo s₁ h₁=>MR h₁ (λi s₂ h₂=>?_) λ_ _ x=>x) λ_ _ x=>x);obtain⟨hT,h₂⟩:=h₂;unfold subscriptTail;refine LV ?_;rw[getitemInPython_of_ne hT.not_modules];refine LV (Pe hT hl ?_);have fin:RT (model prog w) A (subscripted slice false o i) (λr s₃=>RT (model prog w) A (letTemporaryGo value o r >>= λ_=>pure r) Q E s₃) E s₂:=by rw[hs o i];exact wpAny_operating (MR h₂ (λr s₃ h₃=>LV (wpAny_letTemporaryGo (LY h₃))) λ_ _ x=>x)
 first
  | exact LY (LV fin)
  | exact LV (LY (LV fin))
  | exact LV fin
def nc {X:Cx}{O:St}{H:Hp}{s:RE}{a:RD}{y:V}(I:Inv X vv O H s)(g:eP H a y o):s.TypeIs (.ref a) "dict":=by
 rcases g with ⟨Sj,k,e,_,_⟩ | ⟨Sj,k,b,e,_,_,_⟩
 .obtain⟨_,_,vs,_,dd⟩:=uo I.hok e;exact dd.typeIs
 .obtain⟨_,_,xs,_,dd⟩:=tq I.hok e;exact dd.typeIs
def DO (td ty:TE):TE:=λO H Q=>td O H λx H1=>ty O H1 λy H2=>∃a v,x = .ref a/\eP H2 a y (some v)/\Q v H2
def DA (td ty tv:TE):TS:=λD O H=>tv O H λv H1=>td O H1 λx H2=>ty O H2 λy H3=>∃a H4,x = .ref a/\iC H3 a y v H4/\D.nx O H4
section
variable {X:Cx}{o i e value:RL}{pos' tpos:Pos}{td ty tv:TE}
def Z9 (hu:X.A.units+1<Sa)(ho:PE X o td)(hi:PE X i ty)(hs:xD i):PE X (.Subscript o i pos) (DO td ty):=by intro vv s O H Q I h;refine qf PySem.F.slot_dict_getitem.lookup hs (thn (ho vv s O H _ I h) λu s1 ⟨x,H1,I1,rx,q1⟩=>thn (hi vv s1 O H1 _ I1 q1) λiv s2 ⟨y,H2,I2,ry,a,v,ex,g,q2⟩=>?_);subst ex;obtain rfl:u=RC.ref a:=rx;exact⟨nc I2 g,rK hu I2 g ry λw' s3 I3 rw'=>⟨v,H2,I3,rw',q2⟩⟩
def fF (hu:X.A.units+1<Sa)(ho:PE X o td)(hi:PE X i ty)(hv:PE X value tv)(hs:RV value (some (.Subscript o i pos')) pos.line X.env=pure false) :
  PS X (.Assign [.Subscript o i pos'] value pos) (DA td ty tv):=by intro vv s O H D I h;refine wpAny_Assign_Subscript (thn (hv vv s O H _ I h) λr s1 ⟨v,H1,I1,rv,q1⟩=>thn (ho vv s1 O H1 _ I1 q1) λu s2 ⟨x,H2,I2,rx,q2⟩=>thn (hi vv s2 O H2 _ I2 q2) λiv s3 ⟨y,H3,I3,ry,a,H4,ex,g,q3⟩=>?_) hs;subst ex;obtain rfl:u=RC.ref a:=rx;exact sU hu I3 g ry rv λs4 I4=>⟨O,H4,I4,q3⟩
end
def wg {P:RF}{w:RG}{H:Hp}(h:RM)(hb:sysModules<h.objs.size):D5 P w H (h.push { cls:=.type "dict",data:=.dict #[] }) h.objs.size (.dK []) :=
 ⟨Nj _,OD.2 (OU (MC hb)),[],.nil,RM.DictOf.new h⟩
section
variable {X:Cx}
end
def pj:List (TE×TE)->St->Hp->(List (V×V)->Hp->Prop)->Prop
 | [],_,H,Q=>Q [] H
 | (tk,tv)::r,O,H,Q=>tk O H λx H1=>tv O H1 λy H2=>pj r O H2 λps H3=>Q ((x,y)::ps) H3
abbrev VV :List (V×V)->List (RC×RC)->Prop:=Paired λp q=>u4 p.1 q.1/\u4 p.2 q.2
def PPs (X:Cx)(pos:Pos)(keys:List (Option RL))(values:List RL)(trs:List (TE×TE)):Prop :=
 ∀(vv:List (RD×RP)) (s:RE) (O:St) (H:Hp) (Q:List (V×V)->Hp->Prop),Inv X vv O H s->pj trs O H Q ->
  RT (model X.prog X.w) X.A (evalPairs (pairTrees keys values X.env pos)) (λvs s'=>∃ps H',Inv X vv O H' s'/\VV ps vs/\Q ps H') X.xe s
def yM {X:Cx}:PPs X pos [] [] []:=λvv s O H Q I h=>pairTrees_nil_walk ⟨[],H,I,.nil,h⟩
def cZ {X:Cx}{k v:RL}{ks:List (Option RL)}{vs:List RL}{tk tv:TE}(hk:PE X k tk)(hv:PE X v tv)(hr:PPs X pos ks vs trs) :
  PPs X pos (some k::ks) (v::vs) ((tk,tv)::trs):=λvv s O H Q I h =>
 pairTrees_cons_walk (thn (hk vv s O H _ I h) λu s1 ⟨x,H1,I1,rx,q1⟩=>thn (hv vv s1 O H1 _ I1 q1) λw2 s2 ⟨y,H2,I2,ry,q2⟩ =>
  thn (hr vv s2 O H2 _ I2 q2) λws s3 ⟨ps,H3,I3,rel,q3⟩=>⟨(x,y)::ps,H3,I3,.cons ⟨rx,ry⟩ rel,q3⟩)
def dI (Sj more:List (Key×V)):List (Key×V):=more.foldl (λacc kv=>L4 acc kv.1 kv.2) Sj
def KV.merge :∀{more:List (Key×V)} {rs:List (Key×RC)} {Sj:List (Key×V)} {vs:List (Key×RC)},KV more rs->KV Sj vs->KV (dI Sj more) (merged vs rs):=by
 intro more rs Sj vs r;unfold KV at r;induction r generalizing Sj vs with
 | nil=>intro q;exact q
 | @cons p q ps qs h t ih =>
  intro r0;have e:KV (L4 Sj p.1 p.2) (stored vs q.1 q.2):=by have:=r0.put p.1 h.2;rw[<-h.1];exact this
  exact ih e
theorem bM:∀(more Sj:List (Key×V)),(dI Sj more).length<=Sj.length+more.length
 | [],Sj=>by show Sj.length<=Sj.length+0;omega
 | p::r,Sj=>by have h1:=bM r (L4 Sj p.1 p.2);have h2:=aD Sj p.1 p.2;show(dI (L4 Sj p.1 p.2) r).length<=_;rw[Mf];omega
theorem gw {P:RF}{w:RG}:∀{Sj:List (Key×V)} {ws:List (RC×RC)},VV (Sj.map λkv=>(kV kv.1,kv.2)) ws->∃rs,Carries (C8 P w) ws rs/\KV Sj rs
 | [],_,r=>by rw[MI]at r;cases r;exact⟨[],True.intro,.nil⟩
 | p::Sj,_,r=>by
  rw[Ma]at r;cases r with
  | @cons a b as bs h t =>obtain⟨rs,c,q⟩:=gw (P:=P) (w:=w) t;obtain⟨b1,b2⟩:=b;exact⟨(p.1,b2)::rs,⟨qa h.1,rfl,c⟩,.cons ⟨rfl,h.2⟩ q⟩
def DZ (trs:List (TE×TE)):TE:=λO H Q=>∀p,H p=none->pj trs O (upd H p (.dK [])) λps H2=>H2 p=some (.dK [])/\∃Sj:List (Key×V),ps=Sj.map (λkv=>(kV kv.1,kv.2))/\Sj.length<=15/\Q (.ref p) (upd H2 p (.dK (dI [] Sj)))
def yt {X:Cx}{keys:List (Option RL)}{values:List RL}(h:PPs X pos keys values trs)(hall:keys.all (·.isSome)=true)(hl:keys.length=values.length)(h0:keys≠[])
  (h15:keys.length<=15):PE X (.Dict keys values pos) (DZ trs):=by
 intro vv s O H Q I q;have hn:=I.hok.fresh (Mh s.heap.objs.size);have I1:=I.laid (a:=s.heap.objs.size) (o:=.dK []) (h':=s.heap.push { cls:=.type "dict",data:=.dict #[] }) (t':=s.toks) (λ_ _ q=>LZ _ q) (Mh _) (wg s.heap I.big);refine wpAny_Dict_walk (knd:=C8 X.prog X.w) hall hl h0 h15 (thn (h vv _ O _ _ I1 (q _ hn)) λws s2 ⟨ps,H2,I2,rel,e,Sj,ep,lk,q2⟩=>?_);subst ep;obtain⟨rs,c,rk⟩:=gw (P:=X.prog) (w:=X.w) rel;obtain⟨z,hd,vs0,r0,dd⟩:=Aq I2.hok e;cases r0;refine⟨rs,c,dd,λh' dd' hs=>⟨.ref s.heap.objs.size,_,?_,rfl,q2⟩⟩;have hz:(dI [] Sj).length<=RN:=by have h1:=bM Sj [];rw[MP]at h1;rw[MQ];omega
 have he:∃q,h'.get? s.heap.objs.size=some q:=let ⟨q,_,_,hq,_⟩:=dd';⟨q,hq⟩;exact fI I2 (by rw[e];exact True.intro) hs he (wa hz hd (rk.merge .nil) dd')
structure M2 (X:Cx) (o:RL) (m:Str) (apos:Pos) (e f:RL) (cpos:Pos):Prop where
 base:RW o m X.env (eval o X.env)=eval o X.env
 few:((RR cpos (RO [e,f] X.env)).all (λx=>!x.1)&&(Se cpos (Sf [] X.env)).all (λx=>x.1.isSome)
  && decide (([e,f]:List RL).length+([]:List RS).length+(if ([]:List RS).isEmpty then 0 else 1)<30))=true
 line:(apos.endLine == cpos.line)=true
 trees:RR cpos (RO [e,f] X.env)=[(false,eval e X.env),(false,eval f X.env)]
section
variable {X:Cx}{O:St}{H:Hp}{s:RE}{a:RD}{y d:V}{u r:RC}{A:RH}{E:RC->RE->Prop}
end
section
variable {X:Cx}{o e f:RL}{apos cpos:Pos}{td ty tx:TE}
end
section
variable {X:Cx}{O:St}{H:Hp}{s:RE}{a:RD}{A:RH}{E:RC->RE->Prop}
end
section
variable {X:Cx}{O:St}{H:Hp}{s:RE}{a:RD}{y:V}{u:RC}{A:RH}{E:RC->RE->Prop}
end
end
end L2
namespace Att
open PySem PySem.W PySem.Calls PyProof.Rows
def fu {P:Params}{h:RM}:∀(ns:List Int) (vs:List RC),WellAll P h vs (ns.map WData.int)->IntsAre vs ns:=by
 intro ns;induction ns with
 | nil =>intro vs w;rw[MI]at w;cases w;exact .nil
 | cons n ns ih =>
  intro vs w;rw[Ma]at w;cases w with
  | cons a b =>cases a;exact .cons _ _ (ih _ b)
def sS {l:OpenLaw}{n:Nat}(hn:l.most=some n){P:Params}{h:RM}{args:List WData}{vals:List RC}
  (hpre:l.row.toRowW.claim.pre args=true) (hwl:WellAll P h vals args) :
  ∃a vs ns,vals=[RC.ref a]/\args=[WData.list (ns.map WData.int)]/\h.get? a=some { cls:=.type "list",data:=.seq vs.toArray }/\IntsAre vs ns/\ns.length<=n:=by
 have hsh:WShape.hasAll [] args [.list .int]=true:=(pre_splitW hpre).1;have hc:l.pre.holds [] { args:=args }=true:=(pre_splitW hpre).2;obtain⟨d,r,rfl,h1,h2⟩:=hasAllW_cons hsh;obtain rfl:=hasAllW_nil h2;obtain⟨xs,rfl,h3⟩:=hasW_list h1;obtain⟨ns,rfl⟩:=items_int h3;have hlen:ns.length<=n:=by
  unfold OpenLaw.pre at hc;have h4:(WTm.not (.lt (.lit (.int (n:Int))) (.len (.arg 0)))).holds [] { args:=[.list (ns.map .int)] }=true:=by have h4:=(holds_andW hc).1;rw[hn]at h4;exact h4
  have h5:=condW_of h4 (w_not (w_lt w_lit (w_len_list (w_arg rfl))));rw[LX]at h5;refine Nat.le_of_not_lt λq=>?_
  have q':(n:Int)<((ns.length:Nat):Int):=by omega
  first
   | (rw[Mv q']at h5;exact absurd h5 (by decide))
   | (simp at h5;omega)
 cases hwl with
 | cons w1 w2 =>
  cases w2;cases w1 with
  | list ho hall=>exact⟨_,_,ns,rfl,rfl,ho,fu ns _ hall,hlen⟩
def sF (l:OpenLaw)(args:List WData):l.row.toRowW.claim.post args (.bool true) args=true :=
 postW_of (r:=l.row.toRowW) (X:=(true == true))
  (show WShape.has [] (.bool true) .bool=true by first | rfl | decide | simp[WShape.has,WShape.arms,WShape.armsAll])
  (show(WTm.eq .res (.lit (.bool true))).value [] { args:=args,res:=some (.bool true),after:=args }=some (.bool (true == true)) from w_eq_bool (w_res rfl) w_lit) rfl
def attach_call {l:OpenLaw}{n:Nat}{q:RF}{loose:List Str}{XP:(Str->Option RC)->RM->Prop}{YP:RG->RM->Prop}{d:DefRec}
  (hn:l.most=some n) (hdf:d.params.defaults=[])
  (call:∀(w:RG) (s₀ s₁:RE) (mg mb:Str->Option RC) (fa:RD) (o:RP) (pm cd doc:RC) (a:RD) (vs:List RC) (ns:List Int),
   Ground q loose [] XP w s₀ mg mb s₁.heap->YP w s₁.heap ->
   s₁.heap.get? fa=some o->o.data = .func (docDef d.name d.params d.body d.scope pm cd doc)->s₁.heap.CodeRec cd d.name->mg d.name=some (.ref fa) ->
   s₁.heap.get? a=some { cls:=.type "list",data:=.seq vs.toArray }->IntsAre vs ns->ns.length<=n->s₁.gens = #[] ->
   codeAny (model l.prog w) callerA (.call (.ref fa) ⟨[.ref a],[]⟩) (λr s'=>r = .ok (.ret (.bool true))/\OldK s₁.heap s'.heap/\s'.os=s₁.os/\AllBare s'.gens) s₁) :
  WalkO q loose XP YP l.row.toRowW d [] (λf vs=>PySem.call f vs):=by intro w s₀ s₁ mg mb G Y fa o pm cd doc dV kV ho hd hcd hD hmg hg args vals as hpre hlay hrd hwl hlo;obtain rfl:dV = .none:=Dflts.none hD hdf;obtain rfl:kV = .none:=Dflts.noKw hD;obtain⟨a,vs,ns,rfl,rfl,hobj,hints,hlen⟩:=sS hn hpre hwl;refine enter_call (codeAny_mono (call w s₀ s₁ mg mb fa o pm cd doc a vs ns G Y ho (fd_plain hd) hcd hmg hobj hints hlen hg) λr s' hq=>?_);obtain⟨rfl,h2,h3,h4⟩:=hq;exact⟨.inl ⟨.bool true,.bool true,[],rfl,λ_=>rfl,.bool true,sF l _,λ_=>⟨List.Pairwise.nil,λ_ hm=>(nomatch hm)⟩⟩,h2,h3,h4⟩
section
variable {prog:RF}{w:RG}{A:RH}{E:RC->RE->Prop}{s:RE}{K:Frag}
end
end Att
namespace L2
open PySem PySem.Spec PyProof.Rows
section
theorem eR:∀{vs:List RC} {ns:List Int},IntsAre vs ns->p8 (ns.map V.int) vs
 | _,_,.nil=>.nil
 | _,_,.cons n t h=>.cons ⟨t,rfl⟩ (eR h)
end
section
end
end L2
namespace L2
open PySem PySem.Spec PyProof.Rows
def defArgs (s:RK):Arguments:=match s with
 | .FunctionDef _ a _ _ _ _ _ _ _ _=>a
 | _=>{ posonlyargs:=[],args:=[],vararg:=none,kwonlyargs:=[],kw_defaults:=[],kwarg:=none,defaults:=[] }
def defBody (s:RK):List RK:=match s with
 | .FunctionDef _ _ b _ _ _ _ _ _ _=>b
 | _=>[]
def defScope (s:RK):RI:=match s with
 | .FunctionDef _ _ _ _ _ _ sc _ _ _=>sc
 | _=>{ kind:=.function,names:=[],isGenerator:=false,isCoroutine:=false }
abbrev CX0:CXT:=λ_ _ _ _ _ _=>False
abbrev E0:XK:=λ_ _ _=>False
def zU {X:Cx}:pK CX0 X E0:=λ_ _ _ _ _ _ _ h=>h.elim
structure Fun (K:Fg) (x qual:Str) (st:RK) (f:RD) (fd:RJ):Prop where
 ex:∃(oc:RC) (od:Option RD) (kV doc pm:RC) (an:Option RD) (Si ct:RC) (osl:Array (Option RC)),
  fd=PySem.W.fnOf x qual (defArgs st) (defBody st) (defScope st) .none kV doc pm an Si ct/\K.lookup f=some ⟨oc,od,.func fd,osl⟩/\PySem.W.codeIn K Si qual=true
 kp:PySem.W.keepIn K (.ref f)=true
section
variable {P:RF}{w:RG}{K:Fg}{mg:Str->Option RC}{base:RM}
def Fun.ok {x qual:Str}{st:RK}{f:RD}{fd:RJ}{N ps:List Str}{k:Nat}{sp:Sp}(F:Fun K x qual st f fd)(S:FnScope N ps (defScope st))(len:∀vs H Q E,sp vs H Q E->vs.length=ps.length)
  (hbody:∀(Si:RC) (A:RH) (outer:List RQ) (s:RE) (H:Hp) (vs:List V) (Q:VK) (E:XK),Room k (A.deeper (envOfC qual (defScope st) s.heap.objs.size f Si))->sp vs H Q E ->
   ∃t,PSs (U1 CX0 P w K mg base N qual (defScope st) f Si A outer s H E).nox (defBody st) t/\t { nx:=λ_ H'=>Q .non H',rt:=Q } (T7 N vs) H):FnOk P w K mg base CX0 (k+1) f fd ps sp:=by
 obtain⟨oc,od,kV,doc,pm,an,Si,ct,osl,rfl,lk,hcd⟩:=F.ex;refine zH lk hcd S len λA outer s H vs Q E hr hsp=>?_
 obtain⟨t,h,q⟩:=hbody Si A outer s H vs Q E hr hsp;exact⟨t,h.nox,q⟩
def Fun.binds {x qual:Str}{st:RK}{f:RD}{fd:RJ}{ps:List Str}(F:Fun K x qual st f fd)
  (h:∀(kV doc pm:RC) (an:Option RD) (Si ct:RC) (us:List RC),us.length=ps.length->bindArgs (PySem.W.fnOf x qual (defArgs st) (defBody st) (defScope st) .none kV doc pm an Si ct) ⟨us,[]⟩=pure (ps.zip us)):fm K fd ps []:=by obtain⟨oc,od,kV,doc,pm,an,Si,ct,osl,rfl,lk,hcd⟩:=F.ex;exact .all (h kV doc pm an Si ct)
def fun_mk {x qual:Str}{st:RK}{f:RD}{oc:RC}{od an:Option RD}{osl:Array (Option RC)}{kV doc pm Si ct:RC}(l:K.lookup f=some ⟨oc,od,.func (PySem.W.fnOf x qual (defArgs st) (defBody st) (defScope st) .none kV doc pm an Si ct),osl⟩)
  (c:PySem.W.codeIn K Si qual=true) (k:PySem.W.keepIn K (.ref f)=true):Fun K x qual st f (PySem.W.fnOf x qual (defArgs st) (defBody st) (defScope st) .none kV doc pm an Si ct):=⟨⟨oc,od,kV,doc,pm,an,Si,ct,osl,rfl,l,c⟩,k⟩
end
def CI {A:RH}{k:Nat}(hr:Room k A):A.units+1<Sa:=MJ (Nu (by decide:1<=64) _) hr.units
def jo {n:Nat}(h:n<=1000):n<RN:=MJ h (by decide)
section
variable {X:Cx}
def pv (i:Nat){x:Str}{pos:Pos}(hN:X.N[i]? = some x:=by rfl)(hv:Vis X.env.scope x:=by walk_at "v")(hd:(x == ("__debug__":Str))=false:=by decide)
  (hcd:(x == ("__classdict__":Str))=false:=by decide):PE X (.Name x pos) (cF i):=W0 hN hv hd hcd
end
def DJ {A B:Prop}(h:B):if false=true then A else B:=by rw[Md Mz];exact h
def rP {c A B:Prop}[Decidable c](h1:c->A)(h2:¬c->B):if c then A else B:=by
 by_cases h:c
 .rw[Mb h];exact h1 h
 .rw[Md h];exact h2 h
def l6 (H H':Hp):Prop:=∀b o,H b=some o->H' b=some o
def l6.refl (H:Hp):l6 H H:=λ_ _ h=>h
def l6.seq {K:Fg}{H H':Hp}{a:RD}{xs:List V}(e:l6 H H')(h:SqL K H a xs):SqL K H' a xs:=by
 rcases h with (h | ⟨o,h⟩) | h
 .exact .inl (.inl (e _ _ h))
 .exact .inl (.inr ⟨o,e _ _ h⟩)
 .exact .inr h
section
variable {X:Cx}
end
section
variable {κ:Type}[DecidableEq κ]
end
end L2
set_option maxHeartbeats 4000000
namespace L2
open PySem PySem.Spec PyProof.Rows
variable {scope:RI}{env:RQ}{elt iter:RL}{pos:Pos}{ifs:List RL}
section
def E9 (f:Str->RD):List (Str×Sd)->List (Str×RD)->List (Str×RD)
 | [],acc=>acc
 | (n,kd)::r,acc=>E9 f r (if (kd == Sd.free)=true then(n,f n)::acc else acc)
def J4 {f:Str->RD}(h:∀y∈scope.names,y.2 = .free->cellOf env y.1=pure (f y.1)) :
  closureFor scope env=pure (E9 f scope.names []):=by
 have key:∀(l:List (Str×Sd)) (acc:List (Str×RD)),(∀y∈l,y.2 = .free->cellOf env y.1=pure (f y.1)) ->
   (forIn l acc (λ(x:Str×Sd) (cs:List (Str×RD))=>if (x.2 == Sd.free)=true then(do let c <-cellOf env x.1;pure (ForInStep.yield ((x.1,c)::cs))) else pure (ForInStep.yield cs)):Sem (List (Str×RD)))=pure (E9 f l acc):=by
  intro l;induction l with
  | nil=>intro acc _;rfl
  | cons y r ih =>
   intro acc hy;obtain⟨n,kd⟩:=y;rw[Rz];by_cases hk:(kd == Sd.free)=true
   .have e:kd = .free:=by simpa using hk
    have hc:=hy (n,kd) Me e;simp only[hk,Nk];dsimp only at hc;rw[hc];show(forIn r ((n,f n)::acc) _:Sem _)=_;rw[ih _ λz hz=>hy z (Mc _ hz)];simp only[E9,hk,Nk]
   .simp only[hk,Nf];show(forIn r acc _:Sem _)=_;rw[ih _ λz hz=>hy z (Mc _ hz)];simp only[E9,hk,Nf];rfl
 have:=key scope.names [] h;unfold closureFor;show(forIn scope.names [] _ >>= λr=>pure r)=_;rw[show(forIn scope.names ([]:List (Str×RD)) _:Sem _)=_ from this];rfl
theorem M9 {f:Str->RD}:∀(l:List (Str×Sd)) (acc:List (Str×RD)) {x:Str} {c:RD},(E9 f l acc).lookup x=some c->((x,Sd.free)∈l/\c=f x)\/acc.lookup x=some c
 | [],_,_,_,h=>.inr h
 | (n,kd)::r,acc,x,c,h=>by
  rw[E9]at h;rcases M9 r _ h with ⟨h1,h2⟩ | h1
  .exact .inl ⟨Mc _ h1,h2⟩
  .by_cases hk:(kd == Sd.free)=true
   .rw[Mb hk]at h1;have e:kd = .free:=by simpa using hk
    subst e;by_cases hx:x=n
    .subst hx;simp at h1;exact .inl ⟨Me,h1.symm⟩
    .have hb:(x == n)=false:=OD.2 hx;rw[Nl,hb]at h1;exact .inr h1
   .rw[Md hk]at h1;exact .inr h1
theorem X4 {f:Str->RD}:∀(l:List (Str×Sd)) (acc:List (Str×RD)) {x:Str},((x,Sd.free)∈l\/acc.lookup x=some (f x))->(E9 f l acc).lookup x=some (f x)
 | [],_,_,h=>by
  rcases h with h | h
  .exact absurd h (by simp)
  .exact h
 | (n,kd)::r,acc,x,h=>by
  rw[E9];refine X4 r _ ?_;by_cases hk:(kd == Sd.free)=true
  .rw[Mb hk];have e:kd = .free:=by simpa using hk
   subst e;by_cases hx:x=n
   .subst hx;exact .inr (by simp)
   .have hb:(x == n)=false:=OD.2 hx;rcases h with h | h
    .rcases Mi.1 h with z | z
     .cases z;exact absurd rfl hx
     .exact .inl z
    .exact .inr (by rw[Nl,hb];exact h)
  .rw[Md hk];rcases h with h | h
   .rcases Mi.1 h with z | z
    .cases z;exact absurd rfl hk
    .exact .inl z
   .exact .inr h
def mV {x:Str}(h:(relabel scope env).names.lookup x=some .cell\/(relabel scope env).names.lookup x=some .free):(x,Sd.free)∈scope.names\/(x,Sd.cell)∈scope.names:=by
 have go:∀kd,(relabel scope env).names.lookup x=some kd->kd = .cell\/kd = .free->(x,Sd.free)∈scope.names\/(x,Sd.cell)∈scope.names:=by
  intro kd h hk;have hm:=Na h;unfold relabel at hm;obtain⟨⟨n,k0⟩,hy,e⟩:=ML.1 hm;by_cases hc:(k0 == Sd.free&&env.scope.kind == .function&&env.kindOf n == some .cell)=true
  .simp only[hc,Nk]at e;cases e;have:k0 = .free:=by simp only[OV]at hc;simpa using hc.1.1
   subst this;exact .inl hy
  .simp only[hc,Nf]at e;cases e;rcases hk with r | r
   .subst r;exact .inr hy
   .subst r;exact .inl hy
 rcases h with h | h
 .exact go _ h (.inl rfl)
 .exact go _ h (.inr rfl)
def O5 (scope:RI)(cl:List (Str×RD))(n:Nat):List (Str×RD):=cellsFrom (n+1) scope.names cl
theorem L9:∀(names:List (Str×Sd)) (n:Nat) (acc:List (Str×RD)),cellsFrom n names acc=cellsFrom n names []++acc
 | [],_,_=>rfl
 | (x,k)::r,n,acc=>by
  unfold cellsFrom;split
  .rw[L9 r (n+1) ((x,n)::acc),L9 r (n+1) [(x,n)],Ql];rfl
  .exact L9 r n acc
theorem aX:∀(names:List (Str×Sd)) (n:Nat) {x:Str} {c:RD},(x,c)∈cellsFrom n names []->(x,Sd.cell)∈names
 | [],_,_,_,h=>by cases h
 | (y,k)::r,n,x,c,h=>by
  unfold cellsFrom at h;split at h
  .rename_i hk;rw[L9]at h;rcases NO.1 h with h | h
   .exact Mc _ (aX r (n+1) h)
   .have hk:k = .cell:=by simpa using hk
    subst hk;cases Ni.1 h;exact Me
  .exact Mc _ (aX r n h)
theorem uu {α:Type}:∀{l r:List (Str × α)} {x:Str} {c:α},(l++r).lookup x=some c->l.lookup x=some c\/(l.lookup x=none/\r.lookup x=some c)
 | [],r,x,c,h=>.inr ⟨rfl,h⟩
 | (y,v)::l,r,x,c,h=>by
  rw[MA,Nl]at h;rw[Nl];cases hb:x == y with
  | true=>rw[hb]at h;exact .inl h
  | false=>rw[hb]at h;exact uu h
theorem jU {α:Type}:∀{l r:List (Str × α)} {x:Str},l.lookup x=none->(l++r).lookup x=r.lookup x
 | [],r,x,h=>rfl
 | (y,v)::l,r,x,h=>by
  rw[Nl]at h;rw[MA,Nl];cases hb:x == y with
  | true=>rw[hb]at h;cases h
  | false=>rw[hb]at h;exact jU h
theorem jw {α:Type}:∀{l r:List (Str × α)} {x:Str} {c:α},l.lookup x=some c->(l++r).lookup x=some c
 | [],r,x,c,h=>by cases h
 | (y,v)::l,r,x,c,h=>by
  rw[Nl]at h;rw[MA,Nl];cases hb:x == y with
  | true=>rw[hb]at h;exact h
  | false=>rw[hb]at h;exact jw h
def pG {M:Model}{A:RH}{E:RC->RE->Prop}{s:RE}{globals:RD}{closure:List (Str×RD)}{qual:Str}{func:Option RD}{code:RC}{builtins:RD}{Q:RQ->RE->Prop}
  (hQ:∀h₁:RM,h₁.Ns s.heap.objs.size (λ_=>none)->(∀b o,s.heap.get? b=some o->h₁.get? b=some o)->CellsOk h₁ (s.heap.objs.size+1) (cellsFrom (s.heap.objs.size+1) scope.names []) ->
   Q (newEnv scope s.heap.objs.size globals (cellsFrom (s.heap.objs.size+1) scope.names closure) qual func code (some env) builtins) { s with heap:=h₁ }) :
  RT M A (newFunctionEnv scope globals closure [] qual func code (some env) builtins) Q E s:=by simp only[newFunctionEnv,OK,Nk];refine LV (wpAny_alloc ?_);refine LV (wpAny_layCells _ (λname kind cells=>by cases hkc:kind == Sd.cell <;> simp[hkc]) _ _ _ _ ?_);have ok:=cellsFrom_ok scope.names (s.heap.push { cls:=.type "dict",data:=.dict #[] }) (s.heap.objs.size+1) [] ⟨λ_ _ hm=>(nomatch hm),List.Pairwise.nil⟩ (by rw[NB];exact Mh _);rw[NB]at ok;rw[show({ s with heap:=s.heap.push { cls:=.type "dict",data:=.dict #[] } }:RE).heap.objs.size=s.heap.objs.size+1 from NB ..];rw[List.forIn_nil];refine LV (LY (LY ?_));exact hQ _ ((RM.Ns.new s.heap (.type "dict")).keeps (pushCells_keeps _ _)) (λb o e=>pushCells_keeps _ _ b o (LZ _ e)) ok
theorem bL {φ:Str×Sd->Str×Sd}(hφ:∀n k,φ (n,k)=(n,k)\/(k = .free /\ φ (n,k)=(n,.cell))):∀{names:List (Str×Sd)} {x:Str},names.lookup x=some .free->(names.map φ).lookup x=some .cell\/(names.map φ).lookup x=some .free
 | [],_,h=>by simp at h
 | (n,k)::r,x,h=>by
  have ih:=@bL φ hφ r x;rw[Ma];cases hx:x == n with
  | true =>
   simp only[Nl,hx]at h;cases h;rcases hφ n .free with e | ⟨_,e⟩
   .rw[e,Nl,hx];exact .inr rfl
   .rw[e,Nl,hx];exact .inl rfl
  | false =>
   simp only[Nl,hx]at h;rcases hφ n k with e | ⟨_,e⟩
   .rw[e,Nl,hx];exact ih h
   .rw[e,Nl,hx];exact ih h
def ky {x:Str}(h:scope.names.lookup x=some .free):(relabel scope env).names.lookup x=some .cell\/(relabel scope env).names.lookup x=some .free:=by
 unfold relabel;refine bL (λn k=>?_) h;by_cases hc:(k == Sd.free&&env.scope.kind == .function&&env.kindOf n == some .cell)=true
 .refine .inr ⟨?_,Mb hc⟩;simp only[OV]at hc;simpa using hc.1.1
 .exact .inl (Md hc)
def pW (target iter:RL)(ifs:List RL)(it:RC)(env:RQ)(act:Sem Fin->Sem Fin)(more:Sem Fin):Sem Fin:=do
 standAt iter.pos
 match <-pyNext it with
 | none=>pure (.done .next)
 | some v =>
  letOwnedTupleGo target it v
  assign target env v
  let mut ok:=true
  for c in ifs do
   if ok then ok <-isTrue c env (eval c env)
  if ok then act more else more
def lM (elt:RL)(acc:RC)(env:RQ):Sem Unit:=do let _ <-call (.builtin "list.append") [acc,<-eval elt env]
section
variable {prog:RF}{w:RG}{A:RH}{R:Result->RE->Prop}{s:RE}
def DR {gens:List Comprehension}{d:Nat}{it acc:RC}{target:RL}{act:Sem Fin->Sem Fin}(I:Nat->RE->Prop)
  (ht:compTurn (.ListComp elt gens scope pos) d it acc env=pW target iter ifs it env act (again (.compLoop (.ListComp elt gens scope pos) d it acc env)))
  (turn:∀n s,I n s->RT (model prog w) A (pyNext it) (λr s₁=>match r with
   | none=>R (.ok .next) s₁
   | some v=>RT (model prog w) A (letOwnedTupleGo target it v) (λ_ s₀=>RT (model prog w) A (assign target env v) (λ_ s₂ =>
     RT (model prog w) A (forIn ifs true λc r=>if r=true then do let ok <-isTrue c env (eval c env);pure (ForInStep.yield ok) else pure (ForInStep.yield r)) (λok s₃ =>
      if ok=true then ∀(k:Sem Fin) (Q:Fin->RE->Prop) (E:RC->RE->Prop),(∀s₅,(∃m,m<n/\I m s₅)->RT (model prog w) A k Q E s₅)->RT (model prog w) A (act k) Q E s₃
      else ∃m,m<n/\I m s₃) (λ_ _=>False) s₂) (λ_ _=>False) s₀) (λ_ _=>False) s₁) (λ_ _=>False) s)
  (n:Nat) (h:I n s):codeAny (model prog w) A (.compLoop (.ListComp elt gens scope pos) d it acc env) R s:=by
 refine codeAny_loop rfl I (λn s hI=>?_) n h;show RT _ A ((compTurn (.ListComp elt gens scope pos) d it acc env).onRaise (λx=>do noteFrame x env;theTreesLotGoes x)) _ _ s;refine wpAny_noted ?_;rw[ht];unfold pW;refine LV (Pb (LV (MR (turn n s hI) (λr s₁ h₁=>?_) λ_ _ h'=>h'.elim)));cases r with
 | none=>exact LY h₁
 | some v =>
  refine LV (MR h₁ (λ_ s₀ h₀=>?_) λ_ _ h'=>h'.elim);refine LV (MR h₀ (λ_ s₂ h₂=>LV (MR h₂ (λok s₃ h₃=>?_) λ_ _ h'=>h'.elim)) λ_ _ h'=>h'.elim);cases ok with
  | false=>exact LY ⟨rfl,h₃⟩
  | true=>exact h₃ _ _ _ λs₅ h₅=>LY ⟨rfl,h₅⟩
end
def cf (k:Nat)(cap:List Nat)(O:St):St:=List.replicate k none++cap.map λj=>(O[j]?).join
structure Caps (ON:List Str) (osc:RI) (N:List Str) (k:Nat) (cap:List Nat) (scope:RI):Prop where
 kind:scope.kind = .function
 cell:∀y∈scope.names,y.2 = .cell->scope.names.lookup y.1=some .cell
 loc:∀y∈scope.names,y.2 = .local->scope.names.lookup y.1=some .local
 free:∀y∈scope.names,y.2 = .free->osc.names.lookup y.1=some .cell\/osc.names.lookup y.1=some .free
 len:N.length=k+cap.length
 capx:(cap.map λj=>ON[j]?)=(N.drop k).map some
 capf:∀x∈N.drop k,scope.names.lookup x=some .free
def cxC (X:Cx)(N:List Str)(scope:RI)(cl:List (Str×RD))(C:RD)(ex:List RD)(vv:List (RD×RP))(s₀:RE)(H₀:Hp):Cx where
 prog:=X.prog
 w:=X.w
 K:=X.K
 mg:=X.mg
 base:=X.base
 A:=X.A
 N:=N
 s₀:=s₀
 H₀:=H₀
 env:=compEnvC scope cl C X.env
 outer:=X.stack
 stack:=X.stack
 ex:=ex
 fn:=λx=>match scope.names.lookup x with
  | some .cell=>true
  | _=>false
 calm:=X.calm
 pn:=X.pn++vv
 xe:=λ_ _=>False
def PTs (X:Cx)(ifs:List RL)(t:TT):Prop :=
 ∀(vv:List (RD×RP)) (s:RE) (O:St) (H:Hp) (Q:Bool->Hp->Prop),Inv X vv O H s->t O H Q ->
  RT (model X.prog X.w) X.A (forIn ifs true λc r=>if r=true then do let ok <-isTrue c X.env (eval c X.env);pure (ForInStep.yield ok) else pure (ForInStep.yield r)) (TP X vv O Q) X.xe s
def CM :TT:=λ_ H Q=>Q true H
def zB {X:Cx}:PTs X [] CM:=λ_ _ _ H _ I h=>wpAny_tests_nil ⟨H,I,h⟩
def xB {X:Cx}{c:RL}{t:TT}(h:PT X c t):PTs X [c] t:=λvv s O H Q I q=>wpAny_tests_one (h vv s O H Q I q)
def tLC (wi:TI)(k:Nat)(cap:List Nat)(g:TG)(tt:TT)(te:TE):TE:=λO H Q=>wi O H λJ H1=>∀D,H1 D=none ->
 ∃W:Nat->Nat->St->List V->Hp->Prop,(∃m,W 0 m (cf k cap O) [] (upd H1 D (.lst [])))/\∀i m O' acc H',W i m O' acc H' ->
  (J.stop i H'/\Q (.ref D) H') \/
  (J.go i H'/\∀x H2,J.yld i H' x H2->g x O' H2 λσ2 H3=>tt σ2 H3 λok H4=>if ok=true then te σ2 H4 λy H5=>H5 D=some (.lst acc)/\acc.length<RN/\∃m',m'<m/\W (i+1) m' σ2 (acc++[y]) (upd H5 D (.lst (acc++[y])))
   else H4 D=some (.lst acc)/\∃m',m'<m/\W (i+1) m' σ2 acc H4)
abbrev TM :=St->Hp->(St->Hp->Prop)->Prop
def PM (Y:Cx)(act:Sem Fin->Sem Fin)(t:TM):Prop:=∀(vv:List (RD×RP)) (s:RE) (O:St) (H:Hp) (Q:St->Hp->Prop),Inv Y vv O H s->t O H Q ->
 ∀(k:Sem Fin) (R:Fin->RE->Prop) (E:RC->RE->Prop),(∀s' O' H',Inv Y vv O' H' s'->Q O' H'->RT (model Y.prog Y.w) Y.A k R E s')->RT (model Y.prog Y.w) Y.A (act k) R E s
def lp {X:Cx}{tg:RL}{rest:List Comprehension}{osc:RI}{N:List Str}{k:Nat}{cap:List Nat}{g:TG}{tt:TT}{cl:List (Str×RD)}{act:RQ->Sem Fin->Sem Fin}
  {vv:List (RD×RP)} {O:St} {H3:Hp} {s3:RE} {D it:RD} {fp:List RD} {tn:Nat->RM->Prop} {J:It} {Qs:Hp->Prop} {W:Nat->Nat->St->Hp->Prop} {m0:Nat} {P:RD->Result->RE->Prop}
  (hturn:∀env,compTurn (.ListComp elt (⟨tg,iter,ifs,0⟩::rest) scope pos) 0 (.ref it) (.ref D) env=pW tg iter ifs (.ref it) env (act env) (again (.compLoop (.ListComp elt (⟨tg,iter,ifs,0⟩::rest) scope pos) 0 (.ref it) (.ref D) env)))
  (hc:X.calm=true) (hosc:X.env.scope=osc) (hcap:Caps X.N osc N k cap scope)
  (hcl:∀{x:Str} {c:RD},cl.lookup x=some c->X.env.cells.lookup x=some c) (hhas:∀x,(x,Sd.free)∈scope.names->∃c,cl.lookup x=some c)
  (hg:∀cl C ex vv s H,PG (cxC X N scope cl C ex vv s H) tg g)
  (ht:∀cl C ex vv s H,PTs (cxC X N scope cl C ex vv s H) ifs tt)
  (I3:Inv X vv O H3 s3) (T:Turn X.prog X.w X.K tg J fp it tn) (st:tn 0 s3.heap) (f3:∀b∈fp,cE X vv H3 b) (w0:W 0 m0 (cf k cap O) H3)
  (hend:∀s6 σ5 H5,Inv (cxC X N scope (O5 scope cl s3.heap.objs.size) s3.heap.objs.size fp vv s3 H3) [] σ5 H5 s6->Inv X vv O H5 s6->Qs H5->P s3.heap.objs.size (.ok .next) s6)
  (turn:∀i m O' H',W i m O' H'->(J.stop i H'/\Qs H') \/
   (J.go i H'/\∃C:Bool->St->Hp->Prop,(∀x H2,J.yld i H' x H2->g x O' H2 λσ2 H3=>tt σ2 H3 λok H4=>C ok σ2 H4)/\(∀σ2 H4,C false σ2 H4->∃m',m'<m/\W (i+1) m' σ2 H4) /\
    ∀(pins':List (RD×RP)) (s:RE) (σ2:St) (H4:Hp),Inv (cxC X N scope (O5 scope cl s3.heap.objs.size) s3.heap.objs.size fp vv s3 H3) pins' σ2 H4 s->C true σ2 H4->∀(k:Sem Fin) (R:Fin->RE->Prop) (E:RC->RE->Prop),
     (∀s' σ3 H5,Inv (cxC X N scope (O5 scope cl s3.heap.objs.size) s3.heap.objs.size fp vv s3 H3) pins' σ3 H5 s'->(∃m',m'<m/\W (i+1) m' σ3 H5)->RT (model X.prog X.w) X.A k R E s')->RT (model X.prog X.w) X.A (act (compEnvC scope (O5 scope cl s3.heap.objs.size) s3.heap.objs.size X.env) k) R E s)) :
  RT (model X.prog X.w) X.A (newFunctionEnv scope X.env.globals cl [] X.env.qual none .none (some X.env)) (λcenv s₄ =>
   codeAny (model X.prog X.w) X.A (.compStart (.ListComp elt (⟨tg,iter,ifs,0⟩::rest) scope pos) 0 (.ref it) (.ref D) { cenv with scope:=relabel scope X.env }) (P cenv.locals) s₄) X.xe s3:=by
 refine pG λh₁ hns₁ old okc=>?_
 have ownS:∀{x:Str} {c:RD},(O5 scope cl s3.heap.objs.size).lookup x=some c->((cellsFrom (s3.heap.objs.size+1) scope.names []).lookup x=some c/\scope.names.lookup x=some .cell/\h₁.IsCell c none/\s3.heap.objs.size<c)\/cl.lookup x=some c:=λ{x c} e=>by
  unfold O5 at e;rw[L9]at e;rcases uu e with z | z
  .have hm:=Na z;obtain⟨a1,a2⟩:=okc.empty x c hm;exact .inl ⟨z,hcap.cell _ (aX _ _ hm) rfl,a1,a2⟩
  .exact .inr z.2
 have clt:∀{x:Str} {c:RD},cl.lookup x=some c->c<s3.heap.objs.size:=λ{x c} e=>by obtain⟨v,z⟩:=I3.cell x c (hcl e);exact z.lt
 have ownF:∀{x:Str},scope.names.lookup x=some .free->(O5 scope cl s3.heap.objs.size).lookup x=cl.lookup x:=λ{x} e=>by
  unfold O5;rw[L9];refine jU ?_;cases q:(cellsFrom (s3.heap.objs.size+1) scope.names []).lookup x with
  | none=>rfl
  | some c =>have z:=hcap.cell _ (aX _ _ (Na q)) rfl;rw[e]at z;cases z
 have ownI:∀x y c,(O5 scope cl s3.heap.objs.size).lookup x=some c->(O5 scope cl s3.heap.objs.size).lookup y=some c->x=y:=λx y c h1 h2=>by
  rcases ownS h1 with ⟨a1,_,_,a4⟩ | a <;> rcases ownS h2 with ⟨b1,_,_,b4⟩ | b
  .exact name_of_addr okc.apart (Na a1) (Na b1)
  .exact absurd (clt b) (Nat.not_lt.2 (Ov a4))
  .exact absurd (clt a) (Nat.not_lt.2 (Ov b4))
  .exact I3.ok.inj x y c (hcl a) (hcl b)
 have ownH:∀x,((relabel scope X.env).names.lookup x=some .cell\/(relabel scope X.env).names.lookup x=some .free)->∃c,(O5 scope cl s3.heap.objs.size).lookup x=some c:=λx hx=>by
  unfold O5;rw[L9];cases q:(cellsFrom (s3.heap.objs.size+1) scope.names []).lookup x with
  | some c=>exact⟨c,jw q⟩
  | none =>
   rcases mV hx with z | z
   .obtain⟨c,e⟩:=hhas x z;exact⟨c,(jU q).trans e⟩
   .have y:=Pi scope.names (s3.heap.objs.size+1) [] (.inl (hcap.cell _ z rfl));rw[q]at y;cases y
 have ownA:∀x c,(cxC X N scope (O5 scope cl s3.heap.objs.size) s3.heap.objs.size fp vv s3 H3).fn x=true->(O5 scope cl s3.heap.objs.size).lookup x=some c->s3.heap.objs.size<=c:=λx c h e=>by
  rcases ownS e with ⟨_,_,_,a4⟩ | a
  .exact Ov a4
  .have hx:scope.names.lookup x=some .cell:=by
    have h:(match scope.names.lookup x with | some .cell=>true | _=>false)=true:=h;split at h
    .assumption
    .cases h
   have y:=Pi scope.names (s3.heap.objs.size+1) [] (.inl hx);obtain⟨c',hc'⟩:=Np.1 y;have e2:(O5 scope cl s3.heap.objs.size).lookup x=some c':=by unfold O5;rw[L9];exact jw hc'
   rw[e]at e2;cases e2;exact Ov (okc.empty x c (Na hc')).2
 have neC:∀b∈fp,b≠s3.heap.objs.size:=λb hb=>by obtain⟨o,e,_⟩:=T.obj _ _ st b hb;exact MC (Mm e)
 have cne:∀b∈fp,∀{x:Str} {c:RD},(O5 scope cl s3.heap.objs.size).lookup x=some c->c≠b:=λb hb {x c} e=>by
  rcases ownS e with ⟨_,_,_,a4⟩ | a
  .obtain⟨o,e,_⟩:=T.obj _ _ st b hb;exact OU (MC (Rr (Mm e) a4))
  .exact(f3 b hb).2.2.2.2.1 x c (hcl a)
 have freeC:∀{x:Str} {c:RD},(O5 scope cl s3.heap.objs.size).lookup x=some c->H3 c=none:=λ{x c} e=>by
  rcases ownS e with ⟨_,_,_,a4⟩ | a
  .exact I3.hok.fresh (Ov a4)
  .exact I3.freeC x c (hcl a)
 have nofs:∀{b:RD},b≠X.env.locals->b ∉ X.fs->b ∉ frs X.stack:=λ{b} h1 h2 z=>(Mi.1 (I3.stkSub b z)).elim h1 h2
 have IY:Inv (cxC X N scope (O5 scope cl s3.heap.objs.size) s3.heap.objs.size fp vv s3 H3) [] (cf k cap O) H3 { s3 with heap:=h₁ }:=by
  refine⟨⟨I3.ok.mod,hcap.kind,I3.ok.glob,I3.ok.blt,Mh _,ownI,ownH,ownA,I3.ok.hd,I3.ok.frames,.inl rfl,
   λb hb=>⟨neC b hb,λx c e=>cne b hb e⟩,I3.bs,MK I3.ok.bsz I3.sz,λb o e hb=>?_,λb hb=>nofs (f3 b hb).2.1 (f3 b hb).2.2.1,I3.stack,I3.stkFree⟩,
   rfl,I3.bare,Un.kept old,⟨_,hns₁,λi x v e1 e2 e3=>?_⟩,λx c e=>?_,I3.hok.fresh (Mh _),λx c e=>freeC e,λp hp=>?_,I3.hok.kept old,?_⟩
  .rcases(f3 b hb).2.2.2.1 with z | z
   .exact I3.ok.noex b o e z
   .exact absurd (Mx (Mm e) (MK I3.ok.bsz z)) (Nv _)
  .by_cases hi:i<k
   .unfold cf at e2;rw[Ou (by simpa using hi),NG,Mb hi]at e2;cases e2
   .obtain⟨d,rfl⟩:∃d,i=k+d:=⟨i-k,by omega⟩;unfold cf at e2;rw[Oj (by simp),NY,Nat.add_sub_cancel_left,Mt]at e2;obtain⟨j,hj,hv⟩:=Ms.1 e2;have hσ:O[j]? = some (some v):=by
     cases q:O[j]? with
     | none=>rw[q]at hv;cases hv
     | some o=>rw[q]at hv;exact Nn some hv
    have e1':(N.drop k)[d]? = some x:=by rw[List.getElem?_drop];exact e1
    have hx:X.N[j]? = some x:=by have z:=Nn (λl=>l[d]?) hcap.capx;simp only[Mt,hj,e1',QM]at z;exact Mg z
    have hfr:=hcap.capf x (MU e1');have hfm:=Na hfr;have hok:=hcap.free _ hfm rfl;rw[<-hosc]at hok;obtain⟨m,hn,hl⟩:=I3.loc;obtain⟨u,r,l⟩:=hl j x v hx hσ (.inr hok);refine⟨u,r,?_⟩;rcases l with ⟨hk,_⟩ | ⟨hk,c,hc1,hc2⟩
    .have hk:X.env.scope.names.lookup x=some .local:=hk;rcases hok with z | z <;> (rw[hk]at z;cases z)
    .obtain⟨c',hc'⟩:=hhas x hfm;have:c'=c:=Mg ((hcl hc').symm.trans hc1);subst this;exact .inr ⟨ky hfr,c',(ownF hfr).trans hc',hc2.keeps old⟩
  .rcases ownS e with ⟨_,_,a3,_⟩ | a
   .exact⟨_,a3⟩
   .obtain⟨v,z⟩:=I3.cell x c (hcl a);exact⟨v,z.keeps old⟩
  .have hp:p∈(X.pn++vv)++[]:=hp;rw[NC]at hp;obtain⟨a1,a2,a3,a4,a5⟩:=I3.pin p hp;exact⟨old _ _ a1,a2,MC (Mm a1),nofs a3 a4,a5⟩
  .show(cf k cap O).length=N.length;unfold cf;rw[MS,NY,LX,hcap.len]
 have stat:∀{H':Hp},(∀b∈fp,H' b=none)->∀b∈fp,cE (cxC X N scope (O5 scope cl s3.heap.objs.size) s3.heap.objs.size fp vv s3 H3) [] H' b:=λ{H'} hn b hb=>by obtain⟨a0,a1,a2,a3,a4,a5⟩:=f3 b hb;refine⟨hn b hb,neC b hb,nofs a1 a2,.inl hb,λx c e=>cne b hb e,λp hp=>a5 p ?_⟩;have hp:p∈(X.pn++vv)++[]:=hp;rwa [NC]at hp
 have loop:codeAny (model X.prog X.w) X.A (.compLoop (.ListComp elt (⟨tg,iter,ifs,0⟩::rest) scope pos) 0 (.ref it) (.ref D) (compEnvC scope (O5 scope cl s3.heap.objs.size) s3.heap.objs.size X.env))
   (P s3.heap.objs.size) { s3 with heap:=h₁ }:=by
  refine DR (λn s'=>∃i O' H',Inv (cxC X N scope (O5 scope cl s3.heap.objs.size) s3.heap.objs.size fp vv s3 H3) [] O' H' s'/\tn i s'.heap/\(∀b∈fp,H' b=none)/\W i n O' H') (hturn _) ?_ m0
   ⟨0,_,H3,IY,T.keep _ _ _ st λb _ o e=>old b o e,λb hb=>(f3 b hb).1,w0⟩
  rintro n s5 ⟨i,σ5,H5,I5,st5,fr5,w5⟩;rcases turn i n σ5 H5 w5 with ⟨stop,q⟩ | ⟨go,C,step,hno,hyes⟩
  .refine thn (T.done (cxC X N scope (O5 scope cl s3.heap.objs.size) s3.heap.objs.size fp vv s3 H3) rfl rfl rfl hc i [] s5 σ5 H5 _ I5 (stat fr5) st5 stop) λr s6 ⟨hr,I6⟩=>?_
   subst hr;have I7:Inv X vv O H5 s6:=I3.call' I6.os I6.base I6.hok I6.bare λb hb=>by obtain⟨a0,a1,a2,a3,a4,a5⟩:=f3 b hb;exact⟨a3,a1,a4,a5⟩
   exact hend s6 σ5 H5 I6 I7 q
  .refine thn (T.item (cxC X N scope (O5 scope cl s3.heap.objs.size) s3.heap.objs.size fp vv s3 H3) rfl rfl rfl hc i [] s5 σ5 H5 _ I5 (stat fr5) st5 go) λr s6 ⟨u,hr,h6⟩=>?_
   subst hr;refine thn h6 λ_ s7 ⟨x,H7,I7,r7,y7,st7,fr7⟩=>?_
   have I7':=I7.pinned (stat fr7) (T.obj _ _ st7);have keepI:∀{s':RE} {O':St} {H':Hp},Inv (cxC X N scope (O5 scope cl s3.heap.objs.size) s3.heap.objs.size fp vv s3 H3) ([]++dN fp s7.heap) O' H' s'->tn (i+1) s'.heap/\∀b∈fp,H' b=none:=λ{s' O' H'} I'=>by refine⟨T.keep _ _ _ st7 λb hb o e=>(I'.pin (b,o) (Mu _ (Mu _ (O2 hb e)))).1,λb hb=>?_⟩;obtain⟨o,e,d⟩:=T.obj _ _ st7 b hb;exact(I'.pin (b,o) (Mu _ (Mu _ (O2 hb e)))).2.1
   refine thn (hg _ _ _ _ _ _ _ s7 σ5 H7 x u _ I7' r7 (step x H7 y7)) λ_ s8 ⟨σ8,H8,I8,q8⟩=>?_
   refine thn (ht _ _ _ _ _ _ _ s8 σ8 H8 _ I8 q8) λok s9 ⟨H9,I9,q9⟩=>?_
   cases ok with
   | false =>obtain⟨m',hm,w9⟩:=hno _ _ q9;obtain⟨k1,k2⟩:=keepI I9;exact⟨m',hm,i+1,σ8,H9,I9.unpinned,k1,k2,w9⟩
   | true =>
    intro kk R E hk;refine hyes _ s9 σ8 H9 I9 q9 kk R E λs10 O10 H10 I10 ⟨m',hm,w10⟩=>hk s10 ?_
    obtain⟨k1,k2⟩:=keepI I10;exact⟨m',hm,i+1,O10,H10,I10.unpinned,k1,k2,w10⟩
 exact codeAny_compStart_list loop (T.self X.A 0 _ _ _ (T.keep _ _ _ st λb _ o e=>old b o e) loop)
def wm {X:Cx}{tg:RL}{osc:RI}{N:List Str}{k:Nat}{cap:List Nat}{g:TG}{tt:TT}{te:TE}{cl:List (Str×RD)}
  {vv:List (RD×RP)} {O:St} {H3:Hp} {s3:RE} {D it:RD} {fp:List RD} {tn:Nat->RM->Prop} {J:It} {Q:VK} {W:Nat->Nat->St->List V->Hp->Prop} {m0:Nat}
  (hc:X.calm=true) (hosc:X.env.scope=osc) (hcap:Caps X.N osc N k cap scope)
  (hcl:∀{x:Str} {c:RD},cl.lookup x=some c->X.env.cells.lookup x=some c) (hhas:∀x,(x,Sd.free)∈scope.names->∃c,cl.lookup x=some c)
  (hg:∀cl C ex vv s H,PG (cxC X N scope cl C ex vv s H) tg g)
  (ht:∀cl C ex vv s H,PTs (cxC X N scope cl C ex vv s H) ifs tt)
  (he:∀cl C ex vv s H,PE (cxC X N scope cl C ex vv s H) elt te)
  (I3:Inv X vv O H3 s3) (hD:H3 D=some (.lst [])) (T:Turn X.prog X.w X.K tg J fp it tn) (st:tn 0 s3.heap) (f3:∀b∈fp,cE X vv H3 b) (w0:W 0 m0 (cf k cap O) [] H3)
  (turn:∀i m O' acc H',W i m O' acc H'->(J.stop i H'/\Q (.ref D) H') \/
   (J.go i H'/\∀x H2,J.yld i H' x H2->g x O' H2 λσ2 H3=>tt σ2 H3 λok H4=>if ok=true then te σ2 H4 λy H5=>H5 D=some (.lst acc)/\acc.length<RN/\∃m',m'<m/\W (i+1) m' σ2 (acc++[y]) (upd H5 D (.lst (acc++[y])))
    else H4 D=some (.lst acc)/\∃m',m'<m/\W (i+1) m' σ2 acc H4)) :
  RT (model X.prog X.w) X.A (newFunctionEnv scope X.env.globals cl [] X.env.qual none .none (some X.env)) (λcenv s₄ =>
   codeAny (model X.prog X.w) X.A (.compStart (.ListComp elt [⟨tg,iter,ifs,0⟩] scope pos) 0 (.ref it) (.ref D) { cenv with scope:=relabel scope X.env }) (compPost (model X.prog X.w) X.A X.xe none (EP X vv O Q) (.ref D) cenv.locals) s₄) X.xe s3:=by
 refine lp (act:=λenv k=>do lM elt (.ref D) env;k) (P:=λC=>compPost (model X.prog X.w) X.A X.xe none (EP X vv O Q) (.ref D) C) (Qs:=Q (.ref D)) (W:=λi m O' H'=>∃acc,H' D=some (.lst acc)/\W i m O' acc H') (λenv=>by rfl) hc hosc hcap hcl hhas hg ht I3 T st f3 ⟨[],hD,w0⟩ (λs6 σ5 H5 I6 I7 q=>?_) λi m O' H' ⟨acc,hD',w⟩=>?_
 .obtain⟨m,hn,_⟩:=id I6.loc;refine⟨m,hn,λh' hsb=>?_⟩;obtain⟨g0,g1,g2,g3,g4,g5⟩:=I3.fpOk (H':=H5) (b:=s3.heap.objs.size) (Mh _) I6.free;exact⟨.ref D,H5,I7.turned (t':=s6.toks) (λb o hb e=>(hsb.2 b hb).trans e) g0 g1 g3 g4 g5,rfl,q⟩
 .rcases turn i m O' acc H' w with h | ⟨go,step⟩
  .exact .inl h
  .refine .inr ⟨go,_,step,λσ2 H4 h=>?_,λpins' s σ2 H4 I h k R E hk=>?_⟩
   .obtain⟨hD9,m',hm,w9⟩:=(show H4 D=some (.lst acc)/\∃m',m'<m/\W (i+1) m' σ2 acc H4 from h);exact⟨m',hm,acc,hD9,w9⟩
   .refine LV (LV (MR (he _ _ _ _ _ _ _ s σ2 H4 _ I h) (λyv s10 ⟨y,H10,I10,r10,hD10,hz,m',hm,w10⟩=>?_) λ_ _ h'=>h'.elim));refine LV (MR (bz (X:=cxC X N scope (O5 scope cl s3.heap.objs.size) s3.heap.objs.size fp vv s3 H3) _ s10 σ2 H10 (.ref D) [y] (.ref D) [yv] (λ_ H'=>H'=upd H10 D (.lst (acc++[y]))) I10 rfl (.cons r10 .nil) ⟨D,acc,y,rfl,rfl,hD10,hz,rfl⟩)
     (λ_ s11 ⟨_,H11,I11,_,e11⟩=>LY ?_) λ_ _ h'=>h'.elim)
    subst e11;exact hk s11 σ2 _ I11 ⟨m',hm,_,k8,w10⟩
def CJ {X:Cx}{tg:RL}{osc:RI}{N:List Str}{k:Nat}{cap:List Nat}{wi:TI}{g:TG}{tt:TT}{te:TE}
  (hc:X.calm=true) (hosc:X.env.scope=osc) (hcap:Caps X.N osc N k cap scope) (hi:PI X tg iter wi)
  (hg:∀cl C ex vv s H,PG (cxC X N scope cl C ex vv s H) tg g)
  (ht:∀cl C ex vv s H,PTs (cxC X N scope cl C ex vv s H) ifs tt)
  (he:∀cl C ex vv s H,PE (cxC X N scope cl C ex vv s H) elt te)
  (hs:∀x,RY iter X.env x=pure x:=by intro _;rfl) :
  PE X (.ListComp elt [⟨tg,iter,ifs,0⟩] scope pos) (tLC wi k cap g tt te):=by
 walk_at "kc"
 exact wm hc hosc hcap hcl hhas hg ht he I3 k8 T (T.keep _ _ (s2.heap.push { cls:=.type "list",data:=.seq ([]:List RC).toArray }) st2 λb _ o e=>LZ _ e) (λb hb=>⟨by rw[i3 (lt2 b hb)];exact(f2 b hb).1,(f2 b hb).2⟩) w0 turn
end
section
mutual
def c8 (K:Fg)(H:Hp):My->V->Prop
 | .none,v=>v = .non
 | .bool b,v=>v = .bl b
 | .int i,v=>v = .int i
 | .str x,v=>v = .str x
 | .tuple ds,v=>∃a xs,v = .ref a/\SqT K H a xs/\b7 K H ds xs
 | .list ds,v=>∃a xs,v = .ref a/\H a=some (.lst xs)/\b7 K H ds xs
 | .dict _,_=>False
def b7 (K:Fg)(H:Hp):List My->List V->Prop
 | [],xs=>xs=[]
 | d::ds,xs=>∃x r,xs=x::r/\c8 K H d x/\b7 K H ds r
end
section
variable {X:Cx}{vv:List (RD×RP)}{O:St}{H:Hp}{s:RE}
mutual
theorem G8 (I:Inv X vv O H s):∀(d:My) (v:V) (u:RC),c8 X.K H d v->u4 v u->∃as,Reads s.heap u d as
 | .none,v,u,h,r=>by
  simp only[c8]at h;subst h;cases(show u=RC.none from r);exact⟨_,.none⟩
 | .bool b,v,u,h,r=>by
  simp only[c8]at h;subst h;cases(show u=RC.bool b from r);exact⟨_,.bool b⟩
 | .int i,v,u,h,r=>by
  simp only[c8]at h;subst h;obtain⟨t,rfl⟩:=(show ∃t,u=RC.int i t from r);exact⟨_,.int i t⟩
 | .str x,v,u,h,r=>by
  simp only[c8]at h;subst h;obtain⟨t,rfl⟩:=(show ∃t,u=RC.str x t from r);exact⟨_,.str x t⟩
 | .tuple ds,v,u,h,r=>by
  simp only[c8]at h;obtain⟨a,xs,rfl,hq,hd⟩:=h;cases(show u=RC.ref a from r);obtain⟨its,rv,ht,_⟩:=I.tuple hq;obtain⟨o,h1,h2,n,h3⟩:=ht;obtain⟨as,ra⟩:=av I ds xs its hd rv;exact⟨_,.tuple h1 h2 h3 ra⟩
 | .list ds,v,u,h,r=>by
  simp only[c8]at h;obtain⟨a,xs,rfl,hq,hd⟩:=h;cases(show u=RC.ref a from r);obtain⟨its,rv,ht,_⟩:=I.list (SqL.of hq);obtain⟨o,h1,h2,n,h3⟩:=ht.isList;obtain⟨as,ra⟩:=av I ds xs its hd rv;exact⟨_,.list h1 h2 h3 ra⟩
 | .dict Sj,v,u,h,r=>by simp only[c8]at h
theorem av (I:Inv X vv O H s):∀(ds:List My) (xs:List V) (us:List RC),b7 X.K H ds xs->p8 xs us->∃as,ReadsAll s.heap us ds as
 | [],xs,us,h,r=>by
  simp only[b7]at h;subst h;cases r;exact⟨_,.nil⟩
 | d::ds,xs,us,h,r=>by
  simp only[b7]at h;obtain⟨x,rr,rfl,h1,h2⟩:=h;cases r with
  | cons r1 r2 =>obtain⟨as,ra⟩:=G8 I d x _ h1 r1;obtain⟨bs,rb⟩:=av I ds rr _ h2 r2;exact⟨_,.cons ra rb⟩
end
end
structure Shw (d:My) (dp n:Nat):Prop where
 sh:d.showable=true
 nd:d.hasDict=false
 de:d.depth<=dp
 ln:d.shown.length<=n
def Shw.int {i:Int}{k:Nat}(h:i.natAbs<2 ^ k)(hk:0<k)(hk2:k<=1900):Shw (.int i) 0 (k+20):=by
 have hlog:i.natAbs.log2<1920:=by
  by_cases h0:i.natAbs=0
  .rw[h0];decide
  .have:=(RA h0).2 h;omega
 refine⟨by simp only[My.showable,hlog,Qu],by simp only[My.hasDict],by simp only[My.depth];omega,?_⟩;have hl2:i.natAbs.log2<k:=by
  by_cases h0:i.natAbs=0
  .rw[h0];exact hk
  .exact(RA h0).2 h
 have e:=int_text_length_le hk hl2;simp only[My.shown];rw[PySem.ofString_length];omega
section
variable {X:Cx}
def zF (K:Fg):List V->Hp->VK->Prop:=λxs H Q=>∃a d,xs=[.ref a]/\c8 K H d (.ref a)/\Shw d 50 16000000/\Q (.str d.shown) H
def sD (hg:X.A.guards=some [])(hu:X.A.units+64<Sa):A8 X (.builtin "repr") (zF X.K):=by intro vv s O H xs us Q I r h;obtain⟨a,d,rfl,hd,hs,q⟩:=h;obtain⟨u,rfl,ru⟩:=K0 r;cases ru;obtain⟨as,rd⟩:=G8 I d (.ref a) (.ref a) hd rfl;refine repr_of_reads' rd hs.sh (My.noDict_hsm hs.nd) hg (by have:=hs.de;omega) (λ_ _ e=>e) (λh' u tk hk=>⟨.str d.shown,H,I.kept hk,⟨u,rfl⟩,q⟩) (MK hs.ln (by rw[MQ];decide))
end
end
end L2
namespace HT
open PySem PyProof.Rows
section
variable {prog:RF}{w:RG}{A:RH}{E:RC->RE->Prop}{s:RE}
def getItem_tuple_whole {t sl:RD}{items:Array RC}{vl vu:RC}{lo hi:Option Int}{Q:RC->RE->Prop}(ht:IsTup s.heap t items)(hs:s.heap.IsSliceOf sl vl vu .none)(pl:IsPart vl lo)(pu:IsPart vu hi)
  (h0:sIx items.size 0 lo=0) (h1:sIx items.size items.size hi=items.size) (h:Q (.ref t) s):RT (model prog w) A (getItem (.ref t) (.ref sl)) Q E s:=by
 walk_at "kw";try with_reducible refine Ol ?_
 walk_at "ki"
 walk_at "kr";refine LV (X6 hs pl pu ?_);have hyes:(((sIx items.size 0 lo:Nat):Int) == 0&&(1:Int) == 1&&(sIx items.size items.size hi-sIx items.size 0 lo) == items.size)=true:=by rw[h0,h1];simp
 show RT _ _ (if (((sIx items.size 0 lo:Nat):Int) == 0&&(1:Int) == 1&&(sIx items.size items.size hi-sIx items.size 0 lo) == items.size)=true then _ else _) _ _ s;rw[Mb hyes];unfold Builtin.Tuple.tupleIsExact;refine LV ?_;refine LV (wpAny_typeOf ht.typeIs (LY ?_));rw[Mb (by decide)];exact LV (Oi (LY ⟨_,rfl,LY h⟩))
def oM (n:Nat):Builtin.Slice.sliceAdjust none none (-1) (n:Int)=((n:Int)-1,-1):=by unfold Builtin.Slice.sliceAdjust;simp
def oz (n:Nat):Builtin.Slice.slicePlaces ((n:Int)-1) (-1) (-1)=n:=by
 unfold Builtin.Slice.slicePlaces;rw[Md (by decide)];split
 .rw[show(-(-1):Int)=1 by decide,Int.ediv_one];omega
 .omega
def eI {sl:RD}{vst:RC}{n:Nat}{Q:Int×Int×Nat->RE->Prop}(hs:s.heap.IsSliceOf sl .none .none vst)(pst:IsPart vst (some (-1)))
  (h:Q ((n:Int)-1,-1,n) s):RT (model prog w) A (Builtin.Slice.sliceApplied (.ref sl) (pure (n:Int))) Q E s:=by obtain⟨os,hos,hcs,hds⟩:=id hs;unfold Builtin.Slice.sliceApplied Builtin.Slice.sliceFields;refine LV (LV (Nz hos hds (x:=.none) rfl (LV (Nz hos hds (x:=.none) rfl (LV (Nz hos hds (x:=vst) rfl (LY ?_)))))));refine LV (bZ pst ?_);show RT _ _ (if ((-1:Int) == 0)=true then _ else _) _ _ s;rw[Md (by decide)];refine LV (slicePart_none (LV (slicePart_none (LV (LY ?_)))));show RT _ _ (match Builtin.Slice.sliceAdjust none none (-1) (n:Int) with | (lo,hi)=>pure (lo,(-1:Int),Builtin.Slice.slicePlaces lo hi (-1))) _ _ s;rw[oM n];show RT _ _ (pure ((n:Int)-1,(-1:Int),Builtin.Slice.slicePlaces ((n:Int)-1) (-1) (-1))) _ _ s;rw[oz];exact LY h
theorem X9 {α β:Type}{f g:α->Option β}:∀{l:List α},(∀x∈l,f x=g x)->l.filterMap f=l.filterMap g
 | [],_=>rfl
 | x::r,h=>by rw[OZ,OZ,h x Me,X9 λy hy=>h y (Mc _ hy)]
def xv (xs:Array RC):((List.range xs.size).filterMap λ(m:Nat)=>xs[(((xs.size:Int)-1)+(m:Int)*(-1)).toNat]?).toArray=xs.toList.reverse.toArray:=by
 congr 1;have e:((List.range xs.size).filterMap λ(m:Nat)=>xs[(((xs.size:Int)-1)+(m:Int)*(-1)).toNat]?)=(List.range xs.size).filterMap λm=>xs.toList.reverse[m]?:=by
  refine X9 λm hm=>?_
  have hm:=MW.1 hm;rw[List.getElem?_reverse (by simpa using hm)];have:(((xs.size:Int)-1)+(m:Int)*(-1)).toNat=xs.toList.length-1-m:=by rw[MZ];omega
  rw[this];simp
 rw[e];have:=PySem.W.krv_all xs.toList.reverse.toArray;simpa using this
def getItem_tuple_rev {t sl:RD}{items:Array RC}{vst:RC}{Q:RC->RE->Prop}(ht:IsTup s.heap t items)(hs:s.heap.IsSliceOf sl .none .none vst)(pst:IsPart vst (some (-1)))
  (h:Q (.ref s.heap.objs.size) { s with heap:=s.heap.push { cls:=.type "tuple",data:=.seq items.toList.reverse.toArray } })
  (hsz:items.size<=RN):RT (model prog w) A (getItem (.ref t) (.ref sl)) Q E s:=by
 have htake:sizeOk (.seq items.toList.reverse.toArray):=by show items.toList.reverse.toArray.size<=RN;rw[Mr,QV,MZ];exact hsz
 walk_at "kw";try with_reducible refine Ol ?_
 walk_at "ki"
 walk_at "kr";refine LV (eI hs pst ?_);have hno:¬(((items.size:Int)-1 == 0&&(-1:Int) == 1&&items.size == items.size)=true):=by simp
 show RT _ _ (if ((items.size:Int)-1 == 0&&(-1:Int) == 1&&items.size == items.size)=true then _ else _) _ _ s;rw[Md hno,xv];first
  | exact LV (m:=Builtin.Tuple.tupleExact _) (MY (LY ⟨_,rfl,LY h⟩) htake)
  | exact LV (m:=Builtin.Tuple.tupleExact _) (MY (LV (LY (LY ⟨_,rfl,LY h⟩))) htake)
  | exact LV (LV (m:=Builtin.Tuple.tupleExact _) (MY (LY (LY ⟨_,rfl,LY h⟩)) htake))
  | exact LV (LV (m:=Builtin.Tuple.tupleExact _) (MY (LY ⟨_,rfl,LY h⟩) htake))
end
end HT
namespace L2
open PySem PySem.Spec PyProof.Rows
section
section
variable {X:Cx}
def Ao (K:Fg):V->Option Int->Option Int->Hp->VK->Prop:=λx lo hi H Q=>∃a xs,x = .ref a/\SqT K H a xs/\((ee xs lo hi=xs/\HT.sIx xs.length 0 lo=0/\HT.sIx xs.length xs.length hi=xs.length->Q (.ref a) H) /\
 (¬(HT.sIx xs.length 0 lo=0/\HT.sIx xs.length xs.length hi=xs.length)->∀p,H p=none->Q (.ref p) (upd H p (.tup (ee xs lo hi)))))
def yT :SlR X (Ao X.K):=by
 intro vv s O H x v vl vu lo hi sl Q I rx hs pl pu h;obtain⟨a,xs,rfl,hx,hw,hn⟩:=h;by_cases hc:HT.sIx xs.length 0 lo=0/\HT.sIx xs.length xs.length hi=xs.length
 .cases rx;obtain⟨its,r,ht,hz⟩:=I.tuple hx;have hlen:its.toArray.size=xs.length:=by rw[Mr];exact r.length.symm
  have hq:=hw ⟨by unfold ee;rw[hc.1,hc.2];simp,hc.1,hc.2⟩;exact⟨"tuple",_,Nb.lookup,ht.typeIs,HT.getItem_tuple_whole ht hs pl pu (by rw[hlen];exact hc.1) (by rw[hlen];exact hc.2) ⟨.ref a,H,I,rfl,hq⟩⟩
 .exact BE vv s O H (.ref a) v vl vu lo hi sl Q I rx hs pl pu ⟨a,xs,rfl,hx,hc,hn hc⟩
def tW (hc:X.calm=true):A8 X (.builtin "sum") (λxs H Q=>∃(a:RD) (ns:List Int),xs=[.ref a]/\SqL X.K H a (ns.map V.int)/\Q (.int ns.sum) H):=by
 walk_at "kz";obtain⟨a,ns,rfl,hq,q⟩:=h;walk_at "kaf";obtain⟨its,rv,p,hz⟩:=I.list hq;have hi:=ck rv;obtain⟨zs,hzs⟩:=hi.allInts.items;have hl:s.heap.IsList a (intItems zs):=hzs▸p.isList;refine sum_intListG (I.ok.hd hc) hl λh' tk t' hk=>⟨.int ns.sum,H,I.kept hk,⟨t',?_⟩,q⟩
 have hn:=hi.numsOf;have e:numsOf (intItems zs).toList=ns:=by rw[<-hzs];exact hn
 rw[nums_intItems]at e;rw[preSum_eq,NA (by simp),e]
def AS (K:Fg):R2:=λx y H Q=>∃a b xs,x = .ref a/\y = .ref b/\SqL K H a xs/\SqL K H b []/\Q (.bl (!xs.isEmpty)) H
def vp (hu:X.A.units<Sa):OpR X (compareOp .NotEq) (AS X.K):=by
 intro vv s O H x y v u Q I rx ry h;obtain⟨a,b,xs,rfl,rfl,ha,hb,q⟩:=h;cases rx;cases ry;obtain⟨its,rv,p,hz⟩:=I.list ha;obtain⟨its2,rv2,p2,hz2⟩:=I.list hb;cases rv2;cases rv with
 | nil=>exact(SeqAt.RcNeAt.lists (e:=λ_=>true) p.isList p2.isList rfl hu λj h1 _=>absurd h1 (by simp)) _ _ _ _ ⟨.bl false,H,I,rfl,q⟩
 | cons r1 r2=>exact(SeqAt.RcNeAt.lists_lengths p.isList p2.isList (by simp) hu) _ _ _ _ ⟨.bl true,H,I,rfl,q⟩
end
end
variable {pos:Pos}{H':Hp}
section
def g9 (P:RF)(w:RG)(K:Fg)(mg:Str->Option RC)(base:RM)(x:Str)(k:Nat)(ps:List Str)(sp:Sp):Prop :=
 ∃f fd,FnOk P w K mg base CX0 k f fd ps sp/\mg x=some (.ref f)/\PySem.W.keepIn K (.ref f)=true/\fm K fd ps []
def iQ {X:Cx}{x:Str}{k:Nat}{ps:List Str}{sp:Sp}{p:Pos}{e:RL}{es:List RL}{t:TA}(C:g9 X.prog X.w X.K X.mg X.base x k ps sp)(hr:Room k X.A)(hg:Gl X x)(ha:PA X (e::es) t)
  (hdb:(x == ("__debug__":Str))=false:=by decide) (he:RO (e::es) X.env=(false,eval e X.env)::RO es X.env:=by rfl) (hpl:(RR pos (RO es X.env)).any (·.1)=false:=by rfl) :
  PE X (.Call (.Name x p) (e::es) [] pos) (mN sp [] E0 t):=by obtain⟨f,fd,G,m,kp,b⟩:=C;exact zx G hr hg m kp b .nil zU ha hdb he hpl
def KpE (D:RD->Prop)(H H':Hp):Prop:=∀b o,H b=some o->¬D b->H' b=some o
def SqT.kp {K:Fg}{H:Hp}{a:RD}{xs:List V}{D:RD->Prop}(h:SqT K H a xs)(k:KpE D H H')(hD:∀b,D b->∃Sj,H b=some (.dK Sj)):SqT K H' a xs:=by
 rcases h with (h | ⟨o,h⟩) | h
 .refine .inl (.inl (k _ _ h λz=>?_));obtain⟨Sj,e⟩:=hD _ z;rw[h]at e;cases e
 .refine .inl (.inr ⟨o,k _ _ h λz=>?_⟩);obtain⟨Sj,e⟩:=hD _ z;rw[h]at e;cases e
 .exact .inr h
section
variable {K:Fg}{H:Hp}{D:RD->Prop}
mutual
theorem c8.kp (k:KpE D H H')(hD:∀b,D b->∃Sj,H b=some (.dK Sj)):∀(d:My) (v:V),c8 K H d v->c8 K H' d v
 | .none,v,h=>by simpa only[c8] using h
 | .bool b,v,h=>by simpa only[c8] using h
 | .int i,v,h=>by simpa only[c8] using h
 | .str x,v,h=>by simpa only[c8] using h
 | .tuple ds,v,h=>by
  simp only[c8]at h ⊢;obtain⟨a,xs,e,hq,hd⟩:=h;exact⟨a,xs,e,hq.kp k hD,b7.kp k hD ds xs hd⟩
 | .list ds,v,h=>by
  simp only[c8]at h ⊢;obtain⟨a,xs,e,hq,hd⟩:=h;refine⟨a,xs,e,k _ _ hq λz=>?_,b7.kp k hD ds xs hd⟩;obtain⟨Sj,e⟩:=hD _ z;rw[hq]at e;cases e
 | .dict Sj,v,h=>by simp only[c8]at h
theorem b7.kp (k:KpE D H H')(hD:∀b,D b->∃Sj,H b=some (.dK Sj)):∀(ds:List My) (xs:List V),b7 K H ds xs->b7 K H' ds xs
 | [],xs,h=>by simpa only[b7] using h
 | d::ds,xs,h=>by simp only[b7]at h ⊢;obtain⟨x,r,e,h1,h2⟩:=h;exact⟨x,r,e,c8.kp k hD d x h1,b7.kp k hD ds r h2⟩
end
end
def l6.kpE {H:Hp}(s:l6 H H'):KpE (λ_=>False) H H':=λb o h _=>s b o h
def c8.same {K:Fg}{H:Hp}{d:My}{v:V}(h:c8 K H d v)(s:l6 H H'):c8 K H' d v:=c8.kp s.kpE (λ_ z=>z.elim) d v h
def b7.same {K:Fg}{H:Hp}{ds:List My}{xs:List V}(h:b7 K H ds xs)(s:l6 H H'):b7 K H' ds xs:=b7.kp s.kpE (λ_ z=>z.elim) ds xs h
def SqT.same {K:Fg}{H:Hp}{a:RD}{xs:List V}(h:SqT K H a xs)(s:l6 H H'):SqT K H' a xs:=h.kp s.kpE (λ_ z=>z.elim)
def l6.upd {H:Hp}{p:RD}{o:HO}(hp:H p=none):l6 H (upd H p o):=λb u e=>by rw[i3 (m6 e hp)];exact e
section
variable {K:Fg}{H:Hp}
theorem b7.length:∀{ds:List My} {xs:List V},b7 K H ds xs->xs.length=ds.length
 | [],xs,h=>by simp only[b7]at h;subst h;rfl
 | d::ds,xs,h=>by simp only[b7]at h;obtain⟨x,r,rfl,h1,h2⟩:=h;rw[Mf,Mf,h2.length]
theorem b7.get:∀{ds:List My} {xs:List V} {i:Nat} {x:V},b7 K H ds xs->xs[i]? = some x->∃d,ds[i]? = some d/\c8 K H d x
 | [],xs,i,x,h,e=>by simp only[b7]at h;subst h;simp at e
 | d::ds,xs,i,x,h,e=>by
  simp only[b7]at h;obtain⟨y,r,rfl,h1,h2⟩:=h;cases i with
  | zero=>simp at e;subst e;exact⟨d,rfl,h1⟩
  | succ i=>simpa using h2.get (i:=i) (by simpa using e)
theorem b7.snoc:∀{ds:List My} {xs:List V} {d:My} {x:V},b7 K H ds xs->c8 K H d x->b7 K H (ds++[d]) (xs++[x])
 | [],xs,d,x,h,h'=>by simp only[b7]at h;subst h;simp only[ME,b7];exact⟨x,[],rfl,h',rfl⟩
 | e::ds,xs,d,x,h,h'=>by simp only[b7]at h;obtain⟨y,r,rfl,h1,h2⟩:=h;simp only[MA,b7];exact⟨y,r++[x],rfl,h1,h2.snoc h'⟩
theorem b7.append {ds':List My}{xs':List V}(h':b7 K H ds' xs'):∀{ds:List My} {xs:List V},b7 K H ds xs->b7 K H (ds++ds') (xs++xs')
 | [],xs,h=>by simp only[b7]at h;subst h;simpa using h'
 | e::ds,xs,h=>by simp only[b7]at h;obtain⟨y,r,rfl,h1,h2⟩:=h;simp only[MA,b7];exact⟨y,r++xs',rfl,h1,b7.append h' h2⟩
theorem b7.reverse:∀{ds:List My} {xs:List V},b7 K H ds xs->b7 K H ds.reverse xs.reverse
 | [],xs,h=>by simp only[b7]at h;subst h;simp[b7]
 | d::ds,xs,h=>by simp only[b7]at h;obtain⟨y,r,rfl,h1,h2⟩:=h;rw[Qk,Qk];exact(b7.reverse h2).snoc h1
theorem b7.take:∀{ds:List My} {xs:List V} (n:Nat),b7 K H ds xs->b7 K H (ds.take n) (xs.take n)
 | [],xs,n,h=>by simp only[b7]at h;subst h;simp[b7]
 | d::ds,xs,0,h=>by simp[b7]
 | d::ds,xs,n+1,h=>by simp only[b7]at h;obtain⟨y,r,rfl,h1,h2⟩:=h;simp only[List.take_succ_cons,b7];exact⟨y,r.take n,rfl,h1,b7.take n h2⟩
def c8.tup {ds:List My}{xs:List V}{a:RD}(h:H a=some (.tup xs))(h2:b7 K H ds xs):c8 K H (.tuple ds) (.ref a):=by simp only[c8];exact⟨a,xs,rfl,SqT.of h,h2⟩
def c8.lst {ds:List My}{xs:List V}{a:RD}(h:H a=some (.lst xs))(h2:b7 K H ds xs):c8 K H (.list ds) (.ref a):=by simp only[c8];exact⟨a,xs,rfl,h,h2⟩
def b7.nil :b7 K H [] []:=by simp only[b7]
def b7.cons {d:My}{x:V}{ds:List My}{xs:List V}(h:c8 K H d x)(h2:b7 K H ds xs):b7 K H (d::ds) (x::xs):=by simp only[b7];exact⟨x,xs,rfl,h,h2⟩
def c8.int {i:Int}:c8 K H (.int i) (.int i):=by simp only[c8]
def c8.bl {b:Bool}:c8 K H (.bool b) (.bl b):=by simp only[c8]
def c8.st {x:Str}:c8 K H (.str x) (.str x):=by simp only[c8]
def c8.non :c8 K H .none .non:=by simp only[c8]
def c8.ofTup {ds:List My}{v:V}(h:c8 K H (.tuple ds) v):∃a xs,v = .ref a/\SqT K H a xs/\b7 K H ds xs:=by simpa only[c8] using h
end
def Ay {J:It}{D:RD}(n:Nat){g:TG}{tt:TT}{te:TE}{Q:Hp->Prop}{σ0:St}{H0:Hp}(Pv:Nat->St->List V->Hp->Prop)(h0:Pv 0 σ0 [] H0)
  (hgo:∀i O acc H,i<n->Pv i O acc H->J.go i H) (hstop:∀O acc H,Pv n O acc H->J.stop n H)
  (hs:∀i O acc H,i<n->Pv i O acc H->∀x H2,J.yld i H x H2->∀R:St->List V->Hp->Prop,(∀O acc H,Pv (i+1) O acc H->R O acc H) ->
   g x O H2 λσ2 H3=>tt σ2 H3 λok H4=>if ok=true then te σ2 H4 λy H5=>H5 D=some (.lst acc)/\acc.length<RN/\R σ2 (acc++[y]) (upd H5 D (.lst (acc++[y]))) else H4 D=some (.lst acc)/\R σ2 acc H4)
  (hd:∀O acc H,Pv n O acc H->Q H) :
  ∃W:Nat->Nat->St->List V->Hp->Prop,(∃m,W 0 m σ0 [] H0)/\∀i m O' acc H',W i m O' acc H' ->
  (J.stop i H'/\Q H') \/
  (J.go i H'/\∀x H2,J.yld i H' x H2->g x O' H2 λσ2 H3=>tt σ2 H3 λok H4=>if ok=true then te σ2 H4 λy H5=>H5 D=some (.lst acc)/\acc.length<RN/\∃m',m'<m/\W (i+1) m' σ2 (acc++[y]) (upd H5 D (.lst (acc++[y])))
   else H4 D=some (.lst acc)/\∃m',m'<m/\W (i+1) m' σ2 acc H4):=by
 refine⟨λi m O acc H=>m=n-i/\i<=n/\Pv i O acc H,⟨n,by simp,Nj _,h0⟩,?_⟩;rintro i m O acc H ⟨rfl,hi,p⟩;by_cases hlt:i<n
 .exact .inr ⟨hgo i O acc H hlt p,λx H2 y=>hs i O acc H hlt p x H2 y (λO acc H=>∃m',m'<n-i/\m'=n-(i+1)/\i+1<=n/\Pv (i+1) O acc H) λO acc H q=>⟨n-(i+1),by omega,rfl,hlt,q⟩⟩
 .have e:i=n:=by omega
  subst e;exact .inl ⟨hstop O acc H p,hd O acc H p⟩
end
section
section
variable {X:Cx}{K:Fg}
def zm {es:List RL}{k:Nat}{t:TGs}{n:Nat}(hK:X.K=K)(hc:X.calm=true)(h:PGs X es t)
  (hn:(RZ es X.env).length=n:=by rfl) (hst:(RZ es X.env).findIdx? (·.1)=none:=by rfl):PG X (.Tuple es k pos) (BG K n t):=by subst hK;exact Cp hc h hn hst
def yP (hK:X.K=K):IxR X (Ex K):=by subst hK;exact Bs
def xf (hK:X.K=K):IxR X (Dx K):=by subst hK;exact qT
def bR (hK:X.K=K):A8 X (.builtin "len") (λxs H Q=>∃p ys,xs=[.ref p]/\(SqL K H p ys\/SqT K H p ys)/\Q (.int ys.length) H):=by subst hK;exact Z8
def ar (hK:X.K=K):A8 X (.type "tuple") (λxs H Q=>∃p ys,xs=[.ref p]/\((SqL K H p ys/\∀l,H l=none->Q (.ref l) (upd H l (.tup ys)))\/(SqT K H p ys/\Q (.ref p) H))):=by subst hK;exact iG
def ij (hK:X.K=K)(hg:X.A.guards=some [])(hu:X.A.units+64<Sa):A8 X (.builtin "repr") (zF K):=by subst hK;exact sD hg hu
def vB (hK:X.K=K):SlR X (Ao K):=by subst hK;exact yT
def sX {a:RL}{ta:TE}(hK:X.K=K)(ha:PE X a ta)(he:∀whole,isTrue a X.env whole=(do let v <-whole;standAt a.pos;holding [v] (truthy v))) :
  PT X a (λO H Q=>ta O H λx H'=>∃k,uL K x H' k/\Q k H'):=by subst hK;exact wG ha he
end
end
section
section
variable {X:Cx}{K:Fg}
def DL (K:Fg):R2:=λx y H Q=>∃a b xs ys,x = .ref a/\y = .ref b/\SqT K H a xs/\SqT K H b ys/\xs.length+ys.length<=RN /\
 (xs=[]->Q (.ref b) H)/\(ys=[]->Q (.ref a) H)/\∀p,H p=none->Q (.ref p) (upd H p (.tup (xs++ys)))
def xH (hK:X.K=K):OpR X (binaryOp .Add) (DL K):=by
 subst hK;intro vv s O H x y v u Q I rx ry h;obtain⟨a,b,xs,ys,rfl,rfl,ha,hb,hz,q0,q1,q2⟩:=h;by_cases hx:xs=[]
 .cases rx;cases ry;obtain⟨its,r1,p1,_⟩:=I.tuple ha;obtain⟨its2,r2,p2,_⟩:=I.tuple hb;subst hx;cases r1;obtain⟨⟨cls,dd,data,sl⟩,ho,hc,n,hd⟩:=id p1;obtain⟨⟨cls2,dd2,data2,sl2⟩,ho2,hc2,n2,hd2⟩:=id p2;simp only at hc hd hc2 hd2;subst hc hd hc2 hd2;exact concat_meets ⟨_,ho,rfl⟩ ⟨_,ho2,rfl⟩ noFill_tuple_add seq_tuple_add Qt Qh (PN _ _)
   (tuple_addW0 a b #[] its2.toArray n n2 dd dd2 sl sl2 rfl) ⟨ho,ho2,⟨.ref b,H,I,rfl,q0 rfl⟩⟩
 .exact yW vv s O H (.ref a) (.ref b) v u Q I rx ry ⟨a,b,xs,ys,rfl,rfl,ha,hb,hx,hz,q1,λ_=>q2⟩
end
end
section
def sM {X:Cx}{y:Str}{py:Pos}{ix:Nat}{elt tg iter:RL}{ifs:List RL}{scope osc:RI}{N:List Str}{k:Nat}{cap:List Nat}{g:TG}{tt:TT}{te:TE}{cl:List (Str×RD)}
  {vv:List (RD×RP)} {O:St} {H3:Hp} {s3:RE} {D it:RD} {fp:List RD} {tn:Nat->RM->Prop} {J:It} {Q:St->Hp->Prop} {W:Nat->Nat->St->List V->Hp->Prop} {m0:Nat}
  (hNd:X.N.Nodup) (hix:X.N[ix]? = some y) (hLy:Loc X.env.scope y) (hfy:X.fn y=true\/X.env.scope.names.lookup y=some .local)
  (hc:X.calm=true) (hosc:X.env.scope=osc) (hcap:Caps X.N osc N k cap scope)
  (hcl:∀{x:Str} {c:RD},cl.lookup x=some c->X.env.cells.lookup x=some c) (hhas:∀x,(x,Sd.free)∈scope.names->∃c,cl.lookup x=some c)
  (hg:∀cl C ex vv s H,PG (cxC X N scope cl C ex vv s H) tg g)
  (ht:∀cl C ex vv s H,PTs (cxC X N scope cl C ex vv s H) ifs tt)
  (he:∀cl C ex vv s H,PE (cxC X N scope cl C ex vv s H) elt te)
  (I3:Inv X vv O H3 s3) (hD:H3 D=some (.lst [])) (T:Turn X.prog X.w X.K tg J fp it tn) (st:tn 0 s3.heap) (f3:∀b∈fp,cE X vv H3 b) (w0:W 0 m0 (cf k cap O) [] H3)
  (turn:∀i m O' acc H',W i m O' acc H'->(J.stop i H'/\Q (O.set ix (some (.ref D))) H') \/
   (J.go i H'/\∀x H2,J.yld i H' x H2->g x O' H2 λσ2 H3=>tt σ2 H3 λok H4=>if ok=true then te σ2 H4 λy H5=>H5 D=some (.lst acc)/\acc.length<RN/\∃m',m'<m/\W (i+1) m' σ2 (acc++[y]) (upd H5 D (.lst (acc++[y])))
    else H4 D=some (.lst acc)/\∃m',m'<m/\W (i+1) m' σ2 acc H4)) :
  RT (model X.prog X.w) X.A (newFunctionEnv scope X.env.globals cl [] X.env.qual none .none (some X.env)) (λcenv s₄ =>
   codeAny (model X.prog X.w) X.A (.compStart (.ListComp elt [⟨tg,iter,ifs,0⟩] scope pos) 0 (.ref it) (.ref D) { cenv with scope:=relabel scope X.env }) (compPost (model X.prog X.w) X.A X.xe (some (assign (.Name y py) X.env)) (λ_ s'=>∃O' H',Inv X vv O' H' s'/\Q O' H') (.ref D) cenv.locals) s₄) X.xe s3:=by
 refine lp (act:=λenv k=>do lM elt (.ref D) env;k) (P:=λC=>compPost (model X.prog X.w) X.A X.xe (some (assign (.Name y py) X.env)) (λ_ s'=>∃O' H',Inv X vv O' H' s'/\Q O' H') (.ref D) C) (Qs:=λH'=>Q (O.set ix (some (.ref D))) H') (W:=λi m O' H'=>∃acc,H' D=some (.lst acc)/\W i m O' acc H') (λenv=>by rfl) hc hosc hcap hcl hhas hg ht I3 T st f3 ⟨[],hD,w0⟩ (λs6 σ5 H5 I6 I7 q=>?_) λi m O' H' ⟨acc,hD',w⟩=>?_
 .obtain⟨m,hn,_⟩:=id I6.loc;obtain⟨g0,g1,g2,g3,g4,g5⟩:=I3.fpOk (H':=H5) (b:=s3.heap.objs.size) (Mh _) I6.free;obtain⟨o,es,ep,ho,hdat,rest⟩:=id hn;have I7p:Inv X (vv++[(s3.heap.objs.size,o)]) O H5 s6:=I7.pins_of λp hp=>by
   rcases NO.1 hp with z | z
   .exact I7.pin p (Mu _ z)
   .rw[Ni.1 z];exact⟨ho,g0,g1,g2,λv z=>by have z':o.data = .cell v:=z;rw[hdat]at z';cases z'⟩
  show RT (model X.prog X.w) X.A (assign (.Name y py) X.env (.ref D)) _ _ s6;refine wpAny_assign_Name (az I7p hNd hix hLy (v:=.ref D) rfl (λs7 I8=>?_) hfy);have hC7:=(I8.pin (s3.heap.objs.size,o) (Mu _ (Mu _ (Ni.2 rfl)))).1;refine⟨m,⟨o,es,ep,hC7,hdat,rest⟩,λh' hsb=>?_⟩;exact⟨_,H5,I8.unpinned.turned (t':=s7.toks) (λb o hb e=>(hsb.2 b hb).trans e) g0 g1 g3 g4 g5,q⟩
 .rcases turn i m O' acc H' w with h | ⟨go,step⟩
  .exact .inl h
  .refine .inr ⟨go,_,step,λσ2 H4 h=>?_,λpins' s σ2 H4 I h k R E hk=>?_⟩
   .obtain⟨hD9,m',hm,w9⟩:=(show H4 D=some (.lst acc)/\∃m',m'<m/\W (i+1) m' σ2 acc H4 from h);exact⟨m',hm,acc,hD9,w9⟩
   .refine LV (LV (MR (he _ _ _ _ _ _ _ s σ2 H4 _ I h) (λyv s10 ⟨y,H10,I10,r10,hD10,hz,m',hm,w10⟩=>?_) λ_ _ h'=>h'.elim));refine LV (MR (bz (X:=cxC X N scope (O5 scope cl s3.heap.objs.size) s3.heap.objs.size fp vv s3 H3) _ s10 σ2 H10 (.ref D) [y] (.ref D) [yv] (λ_ H'=>H'=upd H10 D (.lst (acc++[y]))) I10 rfl (.cons r10 .nil) ⟨D,acc,y,rfl,rfl,hD10,hz,rfl⟩)
     (λ_ s11 ⟨_,H11,I11,_,e11⟩=>LY ?_) λ_ _ h'=>h'.elim)
    subst e11;exact hk s11 σ2 _ I11 ⟨m',hm,_,k8,w10⟩
def uV {X:Cx}{y:Str}{py spos:Pos}{ix:Nat}{elt tg iter:RL}{ifs:List RL}{scope osc:RI}{N:List Str}{k:Nat}{cap:List Nat}{wi:TI}{g:TG}{tt:TT}{te:TE}
  (hNd:X.N.Nodup) (hix:X.N[ix]? = some y) (hLy:Loc X.env.scope y)
  (hc:X.calm=true) (hosc:X.env.scope=osc) (hcap:Caps X.N osc N k cap scope) (hi:PI X tg iter wi)
  (hg:∀cl C ex vv s H,PG (cxC X N scope cl C ex vv s H) tg g)
  (ht:∀cl C ex vv s H,PTs (cxC X N scope cl C ex vv s H) ifs tt)
  (he:∀cl C ex vv s H,PE (cxC X N scope cl C ex vv s H) elt te)
  (hs:∀x,RY iter X.env x=pure x:=by intro _;rfl) (hfy:X.fn y=true\/X.env.scope.names.lookup y=some .local:=by walk_at "v")
  (hsw:RV (.ListComp elt [⟨tg,iter,ifs,0⟩] scope pos) (some (.Name y py)) spos.line X.env=pure true:=by rfl) :
  PS X (.Assign [.Name y py] (.ListComp elt [⟨tg,iter,ifs,0⟩] scope pos) spos) (gm (tLC wi k cap g tt te) (aM ix)):=by
 intro vv s O H D0 I h;have hcell:∀y∈scope.names,y.2 = .free->∃c,X.env.cells.lookup y.1=some c:=λy hy hk=>I.ok.has y.1 (by show X.env.scope.names.lookup y.1=_\/X.env.scope.names.lookup y.1=_;rw[hosc];exact hcap.free y hy hk)
 walk_at "ka"
 generalize E9 f scope.names []=cl at hclos hcl hhas;rw[exec_Assign_Name_used _ _ _ _ hsw];refine LV (Pb (LV ?_));show RT _ X.A (do let _ <-comprehension (.ListComp elt [⟨tg,iter,ifs,0⟩] scope pos) scope X.env _ (newList []) false (eval iter X.env) (some (assign (.Name y py) X.env))) _ _ s;refine LV (MR (PQ (use:=some (assign (.Name y py) X.env)) (cl:=cl) (Q:=λ_ s'=>∃O' H',Inv X vv O' H' s'/\D0.nx O' H') rfl hs hclos hcap.kind hcap.loc ?_) (λ_ s' hq=>LY (LY hq)) λ_ _ e=>e);refine thn (hi vv s O H _ I h) λv s1 h1=>thn h1 λitv s2 h2=>?_
 obtain⟨it,fp,tn,J,H2,e,I2,T,st2,f2,q2⟩:=h2;subst e;obtain⟨W,⟨m0,w0⟩,turn⟩:=q2 s2.heap.objs.size (I2.hok.fresh (Mh _));refine MY ?_;have I3:Inv X vv O (upd H2 s2.heap.objs.size (.lst [])) { s2 with heap:=s2.heap.push { cls:=.type "list",data:=.seq ([]:List RC).toArray } }:=I2.lnew (ys:=[]) (its:=[]) (t':=s2.toks) .nil (Nj _);have lt2:∀b∈fp,b≠s2.heap.objs.size:=λb hb=>by obtain⟨o,e,_⟩:=T.obj _ _ st2 b hb;exact MC (Mm e)
 exact sM hNd hix hLy hfy hc hosc hcap hcl hhas hg ht he I3 k8 T (T.keep _ _ (s2.heap.push { cls:=.type "list",data:=.seq ([]:List RC).toArray }) st2 λb _ o e=>LZ _ e) (λb hb=>⟨by rw[i3 (lt2 b hb)];exact(f2 b hb).1,(f2 b hb).2⟩) w0 turn
end
section
section
variable {X:Cx}{K:Fg}
def xS (K:Fg):List V->Hp->VK->Prop:=λxs H Q=>∃(a:RD) (ns:List Int),xs=[.ref a]/\SqL K H a (ns.map V.int)/\ns.length<64 /\
 ∀(p:RD) (ns':List Int),H p=none->ns'.Perm ns->ns'.Pairwise (· <= ·)->Q (.ref p) (upd H p (.lst (ns'.map V.int)))
def mv (hK:X.K=K):A8 X (.builtin "sorted") (xS K):=by
 subst hK;walk_at "kz";obtain⟨a,ns,rfl,hq,h64,q⟩:=h;walk_at "kaf";obtain⟨its,rv,p,hz⟩:=I.list hq;have hi:=ck rv;have hlen:its.length=ns.length:=by rw[<-rv.length,LX]
 refine PyProof.Rows.sorted_ints p.isList hi (by omega) λout ns' a1 a2 a3=>?_
 obtain⟨e,he⟩:=sortedAll_at s.heap its out;have I1:Inv X vv O (upd H (s.heap.objs.size+1) (.lst (ns'.map V.int))) { s with heap:=sortedAll s.heap its out,toks:=s.toks } :=
  I.laid (a:=s.heap.objs.size+1) (λb o ho=>sortedAll_old ho) (OI _) ⟨by rw[LX,a2.length_eq,<-LX (f:=V.int)];exact hz,out.toList,e,eR a1,by rw[he]⟩
 exact⟨.ref (s.heap.objs.size+1),_,I1,rfl,q _ ns' (I.hok.fresh (OI _)) a2 a3⟩
def DY (ta:TA):TE:=λO H Q=>ta O H λvs H1=>∃j:Int,vs=[.int j]/\∀p,H1 p=none->Q (.ref p) (upd H1 p (.rng 0 j))
def vA {a:RL}{ta:TA}{p:Pos}(hg:Gl X "range")(hm:X.mg "range" = none)(ha:PA X [a] ta)(hs:RO [a] X.env=[(false,eval a X.env)]:=by rfl):PE X (.Call (.Name "range" p) [a] [] pos) (DY ta):=by
 intro vv s O H Q I h;refine Call_ (cy I hg hm boot_range (Of (thn (ha pos vv s O H _ I h) λus s1 ⟨vs,H1,I1,r1,q1⟩=>?_) hs rfl));obtain⟨j,e,q⟩:=q1;subst e;cases r1 with
 | cons r rr =>cases rr;obtain⟨t,rfl⟩:=r;refine call_range_1 ?_;exact⟨.ref s1.heap.objs.size,_,I1.laid (a:=s1.heap.objs.size) (o:=.rng 0 j) (λb o e=>LZ _ e) (Mh _) ⟨_,_,_,Mp _ rfl⟩,rfl,q _ (I1.hok.fresh (Mh _))⟩
theorem P9:∀{xs:List V} {us:List RC},xs.length=us.length->(∀(i:Nat) x u,xs[i]? = some x->us[i]? = some u->u4 x u)->p8 xs us
 | [],[],_,_=>.nil
 | [],_::_,e,_=>by simp at e
 | _::_,[],e,_=>by simp at e
 | x::xs,u::us,e,h=>.cons (h 0 x u rfl rfl) (P9 (by simpa using e) λi y v h1 h2=>h (i+1) y v (by simpa using h1) (by simpa using h2))
end
end
section
def isT (a T:String):Bool:=a == T||(a == "bool" && T == "int")
section
variable {X:Cx}{K:Fg}
end
end
section
section
variable {X:Cx}{K:Fg}
end
end
section
section
variable {X:Cx}{K:Fg}
def Dd (K:Fg):List V->Hp->VK->Prop:=λxs H Q=>∃(a:RD) (ns:List Int),xs=[.ref a]/\SqT K H a (ns.map V.int)/\ns≠[]/\∀m,m∈ns->(∀n∈ns,m<=n)->Q (.int m) H
def sZ (hK:X.K=K)(hc:X.calm=true):A8 X (.builtin "min") (Dd K):=by
 subst hK;walk_at "kz";obtain⟨a,ns,rfl,hq,hne,q⟩:=h;walk_at "kaf";obtain⟨its,rv,p,hz⟩:=I.tuple hq;have hlen:its.length=ns.length:=by rw[<-rv.length,LX]
 have hpos:0<ns.length:=QW.2 hne;have p':s.heap.IsTuple a its.toArray:=p;have hlt:a<s.heap.objs.size:=by obtain⟨o,e,_⟩:=p;exact Mm e
 have hval:∀(i:Nat) (v:RC),its.toArray[i]? = some v->∃t,v = .int (ns.getD i 0) t:=λi v hv=>by
  have hv:its[i]? = some v:=by simpa using hv
  obtain⟨hi,_⟩:=Mj.1 hv;have hb:(ns.map V.int)[i]? = some (V.int (ns.getD i 0)):=by rw[Mt,Ml (by omega)];simp[List.getD,Ml (show i<ns.length by omega)]
  obtain⟨u,hu,ru⟩:=rv.get hb;rw[hv]at hu;cases hu;exact ru
 refine call_min_walk (Oq p' ?_);have hne':a≠s.heap.objs.size:=MC hlt;refine⟨_,_,_,_,_,_,_,rfl,Walks.tuple (A:=X.A.in1) (I.ok.hd hc) _ a hne' its.toArray,⟨⟨_,Mp _ rfl,rfl,rfl⟩,?_⟩,?_,?_,CmpOf.ints_lt (λi=>ns.getD i 0) hval,λv h' tk hP hk=>?_⟩
 .exact p'.at λo e=>LZ _ e
 .intro b hb;rw[NB];have:b=s.heap.objs.size\/b=a:=by simpa using hb
  rcases this with e | e
  .rw[e];exact NZ _
  .rw[e];exact Oe hlt
 .rw[Mr,hlen];exact hpos
 .obtain⟨h1,h2⟩:=argBest_lt (λi=>ns.getD i 0) (its.toArray.size-1);obtain⟨t,rfl⟩:=hval _ v hP;have hsz:its.toArray.size=ns.length:=by rw[Mr,hlen]
  refine⟨.int _,H,I.kept λb o e=>hk b o (by simp;exact MC (Mm e)) (LZ _ e),⟨t,rfl⟩,q _ ?_ λn hn=>?_⟩
  .exact getD_mem (by omega)
  .obtain⟨j,hj,rfl⟩:=mem_getD hn;exact h2 j (by omega)
end
end
end L2
namespace L2
open PySem PyProof.Rows
def kX {prog:RF}{w:RG}{A:RH}{E:RC->RE->Prop}{s:RE}{a b:Bool}{Q:RC->RE->Prop}(h:Q (.bool (decide ((if a then(1:Int) else 0)<if b then 1 else 0))) s) :
  RT (model prog w) A (call (.builtin "int.__lt__") [.bool a,.bool b]) Q E s:=by refine Ng PySem.F.slot_bool_lt (T:="bool") rfl entry_int_lt ?_ (args_int_lt _ _);show RT _ _ (ret (.bool (decide ((if a then(1:Int) else 0)<if b then 1 else 0)))) _ _ s;exact LY ⟨_,rfl,h⟩
def pD {prog:RF}{w:RG}{A:RH}{E:RC->RE->Prop}{s:RE}{a b:Bool}{Q:Bool->RE->Prop}(h:Q (decide ((if a then(1:Int) else 0)<if b then 1 else 0)) s):RT (model prog w) A (oneLt' true (.bool a) (.bool b)) Q E s:=by rw[oneLt'_eq];simp only[Nk];refine LV (wpAny_cRoomFor_byValue rfl ?_);refine LV (wpAny_callSpecialIfBound?_slot (T:="bool") rfl PySem.F.slot_bool_lt (kX ?_));exact Oc h
def Lx (κ:Nat->Int)(i j:Nat):Prop:=κ i < κ j\/(κ i = κ j/\i<j)
structure SB (kd:SortKind) (a0:Array Sb) (st:SortSt):Prop where
 size:(arrOf st).size=a0.size
 kind:kindOf st=kd
 failed:failedOf st=none
 pend:pendingOf st = #[]
variable {kd:SortKind}
def SB.setArr {a0:Array Sb}{st:SortSt}(h:SB kd a0 st){xs:Array Sb}(hp:xs.size=(arrOf st).size):SB kd a0 (PyProof.Rows.setArr st xs):=⟨hp.trans h.size,h.kind,h.failed,h.pend⟩
structure SG (kd:SortKind) (a0:Array Sb) (st:SortSt) (p:Nat->Nat):Prop where
 base:SB kd a0 st
 inj:∀i j,i<a0.size->j<a0.size->p i=p j->i=j
 at_:∀i,i<a0.size->(arrOf st)[i]? = a0[p i]?
 lt:∀i,i<a0.size->p i<a0.size
def gK (prog:RF)(w:RG)(A:RH)(s:RE)(kd:SortKind)(a0:Array Sb)(κ:Nat->Int):Prop :=
 ∀(i j:Nat) (x y:Sb),i≠j->a0[i]? = some x->a0[j]? = some y->∀(E:RC->RE->Prop) (Q:Bool->RE->Prop),Q (decide (κ i < κ j)) s->RT (model prog w) A (keyLt' kd x.1 y.1) Q E s
def SoK (κ:Nat->Int)(p:Nat->Nat)(n:Nat):Prop:=∀i j,i<=j->j<n->κ (p i) <= κ (p j)
def SoS (κ:Nat->Int)(p:Nat->Nat)(n:Nat):Prop:=(∀i j,i<j->j<n->Lx κ (p i) (p j))/\(∀i,n<=i->p i=i)/\∀i,i<n->p i<n
variable {κ:Nat->Int}
def SoS.sorted {p:Nat->Nat}{n:Nat}(h:SoS κ p n):SoK κ p n:=by
 intro i j hij hj;by_cases e:i=j
 .subst e;exact Pj _
 .rcases h.1 i j (by omega) hj with q | q
  .exact Int.le_of_lt q
  .exact Int.le_of_eq q.1
def SoS.more {p:Nat->Nat}{n m:Nat}(h:SoS κ p n)(hnm:n<=m)(hs:SoK κ p m):SoS κ p m:=by
 refine⟨λi j hij hj=>?_,λi hi=>h.2.1 i (by omega),λi hi=>?_⟩
 .by_cases hjn:j<n
  .exact h.1 i j hij hjn
  .have q:=hs i j (by omega) hj;have ej:=h.2.1 j (by omega);rcases PR q with q | q
   .exact .inl q
   .refine .inr ⟨q,?_⟩;rw[ej];by_cases hin:i<n
    .have:=h.2.2 i hin;omega
    .rw[h.2.1 i (by omega)];exact hij
 .by_cases hin:i<n
  .have:=h.2.2 i hin;omega
  .rw[h.2.1 i (by omega)];exact hi
variable {nrem:Nat}
section
variable {prog:RF}{w:RG}{A:RH}{E:RC->RE->Prop}{s:RE}{a0:Array Sb}
def lE {st:SortSt}{p:Nat->Nat}{i j:Nat}{Q:Option Bool->SortSt->Prop}(g:SG kd a0 st p)(hL:gK prog w A s kd a0 κ)(hi:i<a0.size)(hj:j<a0.size)(hij:i≠j)
  (h:Q (some (decide (κ (p i) < κ (p j)))) st):wpS (model prog w) A E s (ltAt' i j) Q st:=by have e1:=g.at_ i hi;have e2:=g.at_ j hj;have l1:=g.lt i hi;have l2:=g.lt j hj;have f1:a0[p i]? = some a0[p i]:=getElem?_pos a0 (p i) l1;have f2:a0[p j]? = some a0[p j]:=getElem?_pos a0 (p j) l2;rw[ltAt'_eq];refine Nd (wpS_get ?_);show wpS _ _ _ _ (do let x <-elem' (arrOf st) i;let y <-elem' (arrOf st) j;lt' x y) Q st;rw[elem'_eq,elem'_eq,e1,e2,f1,f2];refine Nd (NH (Nd (NH ?_)));rw[lt'_eq];refine Nd (wpS_get ?_);rw[g.base.kind];refine Nd (wpS_lift (PB (hL _ _ _ _ (λz=>hij (g.inj i j hi hj z)) f1 f2 _ _ ?_)));exact⟨rfl,NH h⟩
def SG.bub {st:SortSt}{p:Nat->Nat}(g:SG kd a0 st p){k l:Nat}(hk:k<a0.size)(hl:l<=k) :
  SG kd a0 (setArr st (bubble (arrOf st) k (k-l))) (λi=>if i=l then p k else if l<i/\i<=k then p (i-1) else p i):=by
 refine⟨g.base.setArr (bubble_size _ _ _),λi j hi hj e=>?_,λi hi=>?_,λi hi=>?_⟩
 .have q:=g.inj;try dsimp only at e
  repeat' split at e
  all_goals first
   | omega
   | (have:=q _ _ (by omega) (by omega) e;omega)
 .have e:=getElem?_bubble (xs:=arrOf st) (src:=k) (by rw[g.base.size];exact hk) (k-l) (by omega) i;rw[show k-(k-l)=l by omega]at e;show(bubble (arrOf st) k (k-l))[i]? = _;rw[e];repeat' split
  .exact g.at_ _ hk
  .exact g.at_ _ (by omega)
  .exact g.at_ _ hi
 .try dsimp only
  repeat' split
  .exact g.lt _ hk
  .exact g.lt _ (by omega)
  .exact g.lt _ hi
def SG.mir {st:SortSt}{p:Nat->Nat}(g:SG kd a0 st p){u v:Nat}(hv:v<=a0.size) :
  SG kd a0 (setArr st (mirror (arrOf st) u v ((v-u) / 2))) (λi=>if u<=i/\i<v then p (u+v-1-i) else p i):=by
 refine⟨g.base.setArr (mirror_size _ _ _ _),λi j hi hj e=>?_,λi hi=>?_,λi hi=>?_⟩
 .have q:=g.inj;try dsimp only at e
  repeat' split at e
  all_goals first
   | omega
   | (have:=q _ _ (by omega) (by omega) e;omega)
 .have e:=getElem?_mirror_all (xs:=arrOf st) (i:=u) (j:=v) (by rw[g.base.size];exact hv) i;show(mirror (arrOf st) u v ((v-u) / 2))[i]? = _;rw[e];repeat' split
  .exact g.at_ _ (by omega)
  .exact g.at_ _ hi
 .try dsimp only
  split
  .exact g.lt _ (by omega)
  .exact g.lt _ hi
def rp {st:SortSt}{p:Nat->Nat}{n ok:Nat}{Q:Bool->SortSt->Prop}(hL:gK prog w A s kd a0 κ)(hn:n<=a0.size)(hok:ok<=n)(hB:SG kd a0 st p)(hs:SoS κ p ok)
  (h:∀st' p',SG kd a0 st' p'->SoS κ p' n->Q true st'):wpS (model prog w) A E s (binarySort' 0 n ok) Q st:=by
 rw[binarySort'_eq];simp only[MM];refine Nd (wpS_mono (PU (I:=λk c st'=>c=(none,())/\∃p',SG kd a0 st' p'/\SoS κ p' (min k n))
  (Q:=λc st'=>c=(none,())/\∃p',SG kd a0 st' p'/\SoS κ p' n) ?step ?fin ?init) ?post)
 case post =>
  rintro c st' ⟨rfl,p',hB',hs'⟩
  exact NH (h st' p' hB' hs')
 case init =>
  refine⟨rfl,p,hB,?_⟩
  by_cases h1:ok=0
  .subst h1
   refine hs.more (by omega) λi j hij hj=>?_
   have:i=j:=by omega
   subst this;exact Pj _
  .rw[show min (max ok 1) n=ok by omega];exact hs
 case fin =>
  rintro c st' ⟨hc,p',hB',hs'⟩
  refine⟨hc,p',hB',?_⟩
  rwa [show min (max (max ok 1) n) n=n by omega]at hs'
 case step =>
  rintro k c st' hak hkn ⟨rfl,p',hG',hS'⟩
  rw[show min k n=k by omega]at hS'
  have hk:k<a0.size:=by omega
  have hs':=hS'.sorted
  have hB':=hG'.base
  refine Nd (wpS_mono (PU (I:=λx c st''=>st''=st'/\∃l r,c=(none,l,r)/\l<=r/\r<=k/\r-l<=k-x /\
    (∀i,i<l->κ (p' i) <= κ (p' k))/\(∀i,r<=i->i<k->κ (p' k) < κ (p' i)))
   (Q:=λc st''=>st''=st'/\∃l r,c=(none,l,r)/\l<=k /\
    (∀i,i<l->κ (p' i) <= κ (p' k))/\(∀i,l<=i->i<k->κ (p' k) < κ (p' i))) ?istep ?ifin ?iinit) ?ipost)
  case iinit=>exact⟨rfl,0,k,rfl,by omega,by omega,by omega,λi hi=>by omega,λi h1 h2=>by omega⟩
  case ifin =>
   rintro c st'' ⟨rfl,l,r,rfl,hlr,hrk,hm,hlo,hhi⟩
   have:l=r:=by omega
   subst this
   exact⟨rfl,l,l,rfl,hrk,hlo,hhi⟩
  case istep =>
   rintro x c st'' _ hxk ⟨rfl,l,r,rfl,hlr,hrk,hm,hlo,hhi⟩
   dsimp only
   by_cases hge:l >= r
   .rw[Mb hge]
    have:l=r:=by omega
    subst this
    exact NH ⟨rfl,l,l,rfl,hrk,hlo,hhi⟩
   .rw[Md hge]
    refine Nd (lE hG' hL hk (by omega) (by omega) ?_)
    by_cases hless:κ (p' k) < κ (p' ((l+r) / 2))
    .simp only[hless,Qu,Nk]
     refine NH ⟨rfl,l,(l+r) / 2,rfl,by omega,by omega,by omega,hlo,λi h1 h2=>?_⟩
     exact Int.lt_of_lt_of_le hless (hs' _ _ h1 h2)
    .simp only[hless,QN,MT,Nf]
     refine NH ⟨rfl,(l+r) / 2+1,r,rfl,by omega,by omega,by omega,λi h1=>?_,hhi⟩
     exact Int.le_trans (hs' i ((l+r) / 2) (by omega) (by omega)) (Int.not_lt.1 hless)
  case ipost =>
   rintro c st'' ⟨rfl,l,r,rfl,hlk,hlo,hhi⟩
   show wpS _ _ _ _ (do moveDown' k l;pure (ForInStep.yield (none,()))) _ _
   rw[moveDown'_eq]
   refine Nd (wpS_modify (NH ⟨rfl,_,hG'.bub hk hlk,?_⟩))
   rw[show min (k+1) n=k+1 by omega]
   have ek:=hS'.2.1 k (Mh _)
   have lo':∀i,i<l->Lx κ (p' i) (p' k):=λi hi=>by
    have q:=hlo i hi;rcases PR q with q | q
    .exact .inl q
    .refine .inr ⟨q,?_⟩;rw[ek];exact hS'.2.2 i (by omega)
   have hi':∀i,l<=i->i<k->Lx κ (p' k) (p' i):=λi h1 h2=>by have q:=hhi i h1 h2;exact .inl q
   refine⟨λi j hij hj=>?_,λi hi=>?_,λi hi=>?_⟩
   .dsimp only
    repeat' split
    all_goals first
     | (exfalso;omega)
     | exact lo' _ (by omega)
     | exact hi' _ (by omega) (by omega)
     | exact hS'.1 _ _ (by omega) (by omega)
   .dsimp only
    rw[Md (by omega),Md (by omega)]
    exact hS'.2.1 i (by omega)
   .dsimp only
    repeat' split
    .rw[ek];omega
    .have:=hS'.2.2 (i-1) (by omega);omega
    .have:=hS'.2.2 i (by omega);omega
def xi {st:SortSt}{p:Nat->Nat}{a:Nat}{Q:AscSt->SortSt->Prop}(hL:gK prog w A s kd a0 κ)(hn:nrem<=a0.size)(ha:1<=a)(han:a<=nrem)(hG:SG kd a0 st p)
  (hs:SoK κ p a)
  (h:∀n,a<=n->n<=nrem->SoK κ p n->(n=nrem \/ κ (p n) < κ (p (n-1)))->Q (none,n) st) :
  wpS (model prog w) A E s (ascLoop a nrem) Q st:=by
 unfold ascLoop;refine PU (I:=λx c st'=>st'=st/\c=(none,x)/\SoK κ p x) ?step ?fin ⟨rfl,rfl,hs⟩;case fin =>
  rintro c st' ⟨rfl,rfl,hs'⟩
  rw[show max a nrem=nrem by omega]at hs' ⊢
  exact h nrem han (Mh _) hs' (.inl rfl)
 case step =>
  rintro x c st' hax hxn ⟨rfl,rfl,hs'⟩
  dsimp only
  refine Nd (lE hG hL (by omega) (by omega) (by omega) ?_)
  by_cases hless:κ (p x) < κ (p (x-1))
  .simp only[hless,Qu,Nk]
   exact NH (h x hax (by omega) hs' (.inr hless))
  .simp only[hless,QN,MT,Nf]
   refine NH ⟨rfl,rfl,λi j hij hj=>?_⟩
   by_cases hjx:j<x
   .exact hs' i j hij hjx
   .have hj':j=x:=by omega
    subst hj'
    by_cases hi':i=j
    .subst hi';exact Pj _
    .exact Int.le_trans (hs' i (j-1) (by omega) (by omega)) (Int.not_lt.1 hless)
def DoS (κ:Nat->Int)(p:Nat->Nat)(n:Nat):Prop:=(∀i j,i<j->j<n->Lx κ (p j) (p i))/\(∀i,n<=i->p i=i)/\∀i,i<n->p i<n
def nC {st:SortSt}{p:Nat->Nat}{n:Nat}{Q:Option Nat->SortSt->Prop}(hL:gK prog w A s kd a0 κ)(hn:nrem<=a0.size)(h1:1<=n)(hnn:n<=nrem)(hB:SG kd a0 st p)
  (hs:DoS κ p n) (h:∀m st' p',SG kd a0 st' p'->1<=m->m<=nrem->SoS κ p' m->Q (some m) st') :
  wpS (model prog w) A E s (tail3 n nrem) Q st:=by
 unfold tail3;refine Nd (wpS_reverse ?_);have hG:=hB.mir (u:=0) (v:=n) (by omega);have hS:SoS κ (λi=>if 0<=i/\i<n then p (0+n-1-i) else p i) n:=by
  refine⟨λi j hij hj=>?_,λi hi=>?_,λi hi=>?_⟩
  .dsimp only;rw[Mb (by omega),Mb (by omega)];exact hs.1 _ _ (by omega) (by omega)
  .dsimp only;rw[Md (by omega)];exact hs.2.1 i hi
  .dsimp only;rw[Mb (by omega)];exact hs.2.2 _ (by omega)
 exact Nd (xi hL hn h1 hnn hG hS.sorted λm hm1 hm2 hsm _=>NH (h m _ _ hG (by omega) hm2 (hS.more hm1 hsm)))
def GoS (κ:Nat->Int)(p:Nat->Nat)(g n:Nat):Prop :=
 DoS κ p g/\g<n/\(∀i,g<=i->i<n->κ i = κ (n-1))/\∀i,i<g->κ (n-1) < κ (p i)
def GoS.close {st:SortSt}{p:Nat->Nat}{g n:Nat}(hG:SG kd a0 st p)(h:GoS κ p g n)(hn:n<=a0.size):DoS κ (λi=>if g<=i/\i<n then p (g+n-1-i) else p i) n:=by
 obtain⟨hd,hg,he,hl⟩:=h;refine⟨λi j hij hj=>?_,λi hi=>?_,λi hi=>?_⟩
 .dsimp only;by_cases h1:g<=i
  .rw[Mb (by omega),Mb (by omega),hd.2.1 _ (by omega),hd.2.1 _ (by omega)];refine .inr ⟨?_,by omega⟩;rw[he _ (by omega) (by omega),he (g+n-1-i) (by omega) (by omega)]
  .by_cases h2:g<=j
   .rw[Mb (by omega),Md (by omega),hd.2.1 _ (by omega)];refine .inl ?_;rw[he _ (by omega) (by omega)];exact hl i (by omega)
   .rw[Md (by omega),Md (by omega)];exact hd.1 i j hij (by omega)
 .dsimp only;rw[Md (by omega)];exact hd.2.1 i (by omega)
 .dsimp only;split
  .rw[hd.2.1 _ (by omega)];omega
  .have:=hd.2.2 i (by omega);omega
def GoS.close1 {p:Nat->Nat}{g n:Nat}(h:GoS κ p g n)(e:n=g+1):DoS κ p n:=by
 obtain⟨hd,hg,he,hl⟩:=h;subst e;refine⟨λi j hij hj=>?_,λi hi=>hd.2.1 i (by omega),λi hi=>?_⟩
 .by_cases h2:j<g
  .exact hd.1 i j hij h2
  .have:j=g:=by omega
   subst this;rw[hd.2.1 j (Mh _)];exact .inl (hl i hij)
 .by_cases h2:i<g
  .have:=hd.2.2 i h2;omega
  .rw[hd.2.1 i (by omega)];exact hi
def xN {st:SortSt}{p:Nat->Nat}{n:Nat}{Q:DescSt->SortSt->Prop}(hL:gK prog w A s kd a0 κ)(hn:nrem<=a0.size)(h1:1<=n)(hnn:n<=nrem)(hB:SG kd a0 st p)
  (hs:GoS κ p (n-1) n)
  (h:∀m neq st' p',SG kd a0 st' p'->n<=m->m<=nrem->neq+1<=m->GoS κ p' (m-(neq+1)) m->Q (none,m,neq) st') :
  wpS (model prog w) A E s (descLoop n nrem) Q st:=by
 unfold descLoop;refine PU (I:=λx c st'=>∃neq p',c=(none,x,neq)/\SG kd a0 st' p'/\neq+1<=x/\GoS κ p' (x-(neq+1)) x) ?step ?fin ⟨0,p,rfl,hB,by omega,hs⟩;case fin =>
  rintro c st' ⟨neq,p',rfl,hG',hq,hS'⟩
  rw[show max n nrem=nrem by omega]at hq hS' ⊢
  exact h nrem neq st' p' hG' hnn (Mh _) hq hS'
 case step =>
  rintro x c st' hax hxn ⟨neq,p',rfl,hG',hq,hS'⟩
  dsimp only
  refine Nd (lE hG' hL (by omega) (by omega) (by omega) ?_)
  have k1:p' x=x:=hS'.1.2.1 x (by omega)
  have k2:p' (x-1)=x-1:=hS'.1.2.1 (x-1) (by omega)
  rw[k1,k2]
  have put:∀{p2:Nat->Nat},κ x < κ (x-1)->DoS κ p2 x->(∀i,i<x->κ (x-1) <= κ (p2 i))->GoS κ p2 (x+1-(0+1)) (x+1):=by
   intro p2 hless d ge;rw[show x+1-(0+1)=x by omega];refine⟨d,by omega,λi h1 h2=>?_,λi hi=>?_⟩
   .rw[show i=x by omega];rfl
   .exact Int.lt_of_lt_of_le hless (ge i hi)
  have ge0:∀i,i<x->κ (x-1) <= κ (p' i):=λi hi=>by
   by_cases hg:i<x-(neq+1)
   .exact Int.le_of_lt (hS'.2.2.2 i hg)
   .rw[hS'.1.2.1 i (by omega)];exact Int.le_of_eq (hS'.2.2.1 i (by omega) hi).symm
  by_cases hless:κ x < κ (x-1)
  .simp only[hless,Qu,Nk]
   by_cases hneq:neq > 0
   .rw[Mb hneq]
    have hG2:=hG'.mir (u:=x-(neq+1)) (v:=x) (by omega)
    refine Nd (wpS_reverse (NH ⟨0,_,rfl,hG2,by omega,put hless (hS'.close hG' (by omega)) λi hi=>?_⟩))
    try dsimp only
    split
    .exact ge0 _ (by omega)
    .exact ge0 _ hi
   .rw[Md hneq]
    exact NH ⟨0,p',rfl,hG',by omega,put hless (hS'.close1 (by omega)) ge0⟩
  .simp only[hless,QN,MT,Nf]
   refine Nd (lE hG' hL (by omega) (by omega) (by omega) ?_)
   rw[k1,k2]
   by_cases hlarger:κ (x-1) < κ x
   .simp only[hlarger,Qu,Nk]
    exact NH (h x neq st' p' hG' hax (by omega) hq hS')
   .simp only[hlarger,QN,MT,Nf]
    have heqx:κ x = κ (x-1):=by omega
    refine NH ⟨neq+1,p',rfl,hG',by omega,?_⟩
    rw[show x+1-(neq+1+1)=x-(neq+1) by omega]
    refine⟨hS'.1,by omega,λi h1 h2=>?_,λi hi=>?_⟩
    .rw[show x+1-1=x by omega]
     by_cases hix:i=x
     .subst hix;rfl
     .rw[heqx];exact hS'.2.2.1 i h1 (by omega)
    .rw[show x+1-1=x by omega,heqx];exact hS'.2.2.2 i hi
def ff {st:SortSt}{p:Nat->Nat}{n:Nat}{Q:Option Nat->SortSt->Prop}(hL:gK prog w A s kd a0 κ)(hn:nrem<=a0.size)(hnn:n+1<=nrem)(hB:SG kd a0 st p)
  (hs:GoS κ p n (n+1)) (h:∀m st' p',SG kd a0 st' p'->1<=m->m<=nrem->SoS κ p' m->Q (some m) st') :
  wpS (model prog w) A E s (descPart n nrem) Q st:=by
 unfold descPart;refine Nd (wpS_lift (Oi ⟨rfl,?_⟩));refine Nd (xN hL hn (by omega) hnn hB hs λm neq st' p' hG' hm1 hm2 hq hS'=>?_);dsimp only;by_cases hneq:neq > 0
 .rw[Mb hneq];exact Nd (wpS_reverse (nC hL hn (by omega) hm2 (hG'.mir (by omega)) (hS'.close hG' (by omega)) h))
 .rw[Md hneq];exact nC hL hn (by omega) hm2 hG' (hS'.close1 (by omega)) h
def vf {st:SortSt}{Q:Option Nat->SortSt->Prop}(hL:gK prog w A s kd a0 κ)(hn:nrem<=a0.size)(h1:1<=nrem)(hB:SG kd a0 st id)
  (h:∀m st' p',SG kd a0 st' p'->1<=m->m<=nrem->SoS κ p' m->Q (some m) st') :
  wpS (model prog w) A E s (countRun' 0 nrem) Q st:=by
 rw[countRun0_eq];have S0:SoS κ id 0:=⟨λi j _ hj=>by omega,λi _=>rfl,λi hi=>by omega⟩;have one:SoK κ id 1:=λi j hij hj=>by
  have:i=j:=by omega
  subst this;exact Pj _
 refine Nd (xi hL hn (Mh 1) h1 hB one λn hn1 hn2 hsn hor=>?_);dsimp only;by_cases hnn:n=nrem
 .rw[Mb (by simpa using hnn)];exact NH (h n st id hB hn1 hn2 (S0.more (by omega) hsn))
 .rw[Md (by simpa using hnn)];have hlt:κ n < κ (n-1):=hor.resolve_left hnn;by_cases hgt:n > 1
  .rw[Mb hgt];refine Nd (lE hB hL (by omega) (by omega) (by omega) ?_);simp only[id];by_cases hrose:κ 0 < κ (n-1)
   .simp only[hrose,Qu,Nk];exact NH (h n st id hB hn1 hn2 (S0.more (by omega) hsn))
   .simp only[hrose,QN,MT,Nf];have hall:∀j,j<n->κ j = κ (n-1):=by intro j hk;have a1:κ 0 <= κ j:=hsn 0 j (by omega) hk;have a2:κ j <= κ (n-1):=hsn j (n-1) (by omega) (by omega);omega
    refine Nd (wpS_reverse (ff hL hn (by omega) (hB.mir (by omega)) ?_ h));refine⟨⟨λi j hij hj=>?_,λi hi=>?_,λi hi=>?_⟩,by omega,λi h1 h2=>?_,λi hi=>?_⟩
    .dsimp only;rw[Mb (by omega),Mb (by omega)];refine .inr ⟨?_,by simp only[id];omega⟩;simp only[id];rw[hall _ (by omega),hall (0+n-1-i) (by omega)]
    .dsimp only;rw[Md (by omega)];rfl
    .dsimp only;rw[Mb (by omega)];simp only[id];omega
    .rw[show i=n by omega];rfl
    .dsimp only;rw[Mb (by omega)];simp only[id]at hlt ⊢;rw[hall (0+n-1-i) (by omega),show n+1-1=n by omega];exact hlt
  .rw[Md hgt];have hn1':n=1:=by omega
   subst hn1';refine ff hL hn (by omega) hB ⟨⟨λi j hij hj=>by omega,λi hi=>rfl,λi hi=>hi⟩,by omega,λi h1 h2=>?_,λi hi=>?_⟩ h
   .rw[show i=1 by omega]
   .rw[show i=0 by omega];exact hlt
def pI (κ:Nat->Int)(a0:Array Sb)(st:SortSt):Prop :=
 failedOf st=none/\pendingOf st = #[(0,a0.size,0)]/\(arrOf st).size=a0.size/\∃p,(∀i,i<a0.size->(arrOf st)[i]? = a0[p i]?)/\SoS κ p a0.size
def SG.done {st:SortSt}{p:Nat->Nat}(g:SG kd a0 st p)(h:SoS κ p a0.size):pI κ a0 (setPending st ((pendingOf st).push (0,a0.size,0))) :=
 ⟨g.base.failed,by show(pendingOf st).push _=_;rw[g.base.pend];rfl,g.base.size,p,g.at_,h⟩
def pT {st:SortSt}{Q:Unit->SortSt->Prop}(hL:gK prog w A s kd a0 κ)(hB:SG kd a0 st id)(h2:2<=a0.size)(h64:a0.size<64)
  (h:∀st',failedOf st'=none->(arrOf st').size=a0.size->(∃p,(∀i,i<a0.size->(arrOf st')[i]? = a0[p i]?)/\SoS κ p a0.size)->Q () st'):wpS (model prog w) A E s sortRuns' Q st:=by
 rw[sortRuns'_eq];refine Nd (wpS_get ?_);dsimp only;have hmr:minRun' a0.size a0.size 0=a0.size:=by
  obtain⟨f,hf⟩:∃f,a0.size=f+1:=⟨a0.size-1,by omega⟩;have:minRun' (f+1) a0.size 0=a0.size:=by rw[minRun'_succ,Mb h64];rfl
  rwa [<-hf]at this
 simp only[hB.base.size,hmr];refine Nd (wpS_mono (PU
  (I:=λx c st'=>(x=0/\c=(none,0)/\SG kd a0 st' id)\/(1<=x/\c=(none,a0.size)/\pI κ a0 st'))
  (Q:=λc st'=>c=(none,a0.size)/\pI κ a0 st') ?step ?fin (.inl ⟨rfl,rfl,hB⟩)) ?post)
 case fin =>
  rintro c st' (⟨hx,_,_⟩ | ⟨_,hc,hD⟩)
  .omega
  .exact⟨hc,hD⟩
 case step =>
  rintro x c st' _ hx (⟨rfl,rfl,hB'⟩ | ⟨hx1,rfl,hD⟩)
  .dsimp only
   rw[Md (by omega)]
   simp only[Nat.sub_zero,Nat.min_self,MM]
   refine Nd (vf hL (Mh _) (by omega) hB' λm st2 p2 hB2 hm1 hm2 hs2=>?_)
   dsimp only
   by_cases hlt:m<a0.size
   .rw[Mb hlt]
    refine Nd (wpS_lift (Oi ⟨rfl,?_⟩))
    refine Nd (rp hL (Mh _) hm2 hB2 hs2 λst3 p3 hB3 hs3=>?_)
    simp only[Pc,MT,Nf]
    refine Nd (wpS_get ?_)
    have hb:(pendingOf st3).back? = none:=by rw[hB3.base.pend];rfl
    rw[hb]
    dsimp only
    exact Nd (wpS_modify (NH (.inr ⟨by omega,rfl,hB3.done hs3⟩)))
   .rw[Md hlt]
    have hm:m=a0.size:=by omega
    subst hm
    refine Nd (wpS_get ?_)
    have hb:(pendingOf st2).back? = none:=by rw[hB2.base.pend];rfl
    rw[hb]
    dsimp only
    exact Nd (wpS_modify (NH (.inr ⟨by omega,rfl,hB2.done hs2⟩)))
  .dsimp only
   rw[Mb (Mh _)]
   exact NH ⟨rfl,hD⟩
 case post =>
  rintro c st' ⟨rfl,hD⟩
  dsimp only
  refine Nd (wpS_mono (PU (I:=λ_ c st''=>st''=st'/\c=(none,())) (Q:=λc st''=>st''=st'/\c=(none,())) ?_ (λ_ _ hh=>hh) ⟨rfl,rfl⟩) ?_)
  .rintro x c st'' _ _ ⟨rfl,rfl⟩
   refine Nd (wpS_get ?_)
   rw[Mb (by rw[hD.2.1];exact Mh 1)]
   exact NH ⟨rfl,rfl⟩
  .rintro c st'' ⟨rfl,rfl⟩
   exact NH (h _ hD.1 hD.2.2.1 hD.2.2.2)
end
end L2
namespace L2
open PySem PySem.Spec PyProof.Rows PySem.W
variable {vv:List (RD×RP)}{params:Arguments}
section
def cdO (c:RD)(q:Str):HO:=.ext λh=>h.CodeRec (.ref c) q
def jd (H:Hp)(P:RD)(q:Str):Prop:=∃ps,H P=some (.tbl ps)/\TriplesOk ps.toList/\∀pos cv,codeAmong pos ps.toList=some cv->∃c,cv = .ref c/\H c=some (cdO c q)
def oU {q p:Pos}{c cv:RC}:∀(l:List RC),TriplesOk l->codeAmong q (l++[rawInt p.line,rawInt p.col,c])=some cv->codeAmong q l=some cv\/cv=c:=by
 intro l h e;fun_induction TriplesOk l with
 | case1 =>
  simp only[ME,codeAmong,rawInt]at e
  split at e
  .exact .inr (Mg e).symm
  .cases e
 | case2 a b c' d e' rest ih =>
  simp only[MA,codeAmong]at e ⊢
  split
  .rename_i h1
   rw[Mb h1]at e
   exact .inl e
  .rename_i h1
   rw[Md h1]at e
   exact ih h e
 | case3=>exact h.elim
def BMd (base:RM)(mg:Str->Option RC):Prop:=∃bm ob,mg "__builtins__" = some (.ref bm)/\bm≠builtinsNs/\base.get? bm=some ob/\ob.cls = .type "module" /\ ob.dict=some builtinsNs/\ob.data = .plain
def Bv (P:RD)(q:Str)(H H':Hp):Prop:=H'=H\/∃ps more c,H P=some (.tbl ps)/\H c=none/\c≠P/\H'=upd (upd H P (.tbl (ps++more))) c (cdO c q)
def wB {c:RD}{q:Str}:∀h1 h2:RM,h1.CodeRec (.ref c) q->(∀o,h1.get? c=some o->h2.get? c=some o)->h2.CodeRec (.ref c) q:=λh1 h2 ⟨c',o,vs,t,e,g,r⟩ k=>by cases e;exact⟨c,o,vs,t,rfl,k o g,r⟩
section
variable {X:Cx}{O:St}{H:Hp}{s:RE}
def Inv.pin1 {a:RD}{o:RP}(I:Inv X vv O H s)(ho:s.heap.get? a=some o)(hH:H a=none)(hL:a≠X.env.locals)(hf:a ∉ X.fs)(hd:∀v,o.data ≠ .cell v):Inv X ((a,o)::vv) O H s :=
 I.pins_of λp hp=>by
  rcases Mi.1 hp with rfl | hp
  .exact⟨ho,hH,hL,hf,hd⟩
  .exact I.pin p (Mu _ hp)
def Inv.pinFresh {a:RD}{o:RP}{s0:RE}{pins0:List (RD×RP)}{σ0:St}{H0:Hp}(I:Inv X vv O H s)(I0:Inv X pins0 σ0 H0 s0)(ho:s.heap.get? a=some o)(h:s0.heap.objs.size<=a)(hH:H a=none)(hd:∀v,o.data ≠ .cell v):Inv X ((a,o)::vv) O H s :=
 I.pin1 ho hH (λe=>absurd (Mx I0.lt h) (by rw[e];exact Nv _)) (I0.nofs h) hd
def tY {body:RL}{scope:RI}{lpos:Pos}{c P:RD}{q:Str}{cl:List (Str×RD)}{Q:RC->RE->Prop}(I:Inv X vv O H s)(hdef:defaultsOf params X.env=([],[]))(hcl:closureFor scope X.env=pure cl)
  (hcode:X.env.code = .ref c) (C:CodeHd X.base c P) (BM:BMd X.base X.mg) (T:jd H P q) (hq:X.env.qual ++ "<lambda>" = q)
  (h:∀f c' ctv H' s',Bv P q H H'->jd H' P q->H' c'=some (cdO c' q)->Inv X ((f,kla_obj "<lambda>" q params body scope cl ((X.mg "__name__").getD .none) c' ctv)::vv) O H' s'->Q (.ref f) s') :
  RT (model X.prog X.w) X.A (eval (.Lambda params body scope lpos) X.env) Q X.xe s:=by
 subst hq;obtain⟨ps,hP,ht,hall⟩:=T;have hP':s.heap.get? P=some (tabObj ps):=I.hok P _ hP;have hg:s.heap.Ns RU X.mg:=I.mod.glob.keeps I.bk;obtain⟨bm,ob,b1,b2,b3,b4,b5,b6⟩:=BM;have hgP:RU≠P:=λq=>by obtain⟨o,es,ep,e,hd,_⟩:=hg;rw[q,hP']at e;cases e;cases hd
 have hbP:bm≠P:=λq=>by have e:=I.bk _ _ b3;rw[q,hP']at e;cases e;cases b4
 have hbG:bm≠RU:=λq=>by obtain⟨o,es,ep,e,hd,_⟩:=I.mod.glob;rw[q,e]at b3;cases b3;rw[hd]at b6;cases b6
 have hB:s.heap.BuiltinsAt X.mg P:=⟨bm,ob,b1,b2,hbG,hbP,I.bk _ _ b3,b4,b5,b6⟩;refine kla_eval hdef ?_;cases hf:codeAmong lpos ps.toList with
 | some cv =>
  obtain⟨c',rfl,hc'⟩:=hall _ _ hf;refine kla_makeFunctionHit hcl I.ok.glob hg hcode (C.keeps I.bk) hP' ht hf hB λctv h' tk hk hsz=>?_
  have I1:Inv X vv O H { s with heap:=h'.push (kla_obj "<lambda>" (X.env.qual ++ "<lambda>") params body scope cl ((X.mg "__name__").getD .none) c' ctv),toks:=tk }:=I.kept λb o e=>LZ _ (hk b o e)
  exact h _ c' ctv H _ (.inl rfl) ⟨ps,hP,ht,hall⟩ hc' (I1.pinFresh I (Mp _ rfl) hsz (I.hok.fresh hsz) (λv e=>nomatch e))
 | none =>
  refine kla_makeFunction hcl I.ok.glob hg hcode (C.keeps I.bk) hP' ht hf hgP hB λc' ctv h' tk hx hge hlt hrec htb=>?_
  have hcP:c'≠P:=λe=>absurd (Mx (Mm hP') hge) (by rw[e];exact Nv _)
  have hcn:H c'=none:=I.hok.fresh hge;have hk:∀b o,b≠P->s.heap.get? b=some o->(h'.push (kla_obj "<lambda>" (X.env.qual ++ "<lambda>") params body scope cl ((X.mg "__name__").getD .none) c' ctv)).get? b=some o:=λb o hb e=>LZ _ (hx b o hb e)
  have hrec':=hrec.push (kla_obj "<lambda>" (X.env.qual ++ "<lambda>") params body scope cl ((X.mg "__name__").getD .none) c' ctv);have htb':=LZ (kla_obj "<lambda>" (X.env.qual ++ "<lambda>") params body scope cl ((X.mg "__name__").getD .none) c' ctv) htb;have hsz:s.heap.objs.size<=h'.objs.size:=MK hge (Ov hlt);generalize hH':upd (upd H P (.tbl (ps ++ #[rawInt lpos.line,rawInt lpos.col,.ref c']))) c' (cdO c' (X.env.qual ++ "<lambda>"))=H';have a1:H' c'=some (cdO c' (X.env.qual ++ "<lambda>")):=by rw[<-hH'];exact k8
  have a2:H' P=some (.tbl (ps ++ #[rawInt lpos.line,rawInt lpos.col,.ref c'])):=by rw[<-hH',i3 hcP.symm];exact k8
  have a3:∀b,b≠c'->b≠P->H' b=H b:=λb h1 h2=>by rw[<-hH',i3 h1,i3 h2]
  have ne:∀b o,H b=some o->b≠c':=λb o e z=>by rw[z,hcn]at e;cases e
  generalize hh2:h'.push (kla_obj "<lambda>" (X.env.qual ++ "<lambda>") params body scope cl ((X.mg "__name__").getD .none) c' ctv)=h2 at hk hrec' htb';have un:Un X.fs [] H H' s.heap h2:=by
   refine⟨λb o e n _ _=>hk b o (λz=>by rw[z,hP]at n;cases n) e,λb o e n _ _=>⟨o.slots,hk b o (λz=>by rw[z,hP]at n;cases n) e⟩,λb o e n _=>?_,λb o e _=>?_,λb xs e=>?_,λb o u e=>?_,λb qs e=>?_⟩
   .rw[a3 b (λz=>absurd (Mx (Mm e) hge) (by rw[z];exact Nv _)) λz=>by rw[z,hP]at n;cases n];exact n
   .by_cases hb:b=P
    .exact⟨_,by rw[hb];exact htb'⟩
    .exact⟨o,hk b o hb e⟩
   .rw[a3 b (ne b _ e) λz=>by rw[z,hP]at e;cases e];exact e
   .rw[a3 b (ne b _ e) λz=>by rw[z,hP]at e;cases e];exact e
   .by_cases hb:b=P
    .subst hb;rw[hP]at e;cases e;exact⟨_,a2⟩
    .exact⟨#[],by rw[a3 b (ne b _ e) hb,e];simp⟩
  have ok:HOk X.prog X.w H' h2:=by
   intro b u e;by_cases hb:b=c'
   .subst hb;rw[a1]at e;cases e;obtain⟨c2,o,vs,t,e2,g,r⟩:=id hrec';cases e2;exact⟨hrec',⟨o,g⟩,wB⟩
   .by_cases hbP':b=P
    .subst hbP';rw[a2]at e;cases e;exact htb'
    .rw[a3 b hb hbP']at e;refine(I.hok b u e).stay (λb2 u2 hc q=>hk b2 u2 ?_ q) (λb2 q=>?_) λb2 xs q=>?_
     .rcases hc with z | z
      .rw[z];exact hbP'
      .intro z2;rw[z2,hP]at z;cases z
     .rw[a3 b2 (ne b2 _ q) λz=>by rw[z,hP]at q;cases q];exact q
     .rw[a3 b2 (ne b2 _ q) λz=>by rw[z,hP]at q;cases q];exact q
  have I1:Inv X vv O H' { s with heap:=h2,toks:=tk }:=I.un un ok;have hfn:H' h'.objs.size=none:=by rw[a3 _ (Pl hlt) λz=>absurd (Mx (Mm hP') hsz) (by rw[z];exact Nv _)];exact I.hok.fresh hsz
  refine h _ c' ctv H' _ (.inr ⟨ps,_,c',hP,hcn,hcP,hH'.symm⟩) ⟨_,a2,?_,λpos cv e=>?_⟩ a1 (I1.pinFresh I (by rw[<-hh2];exact Mp _ rfl) hsz hfn (λv e=>nomatch e))
  .rw[Array.toList_append];exact TriplesOk_snoc _ _ _ _ ht
  .rw[Array.toList_append]at e;rcases oU _ ht e with e | e
   .obtain⟨c2,r1,r2⟩:=hall _ _ e;refine⟨c2,r1,?_⟩;by_cases hb:c2=c'
    .subst hb;exact a1
    .rw[a3 c2 hb λz=>by rw[z,hP]at r2;cases r2];exact r2
   .exact⟨c',e,a1⟩
end
end
section
def cxL (X:Cx)(N:List Str)(q:Str)(scope:RI)(cl:List (Str×RD))(f c:RD)(Y:RH)(s₀:RE)(H₀:Hp):Cx where
 prog:=X.prog
 w:=X.w
 K:=X.K
 mg:=X.mg
 base:=X.base
 A:=Y.deeper (envX q scope s₀.heap.objs.size f (.ref c) cl)
 N:=N
 s₀:=s₀
 H₀:=H₀
 env:=envX q scope s₀.heap.objs.size f (.ref c) cl
 outer:=X.stack
 stack:=envX q scope s₀.heap.objs.size f (.ref c) cl::X.stack
 ex:=[]
 fn:=λ_=>false
 calm:=true
 pn:=[]
 xe:=λ_ _=>False
structure LamOk (ON:List Str) (osc:RI) (x:Str) (N:List Str) (cap:List Nat) (scope:RI):Prop where
 kind:scope.kind = .function
 co:scope.isCoroutine=false
 gen:scope.isGenerator=false
 nocell:∀y∈scope.names,y.2 ≠ .cell
 par:scope.names.lookup x=some .local
 first:N.head? = some x
 free:∀y∈scope.names,y.2 = .free->osc.names.lookup y.1=some .cell\/osc.names.lookup y.1=some .free
 len:N.length=1+cap.length
 capx:(cap.map λj=>ON[j]?)=(N.drop 1).map some
 capf:∀y∈N.drop 1,scope.names.lookup y=some .free
def bT (v:V)(cap:List Nat)(O:St):St:=some v::cap.map λj=>(O[j]?).join
section
variable {X:Cx}{O:St}{H:Hp}{s:RE}
def wW {Y:RH}{E:RC->RE->Prop}{body:RL}{scope osc:RI}{f c:RD}{q x:Str}{cl:List (Str×RD)}{pm ctv:RC}{N:List Str}{cap:List Nat}{te:TE}{v:V}{u:RC}{R:VK}
  (I:Inv X vv O H s) (hY:Y.frames=some X.stack) (hd:Y.handled=none) (hdp:Y.depth<recursionLimit)
  (hf:(f,kla_obj "<lambda>" q params body scope cl pm c ctv)∈X.pn++vv) (hc:H c=some (cdO c q)) (hosc:X.env.scope=osc) (L:LamOk X.N osc x N cap scope)
  (hcl:∀{x:Str} {c:RD},cl.lookup x=some c->X.env.cells.lookup x=some c) (hhas:∀x,(x,Sd.free)∈scope.names->∃c,cl.lookup x=some c)
  (hbind:bindArgs (kla_fn "<lambda>" q params body scope cl pm (.ref c) ctv) ⟨[u],[]⟩=pure [(x,u)])
  (he:∀s H,PE (cxL X N q scope cl f c Y s H) body te) (ru:u4 v u) (h:te (bT v cap O) H R) :
  RT (model X.prog X.w) Y (call (.ref f) [u]) (EP X vv O R) E s:=by
 obtain⟨p1,p2,p3,p4,p5⟩:=I.pin _ hf;obtain⟨hrec,_,_⟩:=I.hok c _ hc;refine wpAny_call (kla_callFunE hdp p1 rfl L.co L.gen rfl hrec ?_);rw[hbind];refine LY (wpAny_newFunctionEnv L.nocell (λy hy=>?_) (λh₁ hns hsb=>⟨I.nolimit.fresh _ hsb,?_⟩) L.kind)
 .have e:y=(x,u):=by simpa using hy
  rw[e];exact L.par
 show codeAny _ _ (.expr body (envX q scope s.heap.objs.size f (.ref c) cl)) _ _;have old:∀b o,s.heap.get? b=some o->h₁.get? b=some o:=λb o e=>hsb.extBut b o (MC (Mm e)) (LZ _ e)
 have noA:∀b:RD,b ∉ (cxL X N q scope cl f c Y s H).ex:=λb z=>absurd (show b∈([]:List RD) from z) (by simp)
 have IY:Inv (cxL X N q scope cl f c Y s H) [] (bT v cap O) H { s with heap:=h₁,toks:=s.toks+[(x,u)].length }:=by
  refine⟨⟨I.ok.mod,L.kind,rfl,rfl,Mh _,λx y c h1 h2=>I.ok.inj x y c (hcl h1) (hcl h2),λy hy=>?_,λx c h=>absurd (show false=true from h) Mz,λ_=>hd,RH.frames_deeper hY,.inr ⟨rfl,rfl⟩,
   λb z=>absurd z (noA b),I.bs,MK I.ok.bsz I.sz,λb _ _=>noA b,λb z=>absurd z (noA b),I.stack,I.stkFree⟩,
   rfl,I.bare,Un.kept old,⟨_,hns,λi y w e1 e2 e3=>?_⟩,λy c' e=>?_,I.hok.fresh (Mh _),λy c' e=>I.freeC y c' (hcl e),λp hp=>absurd (show p∈([]:List (RD×RP)) from hp) (by simp),I.hok.kept old,?_⟩
  .have hy:scope.names.lookup y=some .cell\/scope.names.lookup y=some .free:=hy;rcases hy with hy | hy
   .exact absurd rfl (L.nocell _ (Na hy))
   .exact hhas y (Na hy)
  .cases i with
   | zero =>
    have e2':some (some v)=some (some w):=e2
    cases e2'
    have ex:y=x:=by have z:=L.first;have e1':N[0]? = some y:=e1;rw[List.head?_eq_getElem?,e1']at z;exact Mg z
    subst ex
    exact⟨u,ru,.inl ⟨L.par,by simp⟩⟩
   | succ d =>
    have e2':(cap.map λj=>(O[j]?).join)[d]? = some (some w):=e2
    rw[Mt]at e2'
    obtain⟨j,hj,hv⟩:=Ms.1 e2'
    have hσ:O[j]? = some (some w):=by
     cases r:O[j]? with
     | none=>rw[r]at hv;cases hv
     | some o=>rw[r]at hv;exact Nn some hv
    have e1':(N.drop 1)[d]? = some y:=by rw[List.getElem?_drop,Nat.add_comm];exact e1
    have hx:X.N[j]? = some y:=by have z:=Nn (λl=>l[d]?) L.capx;simp only[Mt,hj,e1',QM]at z;exact Mg z
    have hfr:=L.capf y (MU e1')
    have hfm:=Na hfr
    have hok:=L.free _ hfm rfl
    rw[<-hosc]at hok
    obtain⟨m,hn,hl⟩:=I.loc
    obtain⟨u',r,l⟩:=hl j y w hx hσ (.inr hok)
    refine⟨u',r,?_⟩
    rcases l with ⟨hk,_⟩ | ⟨hk,c1,hc1,hc2⟩
    .have hk:X.env.scope.names.lookup y=some .local:=hk
     rcases hok with z | z <;> (rw[hk]at z;cases z)
    .obtain⟨c',hc'⟩:=hhas y hfm
     have:c'=c1:=Mg ((hcl hc').symm.trans hc1)
     subst this
     exact .inr ⟨.inr hfr,c',hc',hc2.keeps old⟩
  .obtain⟨w,z⟩:=I.cell y c' (hcl e);exact⟨w,z.keeps old⟩
  .show(bT v cap O).length=N.length;unfold bT;rw[Mf,LX,L.len,Nat.add_comm]
 refine kla_codeExpr (MR (he s H [] _ _ _ _ IY h) (λuv s' hs=>?_) λe s' hs=>hs.elim);obtain⟨w,H',J,rw',qw⟩:=hs;exact⟨w,H',I.call' (ch:=[]) J.os J.base J.hok J.bare (λb hb=>nomatch hb),rw',qw⟩
end
end
variable {its vs:List RC}{ks:List V}{keys:Array RC}
section
def gG:V->Int
 | .int i=>i
 | .bl b=>if b then 1 else 0
 | _=>0
def fg (ks:List V):Prop:=(∀k∈ks,∃i,k=V.int i)\/∀k∈ks,∃b,k=V.bl b
def T9 (ks:List V)(i:Nat):Int:=gG (ks.getD i .non)
def dq (ks xs ys:List V):Prop:=ys.length=xs.length/\∃p,SoS (T9 ks) p xs.length/\∀i,i<xs.length->ys[i]? = xs[p i]?
theorem Y0:∀{vs:List RC},(∀v∈vs,∃b,v = .bool b)->vs.mapM firstOfTuple'=pure (vs.map λ_=>none)
 | [],_=>by simp
 | v::vs,h=>by obtain⟨b,rfl⟩:=h v Me;rw[Ob,show firstOfTuple' (.bool b)=pure none from rfl,Y0 λw hw=>h w (Mc _ hw)];simp
theorem U7:∀{vs:List RC},(∀v∈vs,∃b,v = .bool b)->vs.mapM typeOf=pure (vs.map λ_=>RC.type "bool")
 | [],_=>by simp
 | v::vs,h=>by obtain⟨b,rfl⟩:=h v Me;rw[Ob,U7 λw hw=>h w (Mc _ hw)];show(pure (RC.type "bool") >>= λb=>pure _ >>= λbs=>pure (b::bs))=_;simp
def iu {v₁ v₂:RC}(hI:∀v∈(v₁::v₂::vs),∃b,v = .bool b):keyKind' (v₁::v₂::vs).toArray=pure oneType':=by
 rw[keyKind'_eq,Pk,Y0 hI];simp only[map_pure,pure_bind];rw[Md (by simp),Md (by simp)];rw[oneTypeOnly'_eq,Pk,U7 hI];simp only[map_pure,pure_bind];have hall:((List.map (λ_=>RC.type "bool") (v₁::v₂::vs)).toArray.all λx=>x == RC.type "bool")=true:=by simp only[Rt,List.all_map,Pr];intro _ _;rfl
 have h0:(List.map (λ_=>RC.type "bool") (v₁::v₂::vs)).toArray[0]? = some (RC.type "bool"):=by simp
 rw[h0];simp only[hall,Nk,pure_bind,OK]
theorem cT:∀{ks:List V} {us:List RC},p8 ks us->(∀k∈ks,∃i,k=V.int i)->IntsAre us (ks.map gG)
 | _,_,.nil,_=>.nil
 | k::ks,u::us,.cons r t,h=>by obtain⟨i,rfl⟩:=h k Me;obtain⟨t',rfl⟩:=r;exact .cons i t' (cT t λk hk=>h k (Mc _ hk))
theorem gU:∀{ks:List V} {us:List RC},p8 ks us->(∀k∈ks,∃b,k=V.bl b)->∀u∈us,∃b,u = .bool b
 | _,_,.nil,_,u,hu=>by simp at hu
 | k::ks,u::us,.cons r t,h,w,hw=>by
  rcases Mi.1 hw with rfl | hw
  .obtain⟨b,rfl⟩:=h k Me;exact⟨b,r⟩
  .exact gU t (λk hk=>h k (Mc _ hk)) w hw
def zu (r:p8 ks keys.toList)(h:fg ks)(h2:2<=keys.size):keyKind' keys=pure oneType':=by
 obtain⟨v₁,v₂,rest,e⟩:∃v₁ v₂ rest,keys.toList=v₁::v₂::rest:=by
  have hl:2<=keys.toList.length:=by rw[MZ];exact h2
  cases q:keys.toList with
  | nil=>rw[q]at hl;simp at hl
  | cons v₁ r =>
   cases r with
   | nil=>rw[q]at hl;simp at hl
   | cons v₂ rest=>exact⟨v₁,v₂,rest,rfl⟩
 have ek:keys=(v₁::v₂::rest).toArray:=by rw[<-e,Array.toArray_toList]
 rw[e]at r;rw[ek];rcases h with h | h
 .exact keyKind_ints (cT r h)
 .exact iu (gU r h)
def Cy {prog:RF}{w:RG}{A:RH}{s:RE}(r:p8 ks keys.toList)(h:fg ks):gK prog w A s oneType' (keys.zip its.toArray) (T9 ks):=by
 have one:∀(i:Nat) (x:Sb),(keys.zip its.toArray)[i]? = some x->∃k,ks[i]? = some k/\u4 k x.1:=λi x e=>by
  rw[<-Nc,ksk_zip,NX]at e;cases q:ks[i]? with
  | none =>rw[r.none_of q]at e;exact absurd e.1 (by simp)
  | some k =>obtain⟨u,h1,h2⟩:=r.get q;rw[h1]at e;exact⟨k,rfl,by rw[<-Mg e.1];exact h2⟩
 intro i j x y _ ex ey E Q hq;rw[keyLt'_oneType];obtain⟨k1,a1,r1⟩:=one i x ex;obtain⟨k2,a2,r2⟩:=one j y ey;have n1:T9 ks i=gG k1:=by unfold T9;rw[MG,a1];rfl
 have n2:T9 ks j=gG k2:=by unfold T9;rw[MG,a2];rfl
 rw[n1,n2]at hq;obtain⟨x1,x2⟩:=x;obtain⟨y1,y2⟩:=y;rcases h with h | h
 .obtain⟨m,rfl⟩:=h k1 (MU a1);obtain⟨n,rfl⟩:=h k2 (MU a2);obtain⟨t,e⟩:=r1;obtain⟨t',e'⟩:=r2;dsimp only at e e';subst e;subst e';exact oneLt_int hq
 .obtain⟨m,rfl⟩:=h k1 (MU a1);obtain⟨n,rfl⟩:=h k2 (MU a2);have e:x1 = .bool m:=r1;have e':y1 = .bool n:=r2;subst e;subst e';exact pD hq
section
variable {X:Cx}{O:St}{H:Hp}{s:RE}
def New (X:Cx)(vv:List (RD×RP))(b:RD):Prop:=X.s₀.heap.objs.size<=b/\b≠X.env.locals/\(∀x c,X.env.cells.lookup x=some c->c≠b)/\(∀p∈X.pn++vv,p.1≠b)/\b ∉ X.fs
def Inv.new {b:RD}(I:Inv X vv O H s)(h:s.heap.objs.size<=b):New X vv b:=by
 have ne:∀{c:RD} {o:RP},s.heap.get? c=some o->c≠b:=λe z=>absurd (Mx (Mm e) h) (by rw[z];exact Nv _)
 refine⟨MK I.sz h,λz=>absurd (Mx I.lt h) (by rw[z];exact Nv _),λx c e=>?_,λp hp=>ne (I.pin p hp).1,I.nofs h⟩;obtain⟨v,o,ho,_⟩:=I.cell x c e;exact ne ho
def Inv.turn1 {b:RD}{h':RM}{t':Nat}(I:Inv X vv O H s)(hb:New X vv b)(hn:H b=none)(k:∀c o,c≠b->s.heap.get? c=some o->h'.get? c=some o):Inv X vv O H { s with heap:=h',toks:=t' } :=
 I.turned k hn hb.2.1 (.inr hb.1) hb.2.2.1 hb.2.2.2.1
def Inv.relay {a k:RD}{ys:List V}{us:List RC}{n:Nat}{h':RM}{t':Nat}(I:Inv X vv O H s)(ha:New X vv a)(hk:New X vv k)(Ha:H a=none)(Hk:H k=none)
  (hs:∀c o,c≠a->c≠k->s.heap.get? c=some o->h'.get? c=some o) (hth:∃o,h'.get? k=some o) (hz:ys.length<=RN) (r:p8 ys us) (ho:h'.get? a=some { cls:=.type "list",data:=.seq us.toArray n }) :
  Inv X vv O (upd H a (.lst ys)) { s with heap:=h',toks:=t' }:=by
 have nin:∀{b:RD},b ∉ [a,k]->b≠a/\b≠k:=λhb=>⟨λz=>hb (by simp[z]),λz=>hb (by simp[z])⟩
 have nu:∀{b:RD} {u:HO},H b=some u->b≠a/\b≠k:=λe=>⟨λz=>(by rw[z,Ha]at e;cases e),λz=>(by rw[z,Hk]at e;cases e)⟩
 refine I.step (g':=s.gens) (d':=s.drawn) (ch:=[a,k]) (λb hb=>?_) (λb o _ _ hc e _=>hs b o (nin hc).1 (nin hc).2 e) (λb o _ _ hc e _=>⟨o.slots,hs b o (nin hc).1 (nin hc).2 e⟩) (λb o hc _ n=>by rw[i3 (nin hc).1];exact n)
  (λb o hc e=>⟨o,hs b o (nin hc).1 (nin hc).2 e⟩) (λb xs e=>by rw[i3 (nu e).1];exact e) (λb o u e=>by rw[i3 (nu e).1];exact e) (λb ps e=>⟨#[],by rw[i3 (nu e).1,e];simp⟩) (λm hm=>?_) (λb u e=>?_) I.bare
 .have hb':b=a\/b=k:=by simpa using hb
  rcases hb' with rfl | rfl
  .exact⟨.inr ha.1,ha.2.1,ha.2.2.1,ha.2.2.2.1⟩
  .exact⟨.inr hk.1,hk.2.1,hk.2.2.1,hk.2.2.2.1⟩
 .obtain⟨o,es,ep,ho',r'⟩:=hm;exact⟨o,es,ep,hs _ o ha.2.1.symm hk.2.1.symm ho',r'⟩
 .by_cases hb:b=a
  .subst hb;rw[k8]at e;cases e;exact⟨hz,us,n,r,ho⟩
  .rw[i3 hb]at e;refine(I.hok b u e).stay (λc v hc q=>?_) (λc q=>by rw[i3 (nu q).1];exact q) λc xs q=>by rw[i3 (nu q).1];exact q
   rcases hc with rfl | z
   .exact hs c v (nu e).1 (nu e).2 q
   .exact hs c v (nu z).1 (nu z).2 q
end
end
variable {J:Nat->Hp->Prop}
section
def atl {α:Type}(a:Array α):a.toList.length=a.size:=MZ
section
variable {X:Cx}{O:St}{H:Hp}{s:RE}{Y:RH}{E:RC->RE->Prop}{P:PySem.Fin->RE->Prop}{a kS:RD}{xs:List V}{e1:Nat}
def qP {e:Nat}{st:SortSt}{p:Nat->Nat}(I:Inv X ((kS,seqObj "list" keys e)::(a,seqObj "list" #[] e1)::vv) O H s)(ha:New X vv a)(hk:New X vv kS)(hka:kS≠a)
  (rx:p8 xs its) (hkl:keys.size<=64) (h64:its.length<64) (hfl:failedOf st=none) (hsz:(arrOf st).size=its.length) (hp:∀i,i<its.length->(arrOf st)[i]? = (keys.zip its.toArray)[p i]?) (hS:SoS (T9 ks) p its.length) (hke:keys.size=its.length)
  (h:∀s' ys,dq ks xs ys->Inv X vv O (upd H a (.lst ys)) s'->P (.done (.ret .none)) s') :
  RT (model X.prog X.w) Y (ksk_tail a false e1 (.ref kS) st) P E s:=by
 obtain⟨nk,Hk,_⟩:=I.pin (kS,seqObj "list" keys e) (Mu _ (.head _));obtain⟨na,Ha,_⟩:=I.pin (a,seqObj "list" #[] e1) (Mu _ (.tail _ (.head _)));have I0:Inv X vv O H s:=I.pins_of λp hp=>I.pin p (Mu _ (.tail _ (.tail _ hp)))
 have s1:=NJ s.heap kS (RP.mapSeq λ_=>(#[]:Array RC));have na1:(s.heap.update kS (RP.mapSeq λ_=>(#[]:Array RC))).get? a=some (seqObj "list" #[] e1):=(s1.2 a hka.symm).trans na;have s2:=NJ (s.heap.update kS (RP.mapSeq λ_=>(#[]:Array RC))) a (RP.mapSeq λ_=>(arrOf st).map (·.2));obtain⟨c2,hc2⟩:∃c2,((s.heap.update kS (RP.mapSeq λ_=>(#[]:Array RC))).update a (RP.mapSeq λ_=>(arrOf st).map (·.2))).get? a=some (seqObj "list" ((arrOf st).map (·.2)) c2) :=
  ⟨_,PF na1 λ_=>(arrOf st).map (·.2)⟩
 have hout:((arrOf st).map (·.2)).size=its.length:=by rw[QX];exact hsz
 unfold ksk_tail;try dsimp only
 refine LV (Pd nk rfl ?_ (by rw[MQ];omega) (Nj _));refine LV (wpAny_letGo ?_);refine LV (seqEpoch_at na1 rfl ?_);refine LV (Pd na1 rfl ?_ (Nj _) (by rw[Md Mz,hout,MQ];omega));rw[hfl];simp only[Rn,MT,Nf];have xl:xs.length=its.length:=rx.length;have outv:∀i,i<its.length->((arrOf st).map (·.2)).toList[i]? = its[p i]?:=λi hi=>by rw[Nc,Array.getElem?_map,hp i hi,<-Nc,ksk_zip];have hpi:=hS.2.2 i hi;have e1:its[p i]? = some (its[p i]):=Ml hpi;have e2:keys.toList[p i]? = some (keys.toList[p i]'(by rw[atl keys,hke];exact hpi)):=Ml _;rw[show(keys.toList.zip its)[p i]? = some (keys.toList[p i]'(by rw[atl keys,hke];exact hpi),its[p i]) from NX.2 ⟨e2,e1⟩,e1];rfl
 have ysl:((List.range its.length).map λi=>xs.getD (p i) .non).length=its.length:=by rw[LX,MB]
 have ysg:∀i,i<its.length->((List.range its.length).map λi=>xs.getD (p i) .non)[i]? = xs[p i]?:=λi hi=>by rw[Mt,OE hi];have hpi:=hS.2.2 i hi;show some (xs.getD (p i) .non)=_;rw[MG,Ml (by omega)];rfl
 refine LY (h _ ((List.range its.length).map λi=>xs.getD (p i) .non) ⟨by rw[ysl,xl],p,by rw[xl];exact hS,λi hi=>ysg i (by omega)⟩ (I0.relay (k:=kS) (n:=c2) ha hk Ha Hk (λc o h1 h2 e=>(s2.2 c h1).trans ((s1.2 c h2).trans e)) ?_ (by rw[ysl,MQ];omega)
  (us:=((arrOf st).map (·.2)).toList) ?_ (by rw[hc2])))
 .obtain⟨c3,hc3⟩:∃c3,(s.heap.update kS (RP.mapSeq λ_=>(#[]:Array RC))).get? kS=some (seqObj "list" #[] c3):=⟨_,PF nk λ_=>(#[]:Array RC)⟩;exact⟨_,(s2.2 kS hka).trans hc3⟩
 .refine P9 (by rw[ysl,atl ((arrOf st).map (·.2)),hout]) λi x u hx hu=>?_
  have hi:i<its.length:=by have:=(Mj.1 hx).1;rwa [ysl]at this
  rw[ysg i hi]at hx;rw[outv i hi]at hu;obtain⟨u',h1,h2⟩:=rx.get hx;rw[h1]at hu;rw[<-Mg hu];exact h2
def BI {e:Nat}(I:Inv X ((kS,seqObj "list" keys e)::(a,seqObj "list" #[] e1)::vv) O H s)(ha:New X vv a)(hk:New X vv kS)(hka:kS≠a)
  (rx:p8 xs its) (rk:p8 ks keys.toList) (hl:ks.length=xs.length) (hko:fg ks) (h64:its.length<64)
  (h:∀s' ys,dq ks xs ys->Inv X vv O (upd H a (.lst ys)) s'->P (.done (.ret .none)) s') :
  RT (model X.prog X.w) Y (ksk_end a false its.toArray e1 (.ref kS) keys) P E s:=by
 have xl:xs.length=its.length:=rx.length;have hke:keys.size=its.length:=by have:=rk.length;rw[atl keys]at this;omega
 have hzs:(keys.zip its.toArray).size=its.length:=by rw[Array.size_zip,hke,Mr,Nat.min_self]
 unfold ksk_end;simp only[MT,Nf];by_cases h2:its.toArray.size<2
 .rw[Mb h2,Mb h2];refine LV (LY ?_);rw[StateT.run_pure];refine LV (LY ?_);try dsimp only
  rw[Mr]at h2;refine qP (st:=SortSt.mk' general' (keys.zip its.toArray) #[] 7 none) (p:=id) I ha hk hka rx (by omega) h64 rfl hzs (λi _=>rfl) ⟨λi j h1 h3=>by omega,λi _=>rfl,λi hi=>hi⟩ hke h
 .rw[Md h2,Md h2];rw[Mr]at h2;rw[zu rk hko (by omega)];refine LV (LY ?_);refine LV (MR (pT (a0:=keys.zip its.toArray) (κ:=T9 ks) (st:=SortSt.mk' oneType' (keys.zip its.toArray) #[] 7 none)
   (Q:=λ_ st'=>failedOf st'=none/\(arrOf st').size=(keys.zip its.toArray).size/\∃p,(∀i,i<(keys.zip its.toArray).size->(arrOf st')[i]? = (keys.zip its.toArray)[p i]?)/\SoS (T9 ks) p (keys.zip its.toArray).size)
   (Cy rk hko) ⟨⟨rfl,rfl,rfl,rfl⟩,λi j _ _ e=>e,λi _=>rfl,λi hi=>hi⟩ (by rw[hzs];omega) (by rw[hzs];exact h64) λst' a1 a2 a3=>⟨a1,a2,a3⟩) ?_ λ_ _ e=>e)
  rintro ⟨⟨⟩,st'⟩ s' ⟨rfl,hf,hsz,p,hp,hS⟩;try dsimp only
  rw[hzs]at hsz hp hS;exact qP I ha hk hka rx (by omega) h64 hf hsz hp hS hke h
def yA {f:RD}(I:Inv X ((kS,seqObj "list" #[] 0)::(a,seqObj "list" #[] e1)::vv) O H s)(ha:New X vv a)(hk:New X vv kS)(hka:kS≠a)
  (rx:p8 xs its) (hl:ks.length=xs.length) (hko:fg ks) (h64:its.length<64) (j0:J 0 H)
  (turn:∀(i:Nat) (v:V) (u:RC) (pn:List (RD×RP)) (H':Hp) (s':RE),xs[i]? = some v->u4 v u->J i H'->Inv X (pn++vv) O H' s' ->
   RT (model X.prog X.w) Y (call (.ref f) [u]) (EP X (pn++vv) O λk H2=>ks[i]? = some k/\J (i+1) H2) (λ_ _=>False) s')
  (h:∀s' H' ys,J xs.length H'->H' a=none->dq ks xs ys->Inv X vv O (upd H' a (.lst ys)) s'->P (.done (.ret .none)) s') :
  RT (model X.prog X.w) Y (ksk_rest a (.ref f) false its.toArray e1 (.ref kS)) P E s:=by
 have xl:xs.length=its.length:=rx.length;have hk2:New X ((a,seqObj "list" #[] e1)::vv) kS:=⟨hk.1,hk.2.1,hk.2.2.1,λp hp=>by
  rcases NO.1 hp with z | z
  .exact hk.2.2.2.1 p (QH _ z)
  .rcases Mi.1 z with rfl | z
   .exact hka.symm
   .exact hk.2.2.2.1 p (Mu _ z),hk.2.2.2.2⟩
 unfold ksk_rest;refine LV (Oi ?_);first
  | rw[List.forIn_toArray]
  | (rw[<-PX];simp only[List.toList_toArray])
  | rw[<-PX]
 refine LV (ksk_fold (λi s'=>∃H' kA e,Inv X ((kS,seqObj "list" kA e)::(a,seqObj "list" #[] e1)::vv) O H' s'/\J i H'/\p8 (ks.take i) kA.toList) its 0 s ⟨H,#[],0,I,j0,by simpa using Paired.nil⟩ ?step ?done);case step =>
  rintro j x s' hx ⟨H',kA,e,I',hJ,hv⟩
  simp only[MM]at hJ hv ⊢
  have hj:j<its.length:=(Mj.1 hx).1
  obtain⟨v,hxv⟩:∃v,xs[j]? = some v:=⟨_,Ml (by omega)⟩
  obtain⟨u,hu,ru⟩:=rx.get hxv
  rw[hx]at hu
  cases hu
  have hz:kA.size<=its.length:=by have h1:=hv.length;rw[atl kA,MX]at h1;omega
  refine LV (PB (MR (turn j v x [(kS,seqObj "list" kA e),(a,seqObj "list" #[] e1)] H' s' hxv ru hJ I') (λkv s'' he=>?_) λ_ _ hF=>hF.elim))
  obtain⟨kk,H2,I2,rk,hkk,hJ2⟩:=he
  try dsimp only
  obtain⟨nk,Hk,_⟩:=I2.pin (kS,seqObj "list" kA e) (Mu _ (.head _))
  have I3:Inv X ((a,seqObj "list" #[] e1)::vv) O H2 s'':=I2.pins_of λp hp=>I2.pin p (Mu _ (.tail _ hp))
  have s1:=NJ s''.heap kS (RP.mapSeq (·.push kv))
  obtain⟨c2,hc2⟩:∃c2,(s''.heap.update kS (RP.mapSeq (·.push kv))).get? kS=some (seqObj "list" (kA.push kv) c2):=⟨_,PF nk (·.push kv)⟩
  refine LV (Pd nk rfl ?_ (by rw[MQ];omega) (MK (Nat.le_of_eq (Array.size_push ..)) (by rw[MQ];omega)))
  have I4:=I3.turn1 (h':=s''.heap.update kS (RP.mapSeq (·.push kv))) (t':=s''.toks) hk2 Hk λc o hc e=>(s1.2 c hc).trans e
  have ek:ks.take (j+1)=ks.take j++[kk]:=by rw[NU,hkk];simp
  have ea:(kA.push kv).toList=kA.toList++[kv]:=by simp
  exact LY ⟨rfl,H2,kA.push kv,c2,I4.pin1 hc2 Hk hk.2.1 hk.2.2.2.2 (λv e=>nomatch e),hJ2,by rw[ea,ek];exact hv.append (.cons rk .nil)⟩
 case done =>
  rintro s' ⟨H',kA,e,I',hJ,hv⟩
  have e3:ks.take (0+its.length)=ks:=NA (by omega)
  rw[e3]at hv
  rw[MM,<-xl]at hJ
  obtain⟨nk,Hk,_⟩:=I'.pin (kS,seqObj "list" kA e) (Mu _ (.head _))
  obtain⟨_,Ha,_⟩:=I'.pin (a,seqObj "list" #[] e1) (Mu _ (.tail _ (.head _)))
  try dsimp only
  refine LV (listItems_at nk rfl ?_)
  exact BI I' ha hk hka rx hv hl hko h64 λs2 ys o J2=>h s2 H' ys hJ Ha o J2
end
end
section
section
variable {X:Cx}{O:St}{H:Hp}{s:RE}{Y:RH}{E:RC->RE->Prop}{P:PySem.Fin->RE->Prop}{a:RD}{xs:List V}
def zd {f:RD}{n:Nat}(I:Inv X vv O H s)(ho:s.heap.get? a=some (seqObj "list" its.toArray n))(ha:New X vv a)(Ha:H a=none)
  (rx:p8 xs its) (hl:ks.length=xs.length) (hko:fg ks) (h64:its.length<64) (j0:J 0 H)
  (turn:∀(i:Nat) (v:V) (u:RC) (pn:List (RD×RP)) (H':Hp) (s':RE),xs[i]? = some v->u4 v u->J i H'->Inv X (pn++vv) O H' s' ->
   RT (model X.prog X.w) Y (call (.ref f) [u]) (EP X (pn++vv) O λk H2=>ks[i]? = some k/\J (i+1) H2) (λ_ _=>False) s')
  (h:∀s' H' ys,J xs.length H'->H' a=none->dq ks xs ys->Inv X vv O (upd H' a (.lst ys)) s'->P (.done (.ret .none)) s') :
  RT (model X.prog X.w) Y (ksk_tree a (.ref f) false) P E s:=by
 have hlt:a<s.heap.objs.size:=Mm ho;have s1:=NJ s.heap a (RP.mapSeq λ_=>(#[]:Array RC));obtain⟨e1,ho1⟩:∃e1,(s.heap.update a (RP.mapSeq λ_=>(#[]:Array RC))).get? a=some (seqObj "list" #[] e1):=⟨_,PF ho λ_=>#[]⟩;have hkS:((s.heap.update a (RP.mapSeq λ_=>(#[]:Array RC))).push (seqObj "tuple" its.toArray 0)).objs.size=s.heap.objs.size+1:=by rw[size_push',Pt]
 have hz:s.heap.objs.size<=((s.heap.update a (RP.mapSeq λ_=>(#[]:Array RC))).push (seqObj "tuple" its.toArray 0)).objs.size:=by rw[hkS];exact OI _
 unfold ksk_tree;refine LV (listItems_at ho rfl ?_);refine LV (Pd ho rfl ?_ (by rw[Mr,MQ];omega) (Nj _));refine LV (seqEpoch_at ho1 rfl ?_);refine LV (wpAny_newTuple ?_ (by show its.length<=_;rw[MQ];omega));refine LV (Ri ?_ (Nj _));refine Ol ?_;have I1:Inv X vv O H { s with heap:=((s.heap.update a (RP.mapSeq λ_=>(#[]:Array RC))).push (seqObj "tuple" its.toArray 0)).push (seqObj "list" #[] 0),toks:=s.toks } :=
  I.turn1 ha Ha λc o hc e=>LZ _ (LZ _ ((s1.2 c hc).trans e))
 have hk:=I.new hz;have Hk:=I.hok.fresh hz;have hka:((s.heap.update a (RP.mapSeq λ_=>(#[]:Array RC))).push (seqObj "tuple" its.toArray 0)).objs.size≠a:=by rw[hkS];exact Pl (Oe hlt)
 have I2:=I1.pin1 (a:=a) (o:=seqObj "list" #[] e1) (LZ _ (LZ _ ho1)) Ha ha.2.1 ha.2.2.2.2 (λv e=>nomatch e);have I3:=I2.pin1 (a:=((s.heap.update a (RP.mapSeq λ_=>(#[]:Array RC))).push (seqObj "tuple" its.toArray 0)).objs.size) (o:=seqObj "list" #[] 0) (Mp _ rfl) Hk hk.2.1 hk.2.2.2.2 (λv e=>nomatch e);exact yA I3 ha hk hka rx hl hko h64 j0 turn h
def rR {l f:RD}{Q:RC->RE->Prop}(I:Inv X vv O H s)(hl':s.heap.IsList l its.toArray)
  (rx:p8 xs its) (hl:ks.length=xs.length) (hko:fg ks) (h64:its.length<64) (j0:J 0 H)
  (turn:∀(i:Nat) (v:V) (u:RC) (pn:List (RD×RP)) (H':Hp) (s':RE),xs[i]? = some v->u4 v u->J i H'->Inv X (pn++vv) O H' s' ->
   RT (model X.prog X.w) X.A.in1.in1 (call (.ref f) [u]) (EP X (pn++vv) O λk H2=>ks[i]? = some k/\J (i+1) H2) (λ_ _=>False) s')
  (h:∀a s' H' ys,J xs.length H'->H' a=none->dq ks xs ys->Inv X vv O (upd H' a (.lst ys)) s'->Q (.ref a) s') :
  RT (model X.prog X.w) X.A (call (.builtin "sorted") [.ref l] [(Str.ofString "key",.ref f)]) Q E s:=by
 refine call_function_entry_kw kind_sorted plain_sorted entry_sorted (ksk_s1 _ _) ?_;unfold Builtin.«sorted»;refine LV (m:=checkCount "sorted" 1 1 _) (LY ?_);refine LV (collect_list hl' ?_ (by rw[MQ];omega));refine LV (Ri ?_ (by rw[MQ];omega));have hsz:((s.heap.push (seqObj "list" #[] 0)).update s.heap.objs.size (RP.mapSeq (· ++ its.toArray))).objs.size=s.heap.objs.size+1:=by rw[Pt,size_push']
 have hoL:(((s.heap.push (seqObj "list" #[] 0)).update s.heap.objs.size (RP.mapSeq (· ++ its.toArray))).push (seqObj "list" its.toArray 0)).get? (s.heap.objs.size+1)=some (seqObj "list" its.toArray 0):=by rw[<-hsz];exact Mp _ rfl
 have keep:∀b o,s.heap.get? b=some o->(((s.heap.push (seqObj "list" #[] 0)).update s.heap.objs.size (RP.mapSeq (· ++ its.toArray))).push (seqObj "list" its.toArray 0)).get? b=some o:=λb o q=>by have hlt:b<s.heap.objs.size:=Mm q;rw[OS _ _ _ (by rw[hsz];exact MC (Oe hlt)),RM.get?_update_ne _ _ _ _ (MC hlt),OS _ _ _ (MC hlt)];exact q
 show RT _ _ _ _ _ { s with heap:=((s.heap.push (seqObj "list" #[] 0)).update s.heap.objs.size (RP.mapSeq (· ++ its.toArray))).push (seqObj "list" its.toArray 0) };rw[hsz];refine LV (Ol (wpAny_call_entry_kw slot_list_sort ⟨_,hoL,rfl⟩ entry_list_sort ?body (ksk_l1 _ _)));case body =>
  have ht':=ksk_t1 f (s.heap.objs.size+1)
  show RT (model X.prog X.w) X.A.in1.in1 (Builtin.«list.sort» ⟨[.ref (s.heap.objs.size+1)],[(Str.ofString "key",.ref f)]⟩) _ _ _
  rw[ht']
  have I1:Inv X vv O H { s with heap:=((s.heap.push (seqObj "list" #[] 0)).update s.heap.objs.size (RP.mapSeq (· ++ its.toArray))).push (seqObj "list" its.toArray 0),toks:=s.toks }:=I.kept keep
  refine zd I1 hoL (I.new (OI _)) (I.hok.fresh (OI _)) rx hl hko h64 j0 turn λs' H' ys hJ Ha o I'=>⟨_,rfl,?_⟩
  exact LY ⟨_,rfl,h _ s' H' ys hJ Ha o I'⟩
end
end
section
def tSK (K:Frag)(P:RD)(q:Str)(cap:List Nat)(ta:TA)(te:TE):TE:=λO H Q=>ta O H λvs H1=>∃l xs,vs=[.ref l]/\SqL K H1 l xs/\xs.length<64/\jd H1 P q /\
 ∀H2,Bv P q H1 H2->jd H2 P q->∀c,H2 c=some (cdO c q)->∃(J:Nat->Hp->Prop) (ks:List V),ks.length=xs.length/\fg ks/\SqL K H2 l xs/\J 0 H2/\(∀i H',J i H'->H' c=some (cdO c q)) /\
  (∀i v H',xs[i]? = some v->J i H'->te (bT v cap O) H' λk H3=>ks[i]? = some k/\J (i+1) H3) /\
  ∀a H' ys,J xs.length H'->H' a=none->dq ks xs ys->Q (.ref a) (upd H' a (.lst ys))
def yN {M:Model}{A:RH}{E:RC->RE->Prop}{s:RE}{env:RQ}{x:Str}{p pos:Pos}{args:List RL}{kws:List RS}{Q:RC->RE->Prop}
  (h:RT M A (eval (.Name x p) env) (λf s₁=>RT M A (callWith pos f [] (RR pos (RO args env)) (Se pos (Sf kws env))) Q E s₁) E s):RT M A (eval (.Call (.Name x p) args kws pos) env) Q E s:=by rw[show eval (.Call (.Name x p) args kws pos) env=(do callWith pos (<-eval (.Name x p) env) [] (RR pos (RO args env)) (Se pos (Sf kws env))) from rfl];exact LV h
def DH {X:Cx}{e:RL}{body:RL}{scope osc:RI}{p pos lpos kp:Pos}{c P:RD}{q x:Str}{N:List Str}{cap:List Nat}{ta:TA}{te:TE}{k:Nat}
  (hg:Gl X "sorted") (hm:X.mg "sorted" = none) (hr:Room k X.A) (hc:X.calm=true) (ha:PA X [e] ta) (hdef:defaultsOf params X.env=([],[])) (hosc:X.env.scope=osc) (L:LamOk X.N osc x N cap scope)
  (hcode:X.env.code = .ref c) (C:CodeHd X.base c P) (BM:BMd X.base X.mg) (hq:X.env.qual ++ "<lambda>" = q)
  (hbind:∀(cl:List (Str×RD)) (pm:RC) (c':RD) (ctv u:RC),bindArgs (kla_fn "<lambda>" q params body scope cl pm (.ref c') ctv) ⟨[u],[]⟩=pure [(x,u)])
  (he:∀cl f c' Y s H,PE (cxL X N q scope cl f c' Y s H) body te) (hs:RO [e] X.env=[(false,eval e X.env)]:=by rfl) :
  PE X (.Call (.Name "sorted" p) [e] [⟨some "key",.Lambda params body scope lpos,kp⟩] pos) (tSK X.K P q cap ta te):=by
 intro vv s O H Q I h;have hcell:∀y∈scope.names,y.2 = .free->∃c,X.env.cells.lookup y.1=some c:=λy hy hk=>I.ok.has y.1 (by show X.env.scope.names.lookup y.1=_\/X.env.scope.names.lookup y.1=_;rw[hosc];exact L.free y hy hk)
 walk_at "ka"
 generalize E9 f scope.names []=cl at hclos hcl hhas;refine yN (cy I hg hm (by decide +kernel:RX "sorted" = some (.builtin "sorted")) (callWith_kw (kws:=[⟨some "key",.Lambda params body scope lpos,kp⟩]) (thn (ha pos vv s O H _ I h) λus s1 ⟨vs,H1,I1,r1,q1⟩=>?_) (by rw[hs];rfl) (by rw[hs];rfl)));obtain⟨l,xs,e0,hq0,h64,hT,q2⟩:=q1;subst e0;obtain⟨u,rfl,ru⟩:=K0 r1;cases ru;refine kws_cons (tY I1 hdef hclos hcode C BM hT hq λf c' ctv H2 s2 gr hT2 hc2 I2=>kws_nil ?_);obtain⟨J,ks,hlk,hko,hq2,j0,jc,turn,fin⟩:=q2 H2 gr hT2 c' hc2;obtain⟨its,rv,pl,hz⟩:=I2.list hq2;have xl:xs.length=its.length:=rv.length;show RT (model X.prog X.w) X.A (call (.builtin "sorted") [.ref l] [(Str.ofString "key",.ref f)]) _ X.xe s2;refine rR I2 pl.isList rv hlk hko (by omega) j0 (λi v u pn H' s' hx r hJ I'=>?_) λa s' H' ys hJ Ha o I'=>?_
 .exact wW I' I.ok.frames (I.ok.hd hc) (by have:=hr.dp;show X.A.depth<_;omega) (Mu _ (Mu _ (.head _))) (jc i H' hJ) hosc L hcl hhas (hbind _ _ _ _ _) (λs H=>he _ _ _ _ s H) r (turn i v H' hx hJ)
 .exact⟨.ref a,_,I'.pins_of (λp hp=>I'.pin p (Mu _ (.tail _ hp))),rfl,fin a H' ys hJ Ha o⟩
end
variable {kd:SortKind}{κ:Nat->Int}
section
section
variable {prog:RF}{w:RG}{A:RH}{E:RC->RE->Prop}{s:RE}
def jN {a:RD}{n:Nat}{P:PySem.Fin->RE->Prop}(ho:s.heap.get? a=some (seqObj "list" vs.toArray n))(h64:vs.length<64)
  (hkind:2<=vs.length->∀(h':RM) (Q:SortKind->RE->Prop),(∀b o,b≠a->s.heap.get? b=some o->h'.get? b=some o)->Q kd { s with heap:=h' }->RT (model prog w) A (keyKind' vs.toArray) Q E { s with heap:=h' })
  (hlt:∀h':RM,(∀b o,b≠a->s.heap.get? b=some o->h'.get? b=some o)->gK prog w A { s with heap:=h' } kd (pairsOf vs) κ)
  (h:∀(out:Array RC) (p:Nat->Nat),out.size=vs.length->(∀i,i<vs.length->out.toList[i]? = vs[p i]?)->SoS κ p vs.length->P (.done (.ret .none)) { s with heap:=sortedHeap s.heap a vs out }) :
  RT (model prog w) A (Builtin.«list.sort» ⟨[.ref a],[]⟩) P E s:=by
 rw[list_sort_plain];have ha:a<s.heap.objs.size:=Mm ho;refine LV (listItems_at ho rfl ?_);refine LV (Pd ho rfl ?_ (by rw[Mr,MQ];omega) (Nj _));obtain⟨e1,ho1⟩:∃e1,(s.heap.update a (RP.mapSeq λ_=>#[])).get? a=some (seqObj "list" #[] e1):=⟨_,PF ho (λ_=>#[])⟩;refine LV (seqEpoch_at ho1 rfl ?_);refine LV (wpAny_newTuple ?_ (by show vs.length<=_;rw[MQ];omega));refine LV (Ri ?_ (Nj _));refine Ol ?_;have ho6:(((s.heap.update a (RP.mapSeq λ_=>#[])).push (seqObj "tuple" vs.toArray 0)).push (seqObj "list" #[] 0)).get? a=some (seqObj "list" #[] e1):=by rw[OS _ _ _ (by rw[size_push',Pt];exact MC (Oe ha)),OS _ _ _ (by rw[Pt];exact MC ha)];exact ho1
 have s1:=NJ s.heap a (RP.mapSeq λ_=>(#[]:Array RC));have kept:∀b o,b≠a->s.heap.get? b=some o->(((s.heap.update a (RP.mapSeq λ_=>#[])).push (seqObj "tuple" vs.toArray 0)).push (seqObj "list" #[] 0)).get? b=some o:=λb o hb e=>LZ _ (LZ _ ((s1.2 b hb).trans e))
 show RT (model prog w) A _ P E { s with heap:=((s.heap.update a (RP.mapSeq λ_=>#[])).push (seqObj "tuple" vs.toArray 0)).push (seqObj "list" #[] 0) };dsimp only;have hsz:vs.toArray.size=vs.length:=by simp
 have fin:∀(st':SortSt) (p:Nat->Nat),(arrOf st').size=vs.length->(∀i,i<vs.length->(arrOf st')[i]? = (pairsOf vs)[p i]?)->SoS κ p vs.length->P (.done (.ret .none)) { s with heap:=sortedHeap s.heap a vs ((arrOf st').map (·.2)) }:=by intro st' p hz hp hS;refine h _ p (by rw[QX];exact hz) (λi hi=>?_) hS;rw[Nc,Array.getElem?_map,hp i hi,<-Nc,pairsOf_toList];have hpi:=hS.2.2 i hi;have e1:vs[p i]? = some vs[p i]:=Ml hpi;rw[show(vs.zip vs)[p i]? = some (vs[p i],vs[p i]) from NX.2 ⟨e1,e1⟩,e1];rfl
 by_cases h2:vs.toArray.size<2
 .rw[Mb h2,Mb h2];refine LV (LY ?_);rw[StateT.run_pure];refine LV (LY ?_);dsimp only;refine LV (seqEpoch_at ho6 rfl ?_);refine LV (Pd ho6 rfl ?_ (hsz2:=by rw[QX];show(pairsOf vs).size<=_;rw[QO,MQ];omega));simp only[Rn,MT,Nf];rw[hsz]at h2;exact LY (fin (SortSt.mk' general' (vs.toArray.zip vs.toArray) #[] 7 none) id (QO vs) (λi _=>rfl) ⟨λi j h1 h3=>by omega,λi _=>rfl,λi hi=>hi⟩)
 .rw[Md h2,Md h2];rw[hsz]at h2;refine LV (hkind (by omega) _ _ kept ?_);refine LV (MR (pT (a0:=pairsOf vs) (κ:=κ) (kd:=kd) (st:=SortSt.mk' kd (vs.toArray.zip vs.toArray) #[] 7 none)
   (Q:=λ_ st'=>failedOf st'=none/\(arrOf st').size=(pairsOf vs).size/\∃p,(∀i,i<(pairsOf vs).size->(arrOf st')[i]? = (pairsOf vs)[p i]?)/\SoS κ p (pairsOf vs).size)
   (hlt _ kept) ⟨⟨rfl,rfl,rfl,rfl⟩,λi j _ _ e=>e,λi _=>rfl,λi hi=>hi⟩ (by rw[QO];omega) (by rw[QO];exact h64) λst' a1 a2 a3=>⟨a1,a2,a3⟩) ?_ λ_ _ e=>e)
  rintro ⟨⟨⟩,st'⟩ s' ⟨rfl,hf,hz,p,hp,hS⟩;rw[QO]at hz hp hS;dsimp only;refine LV (seqEpoch_at ho6 rfl ?_);refine LV (Pd ho6 rfl ?_ (hsz2:=by rw[QX,hz,MQ];omega));rw[hf];simp only[Rn,MT,Nf];exact LY (fin st' p hz hp hS)
def jg {l:RD}{Q:RC->RE->Prop}(hl:s.heap.IsList l vs.toArray)(h64:vs.length<64)
  (hkind:2<=vs.length->∀(h':RM) (Q:SortKind->RE->Prop),(∀b o,s.heap.get? b=some o->h'.get? b=some o)->Q kd { s with heap:=h' }->RT (model prog w) A.in1.in1 (keyKind' vs.toArray) Q E { s with heap:=h' })
  (hlt:∀h':RM,(∀b o,s.heap.get? b=some o->h'.get? b=some o)->gK prog w A.in1.in1 { s with heap:=h' } kd (pairsOf vs) κ)
  (h:∀(out:Array RC) (p:Nat->Nat),out.size=vs.length->(∀i,i<vs.length->out.toList[i]? = vs[p i]?)->SoS κ p vs.length->Q (.ref (s.heap.objs.size+1)) { s with heap:=sortedAll s.heap vs out }) :
  RT (model prog w) A (call (.builtin "sorted") [.ref l]) Q E s:=by
 refine Calls.call_function_entry kind_sorted plain_sorted entry_sorted (args_sorted1 _) ?_;unfold Builtin.«sorted»;refine LV (m:=checkCount "sorted" 1 1 _) (LY ?_);refine LV (collect_list hl ?_ (by rw[MQ];omega));refine LV (Ri ?_ (by rw[MQ];omega));have hsz:((s.heap.push (seqObj "list" #[] 0)).update s.heap.objs.size (RP.mapSeq (· ++ vs.toArray))).objs.size=s.heap.objs.size+1:=by rw[Pt,size_push']
 have hoL:(((s.heap.push (seqObj "list" #[] 0)).update s.heap.objs.size (RP.mapSeq (· ++ vs.toArray))).push (seqObj "list" vs.toArray 0)).get? (s.heap.objs.size+1)=some (seqObj "list" vs.toArray 0):=by rw[<-hsz];exact Mp _ rfl
 have keep:∀b o,s.heap.get? b=some o->(((s.heap.push (seqObj "list" #[] 0)).update s.heap.objs.size (RP.mapSeq (· ++ vs.toArray))).push (seqObj "list" vs.toArray 0)).get? b=some o/\b≠s.heap.objs.size+1:=λb o q=>by have hlt:b<s.heap.objs.size:=Mm q;refine⟨?_,MC (Oe hlt)⟩;rw[OS _ _ _ (by rw[hsz];exact MC (Oe hlt)),RM.get?_update_ne _ _ _ _ (MC hlt),OS _ _ _ (MC hlt)];exact q
 show RT _ _ _ _ _ { s with heap:=((s.heap.push (seqObj "list" #[] 0)).update s.heap.objs.size (RP.mapSeq (· ++ vs.toArray))).push (seqObj "list" vs.toArray 0) };rw[hsz];refine LV (Ol (Ng slot_list_sort ⟨_,hoL,rfl⟩ entry_list_sort (jN (s:={ s with heap:=((s.heap.push (seqObj "list" #[] 0)).update s.heap.objs.size (RP.mapSeq (· ++ vs.toArray))).push (seqObj "list" vs.toArray 0) }) hoL h64
  (λh2 h' Q hk hq=>hkind h2 h' Q (λb o e=>hk b o (keep b o e).2 (keep b o e).1) hq) (λh' hk=>hlt h' λb o e=>hk b o (keep b o e).2 (keep b o e).1) λout p a1 a2 a3=>⟨_,rfl,?_⟩) (args_list_sort _)))
 exact LY ⟨_,rfl,h out p a1 a2 a3⟩
end
def nr (K:Frag)(H:Hp):List Int->List V->Prop
 | [],xs=>xs=[]
 | n::ns,xs=>∃t r ys,xs = .ref t::ys/\SqT K H t (.int n::r)/\nr K H ns ys
theorem nr.len {K:Frag}{H:Hp}:∀{ns:List Int} {xs:List V},nr K H ns xs->xs.length=ns.length
 | [],_,h=>by cases h;rfl
 | n::ns,_,⟨t,r,ys,rfl,_,h⟩=>by simp[nr.len h]
theorem nr.get {K:Frag}{H:Hp}:∀{ns:List Int} {xs:List V} {i:Nat} {n:Int},nr K H ns xs->ns[i]? = some n->∃t r,xs[i]? = some (.ref t)/\SqT K H t (.int n::r)
 | [],_,_,_,_,e=>by simp at e
 | m::ns,_,0,n,⟨t,r,ys,rfl,h1,h⟩,e=>by
  simp at e;subst e;exact⟨t,r,rfl,h1⟩
 | m::ns,_,i+1,n,⟨t,r,ys,rfl,h1,h⟩,e=>by obtain⟨t',r',a,b⟩:=h.get (i:=i) (by simpa using e);exact⟨t',r',by simpa using a,b⟩
section
variable {X:Cx}{K:Fg}
def AH (K:Frag):List V->Hp->VK->Prop:=λxs H Q=>∃(a:RD) (zs:List V) (ns:List Int),xs=[.ref a]/\SqL K H a zs/\nr K H ns zs/\ns.Nodup/\ns.length<64 /\
 ∀(p:RD) (ys:List V),H p=none->dq (ns.map V.int) zs ys->Q (.ref p) (upd H p (.lst ys))
def ox (hK:X.K=K):A8 X (.builtin "sorted") (AH K):=by
 subst hK;intro vv s O H xs us Q I r h;obtain⟨a,zs,ns,rfl,hq,hT,hnd,h64,q⟩:=h;obtain⟨u,rfl,ru⟩:=K0 r;cases ru;obtain⟨its,rv,p,hz⟩:=I.list hq;have hl1:=hT.len;have hl2:its.length=zs.length:=rv.length.symm;have item:∀(i:Nat) (n:Int),ns[i]? = some n->∃(t:RD) (o:RP) (ys:Array RC) (k:Nat) (tk:Tok),its[i]? = some (.ref t)/\s.heap.get? t=some o/\o.cls = .type "tuple" /\ o.data = .seq ys k/\ys[0]? = some (.int n tk):=λi n e=>by
  obtain⟨t,r,e1,e2⟩:=hT.get e;obtain⟨u,e3,e4⟩:=rv.get e1;cases e4;obtain⟨ys,ry,⟨o,ho,hc,k,hd⟩,_⟩:=I.tuple e2;cases ry with
  | cons r1 r2 =>obtain⟨tk,rfl⟩:=r1;exact⟨t,o,_,k,tk,e3,ho,hc,hd,by simp⟩
 have tups:∀(h':RM),(∀b o,s.heap.get? b=some o->h'.get? b=some o)->∀(ms:List Int) (vs:List RC),ms.length=vs.length->(∀(i:Nat) (n:Int),ms[i]? = some n->∃(t:RD) (o:RP) (ys:Array RC) (k:Nat) (tk:Tok),vs[i]? = some (.ref t)/\s.heap.get? t=some o/\o.cls = .type "tuple" /\ o.data = .seq ys k/\ys[0]? = some (.int n tk)) ->
   ∃fs:List RC,KatTups h' vs fs/\fs.length=vs.length/\∀v∈fs,∃n t,v=RC.int n t:=by
  intro h' hk ms;induction ms with
  | nil =>intro vs hl _;rw[OA.1 hl.symm];exact⟨[],KatTups.nil,rfl,λv hv=>by simp at hv⟩
  | cons m ms ih =>
   intro vs hl hi;cases vs with
   | nil=>simp at hl
   | cons v vs =>
    obtain⟨t,o,ys,k,tk,e1,e2,e3,e4,e5⟩:=hi 0 m rfl;have e1:some v=some (RC.ref t):=e1;cases e1;obtain⟨fs,f1,f2,f3⟩:=ih vs (by simpa using hl) λi n e=>by obtain⟨t,o,ys,k,tk,g1,g⟩:=hi (i+1) n (by simpa using e);exact⟨t,o,ys,k,tk,by simpa using g1,g⟩
    refine⟨.int m tk::fs,KatTups.cons (hk _ _ e2) e3 e4 e5 f1,by simp[f2],λv hv=>?_⟩;rcases Mi.1 hv with rfl | hv
    .exact⟨m,tk,rfl⟩
    .exact f3 v hv
 refine jg (kd:=tuples' true) (κ:=T9 (ns.map V.int)) p.isList (by omega) (λh2 h' Q' hk hQ=>?_) (λh' hk=>?_) λout p' a1 a2 a3=>?_
 .obtain⟨fs,f1,f2,f3⟩:=tups h' hk ns its (by omega) item;refine kat_kind (T:=.type "int") (s:={ s with heap:=h' }) f1 (by omega) (λv hv=>?_) rfl hQ;obtain⟨n,t,rfl⟩:=f3 v hv;exact .now
 .intro i j x y hij ex ey E Q' hQ;rw[<-Nc,pairsOf_toList,NX]at ex ey;have hi:i<ns.length:=by have:=(Mj.1 ex.1).1;omega
  have hj:j<ns.length:=by have:=(Mj.1 ey.1).1;omega
  obtain⟨t1,o1,ys1,k1,tk1,b1,b2,b3,b4,b5⟩:=item i ns[i] (Ml hi);obtain⟨t2,o2,ys2,k2,tk2,c1,c2,c3,c4,c5⟩:=item j ns[j] (Ml hj);rw[b1]at ex;rw[c1]at ey;rw[<-Mg ex.1,<-Mg ey.1];have n1:T9 (ns.map V.int) i=ns[i]:=by unfold T9;rw[MG,Mt,Ml hi];rfl
  have n2:T9 (ns.map V.int) j=ns[j]:=by unfold T9;rw[MG,Mt,Ml hj];rfl
  rw[n1,n2]at hQ;have hne:ns[i]≠ns[j]:=λe=>hij ((Pp hnd).1 e)
  refine kat_lt (s:={ s with heap:=h' }) (hk _ _ b2) b4 (hk _ _ c2) c4 ?_;obtain⟨r1,er1⟩:∃r1,ys1.toList = .int ns[i] tk1::r1:=by
   cases e:ys1.toList with
   | nil=>rw[<-Nc,e]at b5;simp at b5
   | cons z r=>rw[<-Nc,e]at b5;simp at b5;exact⟨r,by rw[b5]⟩
  obtain⟨r2,er2⟩:∃r2,ys2.toList = .int ns[j] tk2::r2:=by
   cases e:ys2.toList with
   | nil=>rw[<-Nc,e]at c5;simp at c5
   | cons z r=>rw[<-Nc,e]at c5;simp at c5;exact⟨r,by rw[c5]⟩
  rw[er1,er2,Pf];refine kat_cons (wpAny_eqBool_int ?_);have hb:(ns[i] == ns[j])=false:=by simpa using hne
  rw[hb];refine kat_no ?_;exact oneLt_int hQ
 .have hlen:zs.length=its.length:=hl2.symm;obtain⟨e,he⟩:=sortedAll_at s.heap its out;have ysl:((List.range its.length).map λi=>zs.getD (p' i) .non).length=its.length:=by rw[LX,MB]
  walk_at "kd"
end
end
end L2
namespace L2
def V6 {α:Type}(p:Int × α):List (Int × α)->List (Int × α)
 | []=>[p]
 | q::r=>if p.1<=q.1 then p::q::r else q::V6 p r
def x6 {α:Type}:List (Int × α)->List (Int × α)
 | []=>[]
 | p::r=>V6 p (x6 r)
theorem lG {α β:Type}(f:α->β)(p:Int × α):∀l:List (Int × α),V6 (p.1,f p.2) (l.map λq=>(q.1,f q.2))=(V6 p l).map λq=>(q.1,f q.2)
 | []=>rfl
 | q::r=>by
  simp only[Ma,V6];split
  .rfl
  .rw[Ma,lG f p r]
theorem Y5 {α β:Type}(f:α->β):∀l:List (Int × α),x6 (l.map λq=>(q.1,f q.2))=(x6 l).map λq=>(q.1,f q.2)
 | []=>rfl
 | p::r=>by rw[Ma,x6,x6,Y5 f r];exact lG f p _
theorem W6 {α:Type}(p:Int × α):∀l:List (Int × α),(V6 p l).Perm (p::l)
 | []=>.refl _
 | q::r=>by
  rw[V6];split
  .exact .refl _
  .exact((W6 p r).cons q).trans (.swap p q r)
theorem A9 {α:Type}:∀l:List (Int × α),(x6 l).Perm l
 | []=>.refl _
 | p::r=>(W6 p _).trans ((A9 r).cons p)
def LxP (a b:Int×Nat):Prop:=a.1<b.1\/(a.1=b.1/\a.2<b.2)
theorem qo {p:Int×Nat}:∀{l:List (Int×Nat)},l.Pairwise LxP->(∀q∈l,p.2<q.2)->(V6 p l).Pairwise LxP
 | [],_,_=>by simp[V6]
 | q::r,h,hl=>by
  rw[MH]at h;rw[V6];split
  .rename_i hle;refine MH.2 ⟨λz hz=>?_,MH.2 h⟩;have h1:LxP p q:=by
    rcases PR hle with e | e
    .exact .inl e
    .exact .inr ⟨e,hl q Me⟩
   rcases Mi.1 hz with rfl | hz
   .exact h1
   .have h2:=h.1 z hz;unfold LxP at h1 h2 ⊢;omega
  .rename_i hgt;refine MH.2 ⟨λz hz=>?_,qo h.2 λz hz=>hl z (Mc _ hz)⟩;rcases Mi.1 ((W6 p r).mem_iff.mp hz) with rfl | hz
   .exact .inl (by omega)
   .exact h.1 z hz
theorem je:∀{l:List (Int×Nat)},l.Pairwise (λa b=>a.2<b.2)->(x6 l).Pairwise LxP
 | [],_=>.nil
 | p::r,h=>by rw[MH]at h;exact qo (je h.2) λq hq=>h.1 q ((A9 r).mem_iff.mp hq)
theorem iL:∀{l₁ l₂:List (Int×Nat)},l₁.Perm l₂->l₁.Pairwise LxP->l₂.Pairwise LxP->l₁=l₂
 | [],l₂,p,_,_=>p.nil_eq
 | a::r,[],p,_,_=>by have:=p.length_eq;simp at this
 | a::r,b::t,p,h1,h2=>by
  rw[MH]at h1 h2;have ab:a=b:=by
   rcases Mi.1 (p.mem_iff.1 (Me (a:=a) (l:=r))) with e | e
   .exact e
   .rcases Mi.1 (p.mem_iff.2 (Me (a:=b) (l:=t))) with e2 | e2
    .exact e2.symm
    .have q1:=h2.1 a e;have q2:=h1.1 b e2;unfold LxP at q1 q2;omega
  subst ab;rw[iL (p.cons_inv) h1.2 h2.2]
theorem ia:∀(n:Nat) (l:List Nat),l.Nodup->(∀x∈l,x<n)->l.length=n->l.Perm (List.range n)
 | 0,l,_,_,hl=>by rw[OA.1 hl];exact .refl _
 | n+1,l,hd,hb,hl=>by
  have short:∀(m:Nat) (l:List Nat),l.Nodup->(∀x∈l,x<m)->l.length<=m:=by
   intro m;induction m with
   | zero =>
    intro l _ hb;cases l with
    | nil=>simp
    | cons a r=>exact absurd (hb a Me) (by omega)
   | succ m ih =>
    intro l hd hb;by_cases hm:m∈l
    .have e:=ih (l.erase m) (hd.erase m) λx hx=>by
      have h1:=hb x (List.mem_of_mem_erase hx);have h2:x≠m:=λz=>by subst z;exact(List.Nodup.not_mem_erase hd) hx
      omega
     rw[List.length_erase_of_mem hm]at e;omega
    .have e:=ih l hd λx hx=>by
      have h1:=hb x hx;have h2:x≠m:=λz=>hm (z▸hx)
      omega
     omega
  have hn:n∈l:=by
   by_cases hm:n∈l
   .exact hm
   .have e:=short n l hd λx hx=>by
     have h1:=hb x hx;have h2:x≠n:=λz=>hm (z▸hx)
     omega
    omega
  have ih:=ia n (l.erase n) (hd.erase n) (λx hx=>by
   have h1:=hb x (List.mem_of_mem_erase hx);have h2:x≠n:=λz=>by subst z;exact(List.Nodup.not_mem_erase hd) hx
   omega) (by rw[List.length_erase_of_mem hn];omega)
  refine(List.perm_cons_erase hn).trans ((ih.cons n).trans ?_);rw[List.range_succ];exact(List.perm_append_singleton n (List.range n)).symm
def gQ {ks xs ys:List V}(h:dq ks xs ys)(hl:ks.length=xs.length):ys=(x6 ((ks.map gG).zip xs)).map Prod.snd:=by
 obtain⟨hy,p,hS,hp⟩:=h;generalize hn:xs.length=n at hy hS hp hl;have nd:((List.range n).map p).Nodup:=by
  rw[OQ,NI];intro i j hi hj hij;have hj':j<n:=by simpa using hj
  simp only[OF,PY];intro e;have q:=hS.1 i j hij hj';rw[e]at q;unfold Lx at q;omega
 have pr:=ia n ((List.range n).map p) nd (λx hx=>by obtain⟨i,hi,rfl⟩:=ML.1 hx;exact hS.2.2 i (MW.1 hi)) (by simp)
 have q1:(((List.range n).map p).map λi=>(T9 ks i,i)).Pairwise LxP:=by
  rw[NI];intro i j hi hj hij;have hj':j<n:=by simpa using hj
  simp only[OF,PY];exact hS.1 i j hij hj'
 have q2:(x6 ((List.range n).map λi=>(T9 ks i,i))).Pairwise LxP:=je (by rw[NI];intro i j hi hj hij;simpa using hij)
 have e:=iL ((pr.map λi=>(T9 ks i,i)).trans (A9 _).symm) q1 q2;have ez:(ks.map gG).zip xs=((List.range n).map λi=>(T9 ks i,i)).map λq=>(q.1,xs.getD q.2 .non):=by
  refine List.ext_getElem? λi=>?_
  rw[Mq];by_cases hi:i<n
  .have h1:(ks.map gG)[i]? = some (T9 ks i):=by rw[Mt];unfold T9;rw[MG,Ml (by omega)];rfl
   have h2:xs[i]? = some (xs.getD i .non):=by rw[MG,Ml (by omega)];rfl
   rw[show((ks.map gG).zip xs)[i]? = some (T9 ks i,xs.getD i .non) from NX.2 ⟨h1,h2⟩,Mt,OE hi];rfl
  .rw[Os (by rw[List.length_zip,LX];omega),Os (by simp;omega)]
 rw[ez,Y5 (λi=>xs.getD i .non),<-e,Mq,Mq,Mq];refine List.ext_getElem? λi=>?_
 by_cases hi:i<n
 .rw[hp i hi,Mt,OE hi];have hpi:=hS.2.2 i hi;show xs[p i]? = some (xs.getD (p i) .non);rw[MG,Ml (by omega)];rfl
 .rw[Os (by omega),Os (by simp;omega)]
end L2
namespace L3
open PySem
section
open Sem (wp)
structure SubKind (prog:RF) (w:RG) (K:Type) [DecidableEq K] extends HeapKind prog w K where
 deep:Nat
 quietN:∀{A:RH} {E:RC->RE->Prop} {s:RE} {k:K} {a:RD} {n:Nat} {Q:Bool->RE->Prop},deep<=n->is s.heap k a->Q true s->RT (model prog w) A (eqIsQuiet n (.ref a)) Q E s
section
variable {prog:RF}{w:RG}{K K2:Type}[DecidableEq K][DecidableEq K2](knd:KeyKind prog w K)(sub:SubKind prog w K2)(p:Nat->Bool)
inductive ItemsN (h:RM):Nat->List (K ⊕ K2)->List RC->Prop
 | nil {j:Nat}:ItemsN h j [] []
 | val {j:Nat} {k:K} {v:RC} {ks:List (K ⊕ K2)} {vs:List RC}:p j=false->knd.is k v=true->ItemsN h (j+1) ks vs->ItemsN h j (.inl k::ks) (v::vs)
 | ref {j:Nat} {k:K2} {a:RD} {ks:List (K ⊕ K2)} {vs:List RC}:p j=true->sub.is h k a->ItemsN h (j+1) ks vs->ItemsN h j (.inr k::ks) (.ref a::vs)
def L0 (h:RM)(ks:List (K ⊕ K2))(a:RD):Prop:=∃o items n,h.get? a=some o/\o.cls = .type "tuple" /\ o.data = .seq items n/\ItemsN knd sub p h 0 ks items.toList
variable {knd sub p}
def ItemsN.inj {h:RM}{j:Nat}{x y:List (K ⊕ K2)}{vs:List RC}(hx:ItemsN knd sub p h j x vs)(hy:ItemsN knd sub p h j y vs):x=y:=by
 induction hx generalizing y with
 | nil=>cases hy;rfl
 | val hp h1 _ ih =>
  cases hy with
  | val hp2 h2 t2=>rw[knd.inj _ _ _ h1 h2,ih t2]
  | ref hp2 h2 t2=>rw[hp]at hp2;cases hp2
 | ref hp h1 _ ih =>
  cases hy with
  | val hp2 h2 t2=>rw[hp]at hp2;cases hp2
  | ref hp2 h2 t2=>rw[sub.inj h1 h2,ih t2]
def L0.typeIs {s:RE}{ks:List (K ⊕ K2)}{a:RD}(x:L0 knd sub p s.heap ks a):s.TypeIs (.ref a) "tuple":=let ⟨o,_,_,ho,hc,_⟩:=x;⟨o,ho,hc⟩
def L0.inj {h:RM}{a:RD}{x y:List (K ⊕ K2)}(hx:L0 knd sub p h x a)(hy:L0 knd sub p h y a):x=y:=by
 obtain⟨o,items,n,ho,_,hd,hi⟩:=hx;obtain⟨o',items',n',ho',_,hd',hi'⟩:=hy;obtain rfl:o=o':=Mg (ho.symm.trans ho');rw[hd]at hd';injection hd' with h1 _
 subst h1;exact hi.inj hi'
def ItemsN.keeps {h h':RM}{d:RD}{o:RP}{es ep}{j:Nat}{ks:List (K ⊕ K2)}{vs:List RC}(x:ItemsN knd sub p h j ks vs)(ho:h.get? d=some o)(hd:o.data = .dict es ep)(hs:RM.SameBut d h h'):ItemsN knd sub p h' j ks vs:=by
 induction x with
 | nil=>exact .nil
 | val hp h1 _ ih=>exact .val hp h1 ih
 | ref hp h1 _ ih=>exact .ref hp (sub.keeps h1 ho hd hs) ih
def L0.keeps {h h':RM}{ks:List (K ⊕ K2)}{a d:RD}{o:RP}{es ep}(x:L0 knd sub p h ks a)(ho:h.get? d=some o)(hd:o.data = .dict es ep)(hs:RM.SameBut d h h'):L0 knd sub p h' ks a:=by
 obtain⟨o',items,n,ho',hc,hd',hi⟩:=x;have hne:a≠d:=by rintro rfl;obtain rfl:o'=o:=Mg (ho'.symm.trans ho);rw[hd]at hd';exact nomatch hd'
 exact⟨o',items,n,(hs.2 a hne).trans ho',hc,hd',hi.keeps ho hd hs⟩
def fj (knd:KeyKind prog w K)(sub:SubKind prog w K2):K ⊕ K2->Int
 | .inl k=>knd.hash k
 | .inr k=>sub.hash k
def gB (sub:SubKind prog w K2):K ⊕ K2->Nat
 | .inl _=>1
 | .inr k=>sub.draws k
def aE (knd:KeyKind prog w K)(sub:SubKind prog w K2)(ks:List (K ⊕ K2)):Int:=reduceHash (Builtin.Tuple.tupleHashOf (ks.map (fj knd sub)))
variable {A:RH}{E:RC->RE->Prop}{s:RE}
def lN {ks:List (K ⊕ K2)}{a:RD}{Q:Int->RE->Prop}(hu:A.units<Sa)(hr:sub.room A.in1)(hk:L0 knd sub p s.heap ks a)(h:Q (aE knd sub ks) { s with toks:=s.toks+((ks.map (gB sub)).sum+1) }) :
  RT (model prog w) A (PySem.pyHash (.ref a)) Q E s:=by
 have hT:=hk.typeIs;obtain⟨o,items,n,ho,_,hd,hi⟩:=hk;unfold PySem.pyHash;first | unfold pyHashByItsType | skip
 first | refine LV (wpAny_cRoomFor_or (.inr hu) ?_) | skip
 refine LV (Pe hT Qn.lookup ?_);show RT _ _ (if (some (RC.builtin "tuple.__hash__") == some RC.none)=true then _ else _) Q E s;rw[Md (by rw[beq_builtin_none];exact Mz)];refine LV (Pe hT Qn.lookup ?_);show RT _ _ (callSpecialIfBoundUnlessNone? (.ref a) "__hash__" _ >>= _) Q E s;refine LV (Pu hT Qn (Ng Qn hT F.entry_tuple_hash ?_ (F.args_tuple_hash_1 _)));show RT _ _ (Builtin.Tuple.tupleItemsOf (.ref a) >>= _) _ _ s;refine LV (Re ho hd ?_);refine LV ?_;rw[<-PX];refine Qz _
  (λrest (b:Array Int) s'=>∃done left,ks=done++left/\ItemsN knd sub p s.heap done.length left rest/\b.toList=done.map (fj knd sub)/\s'={ s with toks:=s.toks+(done.map (gB sub)).sum })
  _ ?_ ?_ _ _ ⟨[],ks,rfl,hi,rfl,rfl⟩
 .rintro x rest b s' ⟨done,left,rfl,hl,hb,rfl⟩;cases hl with
  | @val _ k _ ks' _ hp h1 hl' =>refine LV (knd.pyHash h1 ?_);exact LY ⟨done++[.inl k],ks',by simp,by simpa using hl',by simp[hb,fj],by simp[Rj,gB]⟩
  | @ref _ k a ks' _ hp h1 hl' =>refine LV (sub.pyHash hr h1 ?_);exact LY ⟨done++[.inr k],ks',by simp,by simpa using hl',by simp[hb,fj],by simp[Rj,gB]⟩
 .rintro b s' ⟨done,left,rfl,hl,hb,rfl⟩;cases hl;rw[NC]at h;show RT _ _ (retInt (Builtin.Tuple.tupleHashOf b.toList)) _ _ _;rw[hb];refine wpAny_ret_mkInt ?_;show RT _ _ (if (decide (-(2:Int) ^ 63<=Builtin.Tuple.tupleHashOf (done.map (fj knd sub)))&&decide (Builtin.Tuple.tupleHashOf (done.map (fj knd sub))<2 ^ 63))=true then _ else _) Q E _;unfold aE reduceHash at h;by_cases hr:(decide (-(2:Int) ^ 63<=Builtin.Tuple.tupleHashOf (done.map (fj knd sub)))&&decide (Builtin.Tuple.tupleHashOf (done.map (fj knd sub))<2 ^ 63))=true
  .rw[Mb hr];rw[Mb hr]at h;exact LY (by simpa [Rj] using h)
  .rw[Md hr];rw[Md hr]at h;exact LV (Oi (LY (by simpa [Rj] using h)))
def jx {x y:List (K ⊕ K2)}{a b:RD}{P:Fin->RE->Prop}(hr:sub.room A)(hx:L0 knd sub p s.heap x a)(hy:L0 knd sub p s.heap y b)(h:P (.done (.ret (.bool (decide (x=y))))) s) :
  RT (model prog w) A (Builtin.«tuple.__eq__» ⟨[.ref a,.ref b],[]⟩) P E s:=by
 have hTb:=hy.typeIs;obtain⟨oa,xs,na,hoa,_,hda,hia⟩:=hx;obtain⟨ob,ys,nb,hob,_,hdb,hib⟩:=hy;show RT _ _ (isInstance (.ref b) (.type "tuple") >>= _) _ _ s;refine LV (QA hTb isSubtype_tuple_tuple ?_);simp only[Pc,MT,Nf];refine LV (Re hoa hda ?_);refine LV (Re hob hdb ?_);refine LV ?_;refine Qz _
  (λrest r s'=>r.1=none/\s'=s/\∃j x' y' xs' ys',rest=List.zip xs' ys'/\ItemsN knd sub p s.heap j x' xs'/\ItemsN knd sub p s.heap j y' ys'/\decide (x'=y')=decide (x=y)/\(xs'.length == ys'.length)=(xs.size == ys.size))
  _ ?_ ?_ _ _ ⟨rfl,rfl,0,x,y,xs.toList,ys.toList,rfl,hia,hib,rfl,by simp⟩
 .rintro ⟨u,v⟩ rest r s' ⟨hr',rfl,j,x',y',xs',ys',hz,hx',hy',hdec,hlen⟩;cases hx' with
  | nil=>simp at hz
  | @val _ k1 u' x'' xs'' hp h1 hx'' =>
   cases hy' with
   | nil=>simp at hz
   | @ref _ k2 b' y'' ys'' hp2 h2 hy''=>rw[hp]at hp2;cases hp2
   | @val _ k2 v' y'' ys'' hp2 h2 hy'' =>
    simp only[Pf,List.cons.injEq,Prod.mk.injEq]at hz;obtain⟨⟨rfl,rfl⟩,rfl⟩:=hz;refine LV (knd.eqBool (a:=k1) (b:=k2) h1 h2 ?_);by_cases hk:k1=k2
    .subst hk;rw[Mv rfl];simp only[Pc,MT,Nf];refine LY ⟨rfl,rfl,j+1,x'',y'',xs'',ys'',rfl,hx'',hy'',?_,by simpa using hlen⟩;rw[<-hdec];by_cases hxy:x''=y''
     .simp[hxy]
     .simp[hxy]
    .rw[Mw hk];simp only[Bool.not_false,Nk];have hf:decide (x=y)=false:=by rw[<-hdec];simp[hk]
     rw[hf]at h;exact LV (LY (LY (LY h)))
  | @ref _ k1 a' x'' xs'' hp h1 hx'' =>
   cases hy' with
   | nil=>simp at hz
   | @val _ k2 v' y'' ys'' hp2 h2 hy''=>rw[hp]at hp2;cases hp2
   | @ref _ k2 b' y'' ys'' hp2 h2 hy'' =>
    simp only[Pf,List.cons.injEq,Prod.mk.injEq]at hz;obtain⟨⟨rfl,rfl⟩,rfl⟩:=hz;refine LV (sub.eqBool (x:=k1) (y:=k2) hr h1 h2 ?_);by_cases hk:k1=k2
    .subst hk;rw[Mv rfl];simp only[Pc,MT,Nf];refine LY ⟨rfl,rfl,j+1,x'',y'',xs'',ys'',rfl,hx'',hy'',?_,by simpa using hlen⟩;rw[<-hdec];by_cases hxy:x''=y''
     .simp[hxy]
     .simp[hxy]
    .rw[Mw hk];simp only[Bool.not_false,Nk];have hf:decide (x=y)=false:=by rw[<-hdec];simp[hk]
     rw[hf]at h;exact LV (LY (LY (LY h)))
 .rintro ⟨r1,r2⟩ s' ⟨hr',rfl,j,x',y',xs',ys',hz,hx',hy',hdec,hlen⟩;simp only at hr';subst hr';refine LY ?_;have hfin:(xs.size == ys.size)=decide (x=y):=by
   rw[<-hdec,<-hlen];cases hx' with
   | nil =>
    cases hy' with
    | nil=>simp
    | val _ _ _=>simp
    | ref _ _ _=>simp
   | val _ _ _ =>
    cases hy' with
    | nil=>simp
    | val _ _ _=>simp at hz
    | ref _ _ _=>simp at hz
   | ref _ _ _ =>
    cases hy' with
    | nil=>simp
    | val _ _ _=>simp at hz
    | ref _ _ _=>simp at hz
  show P (.done (.ret (.bool (xs.size == ys.size)))) s';rw[hfin];exact h
def lJ {x y:List (K ⊕ K2)}{a b:RD}{Q:Bool->RE->Prop}(hu:A.units<Sa)(hr:sub.room A.in1)(hx:L0 knd sub p s.heap x a)(hy:L0 knd sub p s.heap y b)(h:Q (decide (x=y)) s) :
  RT (model prog w) A (PySem.eqBool (.ref a) (.ref b)) Q E s:=by
 unfold PySem.eqBool;try with_reducible refine Ol ?_
 show RT _ _ (if (RC.ref a == RC.ref b)=true then _ else _) Q E s;by_cases hab:(RC.ref a == RC.ref b)=true
 .rw[Mb hab];have e:a=b:=by have:=eq_of_beq hab;injection this
  subst e;obtain rfl:=hx.inj hy;exact LV (Oi (LY (by simpa using h)))
 .rw[Md hab];refine LV (wpAny_richCompare_same_room (op:=.Eq) hx.typeIs hy.typeIs F.slot_tuple_eq
   (Ng F.slot_tuple_eq hx.typeIs F.entry_tuple_eq (jx ?rm hx hy ⟨_,rfl,(λe=>nomatch e),Oc h⟩) (F.args_tuple_eq_2 _ _)) hu)
  case rm=>exact hr
def gu {ks:List (K ⊕ K2)}{a:RD}{n:Nat}{Q:Bool->RE->Prop}(hn:sub.deep+1<=n)(hk:L0 knd sub p s.heap ks a)(h:Q true s):RT (model prog w) A (eqIsQuiet n (.ref a)) Q E s:=by
 have hT:=hk.typeIs;obtain⟨o,items,m,ho,_,hd,hi⟩:=hk;obtain⟨n,rfl⟩:∃k,n=k+1:=⟨n-1,by omega⟩;unfold eqIsQuiet;refine LV (Pe hT F.slot_tuple_eq.lookup ?_);show RT _ _ (isInstance (.ref a) (.type "tuple") >>= _) _ _ s;refine LV (QA hT isSubtype_tuple_tuple ?_);simp only[Pc,MT,Nf];refine LV (Ot ho hd ?_);refine LV ?_;show RT _ _ (forIn items _ _) _ _ s;rw[<-PX];refine Qz _ (λrest r s'=>r.1=none/\s'=s/\∃j ks,ItemsN knd sub p s.heap j ks rest) _ ?_ ?_ _ _ ⟨rfl,rfl,0,ks,hi⟩
 .rintro v rest r s' ⟨hr,rfl,j,ks,hall⟩;cases hall with
  | val hp h1 ht =>rw[eqIsQuiet_byValue _ (knd.byValue _ _ h1)];refine LV (LY ?_);simp only[Pc,MT,Nf];exact LY ⟨rfl,rfl,_,_,ht⟩
  | ref hp h1 ht =>refine LV (sub.quietN (by omega) h1 ?_);simp only[Pc,MT,Nf];exact LY ⟨rfl,rfl,_,_,ht⟩
 .rintro ⟨r1,r2⟩ s' ⟨hr,rfl,_⟩;simp only at hr;subst hr;exact LY h
end
def uS {prog:RF}{w:RG}{K K2:Type}[DecidableEq K][DecidableEq K2](knd:KeyKind prog w K)(sub:SubKind prog w K2)(p:Nat->Bool)(hd:sub.deep<8):SubKind prog w (List (K ⊕ K2)) where
 is:=L0 knd sub p
 hash:=aE knd sub
 draws:=λks=>(ks.map (gB sub)).sum+1
 room:=λA=>A.units<Sa/\sub.room A.in1
 inj:=λhx hy=>hx.inj hy
 keeps:=λx ho hd hs=>x.keeps ho hd hs
 pyHash:=λhu hk h=>lN hu.1 hu.2 hk h
 eqBool:=λhu hx hy h=>lJ hu.1 hu.2 hx hy h
 quiet:=λhk h=>gu (by omega) hk h
 deep:=sub.deep+1
 quietN:=λhn hk h=>gu hn hk h
end
section
open Sem (wp)
def bIn (b:Bool):Int:=if b then 1 else 0
def aj (i:Int):RC->Bool
 | .int j _=>j == i
 | .bool b=>bIn b == i
 | _=>false
def M1 {i:Int}{v:RC}(h:aj i v=true):(∃t,v = .int i t)\/∃b,v = .bool b/\bIn b=i:=by
 cases v with
 | int j t=>exact .inl ⟨t,by simp[aj]at h;rw[h]⟩
 | bool b=>exact .inr ⟨b,rfl,by simpa [aj] using h⟩
 | _=>simp[aj]at h
section
variable {prog:RF}{w:RG}{A:RH}{E:RC->RE->Prop}{s:RE}
def mr {b:Bool}{Q:Int->RE->Prop}(h:Q (hashInt (bIn b)) { s with toks:=s.toks+1 }):RT (model prog w) A (PySem.pyHash (.bool b)) Q E s:=by
 have hr:=rawHash_range (bIn b);unfold PySem.pyHash;have hv:[RC.bool b].any RC.onHeap=false:=rfl;refine LV ?_;rw[cRoomFor,Md (by rw[hv];exact Mz)];refine LY ?_;refine LV (Pe (typeIs_bool s b) QB.lookup ?_);show RT _ _ (if (some (RC.builtin "int.__hash__") == some RC.none)=true then _ else _) Q E s;rw[Md (by rw[beq_builtin_none];exact Mz)];refine LV (Pe (typeIs_bool s b) QB.lookup ?_);show RT _ _ (callSpecialIfBoundUnlessNone? (.bool b) "__hash__" _ >>= _) Q E s;refine LV (Pu (typeIs_bool s b) QB
  (Ng QB (typeIs_bool s b) entry_int_hash
   (show RT _ _ (do ret (<-mkInt (rawHash (bIn b)))) _ _ s from wpAny_ret_mkInt ?_) (args_int_hash _)))
 show RT _ _ (if (decide (-(2:Int) ^ 63<=rawHash (bIn b))&&decide (rawHash (bIn b)<2 ^ 63))=true then _ else _) Q E _;rw[Mb (by rw[Mv hr.1,Mv hr.2];rfl)];exact LY h
end
def qc (prog:RF)(w:RG):PySem.KeyKind prog w Int where
 is:=aj
 hash:=hashInt
 inj:=λv a b ha hb=>by
  rcases M1 ha with ⟨t,rfl⟩ | ⟨x,rfl,rfl⟩
  .simpa [aj] using hb
  .simpa [aj] using hb
 byValue:=λk v h=>by rcases M1 h with ⟨t,rfl⟩ | ⟨x,rfl,rfl⟩ <;> rfl
 pyHash:=λhv h=>by
  rcases M1 hv with ⟨t,rfl⟩ | ⟨x,rfl,rfl⟩
  .exact wpAny_pyHash_int h
  .exact mr h
 eqBool:=λ{A E s a b u v Q} hu hv h=>by
  have e0:∀x y:Int,(x == y)=decide (x=y):=λx y=>by by_cases e:x=y <;> simp[e]
  rw[<-e0]at h;rcases M1 hu with ⟨t,rfl⟩ | ⟨x,rfl,rfl⟩
  .rcases M1 hv with ⟨t2,rfl⟩ | ⟨y,rfl,rfl⟩
   .exact wpAny_eqBool_int h
   .exact SeqAt.EqAt.int_bool a t y _ _ _ _ h
  .rcases M1 hv with ⟨t2,rfl⟩ | ⟨y,rfl,rfl⟩
   .exact SeqAt.EqAt.bool_int x b t2 _ _ _ _ h
   .refine SeqAt.EqAt.bool_bool x y _ _ _ _ ?_;have:(bIn x == bIn y)=(x == y):=by cases x <;> cases y <;> rfl
    rw[<-this];exact h
 «strs»:=λk x t v h=>by simp[aj]at h
end
end L3
namespace L3
open PySem PySem.Spec PyProof.Rows L2
variable {vv:List (RD×RP)}
section
section
variable {K:Type}[DecidableEq K]
def cY {P:RF}{w:RG}(kind:SubKind P w K)(a:RD)(xs:List (K×RD×V)):RM->Prop:=λh=>xs.length<=RN/\(a == sysModules)=false/\∃vs:List (K×RD×RC),
 Paired (λ(p:K×RD×V) (q:K×RD×RC)=>p.1=q.1/\p.2.1=q.2.1/\u4 p.2.2 q.2.2) xs vs /\
 ∃o es ep,h.get? a=some o/\o.ExactDict/\o.data = .dict es ep/\es.toList=vs.map (entryOfKey kind.toHeapKind)/\(vs.map (·.1)).Nodup
variable {P:RF}{w:RG}{kind:SubKind P w K}{a:RD}{xs:List (K×RD×V)}
def cY.dict {h:RM}(d:cY kind a xs h)(hk:∀x∈xs,kind.is h x.1 x.2.1):xs.length<=RN/\(a == sysModules)=false/\∃vs:List (K×RD×RC),
  Paired (λ(p:K×RD×V) (q:K×RD×RC)=>p.1=q.1/\p.2.1=q.2.1/\u4 p.2.2 q.2.2) xs vs/\h.DictOfH kind.toHeapKind a vs:=by
 obtain⟨z,y,vs,r,o,es,ep,h1,h2,h3,h4,h5⟩:=d;refine⟨z,y,vs,r,o,es,ep,h1,h2,h3,h4,?_,h5⟩;clear h4 h5 z;induction r with
 | nil=>intro x hx;cases hx
 | @cons p q ps qs hq t ih =>
  intro x hx;rcases Mi.1 hx with e | hx
  .subst e;rw[<-hq.1,<-hq.2.1];exact hk p Me
  .exact ih (λx hx=>hk x (Mc _ hx)) x hx
def ku (xs:List (K×RD×V))(k:K):Option V:=(xs.find? λx=>decide (x.1=k)).map (·.2.2)
def lq (xs:List (K×RD×V))(k:K)(b:RD)(v:V):List (K×RD×V):=if (ku xs k).isSome then xs.map (λx=>if x.1=k then(x.1,x.2.1,v) else x) else xs++[(k,b,v)]
abbrev PV (xs:List (K×RD×V))(vs:List (K×RD×RC)):Prop:=Paired (λ(p:K×RD×V) (q:K×RD×RC)=>p.1=q.1/\p.2.1=q.2.1/\u4 p.2.2 q.2.2) xs vs
def PV.val {xs:List (K×RD×V)}{vs:List (K×RD×RC)}(r:PV xs vs)(k:K):df (ku xs k) ((atKey vs k).map (·.2)):=by
 unfold ku atKey;induction r with
 | nil=>exact True.intro
 | @cons p q ps qs hq t ih =>
  rw[Oy,Oy,hq.1];by_cases e:q.1=k
  .rw[Mv e];exact hq.2.2
  .rw[Mw e];exact ih
def PV.repl {xs:List (K×RD×V)}{vs:List (K×RD×RC)}(r:PV xs vs)(k:K){y:V}{u:RC}(ry:u4 y u):PV (xs.map λx=>if x.1=k then(x.1,x.2.1,y) else x) (vs.map (putAt k u)):=by
 walk_at "kt"
def PV.put {xs:List (K×RD×V)}{vs:List (K×RD×RC)}(r:PV xs vs)(k:K){b:RD}{y:V}{u:RC}(ry:u4 y u):PV (lq xs k b y) (storedH vs k b u):=by
 have e:(ku xs k).isSome=(atKey vs k).isSome:=by rw[(PV.val r k).isSome_eq,Qm]
 unfold lq storedH;rw[e];by_cases q:(atKey vs k).isSome=true
 .rw[Mb q,Mb q];exact PV.repl r k ry
 .rw[Md q,Md q];exact Paired.snoc r ⟨rfl,rfl,ry⟩
def um (xs:List (K×RD×V))(k:K)(b:RD)(v:V):(lq xs k b v).length<=xs.length+1:=by
 unfold lq;split
 .rw[LX];omega
 .simp
def cY.obj {H:Hp}{h:RM}(d:cY kind a xs h):D5 P w H h a (.ext (cY kind a xs)):=by refine⟨d,let ⟨_,_,_,_,o,_,_,e,_⟩:=d;⟨o,e⟩,λh1 h2 d k=>?_⟩;obtain⟨z,y,vs,r,o,es,ep,e,c⟩:=d;exact⟨z,y,vs,r,o,es,ep,k o e,c⟩
end
section
variable {K:Type}[DecidableEq K]{X:Cx}{kind:SubKind X.prog X.w K}{O:L2.St}{H:Hp}{s:RE}{a b:RD}{v:V}{k:K}{r:RC}{xs:List (K×RD×V)}{A:RH}{E:RC->RE->Prop}
def By (I:Inv X vv O H s)(e:H a=some (.ext (cY kind a xs))):cY kind a xs s.heap:=(show D5 X.prog X.w H s.heap a (.ext (cY kind a xs)) from I.hok a _ e).1
def se {Q:RC->RE->Prop}(hu:kind.room A.in1)(I:Inv X vv O H s)(e:H a=some (.ext (cY kind a xs)))(hk:∀x∈xs,kind.is s.heap x.1 x.2.1)(kb:kind.is s.heap k b)(g:ku xs k=some v)(h:∀w' s',Inv X vv O H s'->u4 v w'->Q w' s') :
  RT (model X.prog X.w) A (getItem (.ref a) (.ref b)) Q E s:=by obtain⟨z,hd,vs,rel,dd⟩:=(By I e).dict hk;obtain⟨w',hw,rw'⟩:=df.some_of (v:=v) (o:=(atKey vs k).map (·.2)) (by rw[<-g];exact PV.val rel k);obtain⟨p,hp,hp2⟩:=Ms.1 hw;refine wpAny_getItem_heap hu kb dd hp ?_;rw[hp2];exact h w' _ (I.tok _) rw'
def rO {Q:Unit->RE->Prop}(hu:kind.room A.in1)(I:Inv X vv O H s)(e:H a=some (.ext (cY kind a xs)))(hk:∀x∈xs,kind.is s.heap x.1 x.2.1)(kb:kind.is s.heap k b)(hl:xs.length<RN)(rv:u4 v r)(h:∀s',Inv X vv O (upd H a (.ext (cY kind a (lq xs k b v)))) s'->Q () s') :
  RT (model X.prog X.w) A (setItem (.ref a) (.ref b) r) Q E s:=by
 obtain⟨z,hd,vs,rel,dd⟩:=(By I e).dict hk;have hz:vs.length<=RN:=by rw[<-Pz rel];exact z
 refine wpAny_setItem_heap (hsz:=hz) hu kb dd λh' dd' hs=>h _ ?_
 obtain⟨q,es,ep,hq,h2,h3,h4,_,h5⟩:=dd';have nd:cY kind a (lq xs k b v) h':=⟨by have:=um xs k b v;omega,hd,_,PV.put rel k rv,q,es,ep,hq,h2,h3,h4,h5⟩;exact fI I (by rw[e];exact True.intro) hs ⟨q,hq⟩ nd.obj
end
end
section
structure NKey where
 K:Type
 dec:DecidableEq K
 kind:∀(P:RF) (w:RG),SubKind P w K
 hsh:K->Int
 hs:∀P w k,(kind P w).hash k=hsh k
 dp:Nat
 hdp:∀P w,(kind P w).deep=dp
 At:Fg->Hp->K->RD->Prop
 ok:∀{X:Cx} {vv:List (RD×RP)} {O:L2.St} {H:Hp} {s:RE} {k:K} {b:RD},Inv X vv O H s->At X.K H k b->(kind X.prog X.w).is s.heap k b
 keeps:∀{L:Fg} {H H':Hp} {k:K} {b:RD},At L H k b->(∀c xs,SqT L H c xs->SqT L H' c xs)->At L H' k b
 room:∀(P:RF) (w:RG) (A:RH),A.units+dp<Sa->(kind P w).room A
instance (κ:NKey):DecidableEq κ.K:=κ.dec
def Do (P:RF)(w:RG):SubKind P w Empty where
 is:=λ_ _ _=>False
 hash:=λk=>k.elim
 draws:=λk=>k.elim
 room:=λ_=>True
 inj:=λh=>h.elim
 keeps:=λh=>h.elim
 pyHash:=λ_ h=>h.elim
 eqBool:=λ_ h=>h.elim
 quiet:=λh=>h.elim
 deep:=0
 quietN:=λ_ h=>h.elim
def zD :NKey where
 K:=Empty
 dec:=inferInstance
 kind:=Do
 hsh:=λk=>k.elim
 hs:=λ_ _ k=>k.elim
 dp:=0
 hdp:=λ_ _=>rfl
 At:=λ_ _ _ _=>False
 ok:=λ_ h=>h.elim
 keeps:=λh=>h.elim
 room:=λ_ _ _ _=>True.intro
section
variable (κ:NKey)(p:Nat->Bool)
inductive VKeys (L:Fg) (H:Hp):Nat->List (Int ⊕ κ.K)->List V->Prop
 | nil {j:Nat}:VKeys L H j [] []
 | int {j:Nat} {i:Int} {ks:List (Int ⊕ κ.K)} {vs:List V}:p j=false->VKeys L H (j+1) ks vs->VKeys L H j (.inl i::ks) (.int i::vs)
 | bl {j:Nat} {b:Bool} {ks:List (Int ⊕ κ.K)} {vs:List V}:p j=false->VKeys L H (j+1) ks vs->VKeys L H j (.inl (bIn b)::ks) (.bl b::vs)
 | ref {j:Nat} {k:κ.K} {a:RD} {ks:List (Int ⊕ κ.K)} {vs:List V}:p j=true->κ.At L H k a->VKeys L H (j+1) ks vs->VKeys L H j (.inr k::ks) (.ref a::vs)
variable {κ p}
def VKeys.keeps {L:Fg}{H H':Hp}{j:Nat}{ks:List (Int ⊕ κ.K)}{vs:List V}(x:VKeys κ p L H j ks vs)(hk:∀c xs,SqT L H c xs->SqT L H' c xs):VKeys κ p L H' j ks vs:=by
 induction x with
 | nil=>exact .nil
 | int hp _ ih=>exact .int hp ih
 | bl hp _ ih=>exact .bl hp ih
 | ref hp h1 _ ih=>exact .ref hp (κ.keeps h1 hk) ih
def VKeys.items {X:Cx}{O:L2.St}{H:Hp}{s:RE}(ok:Inv X vv O H s){j:Nat}{ks:List (Int ⊕ κ.K)}{vs:List V}(x:VKeys κ p X.K H j ks vs):∀{us:List RC},p8 vs us->ItemsN (qc X.prog X.w) (κ.kind X.prog X.w) p s.heap j ks us:=by
 induction x with
 | nil=>intro us r;cases r;exact .nil
 | @int j i ks vs hp _ ih =>
  intro us r;cases r with
  | cons r1 r2 =>obtain⟨t,e⟩:=(show ∃t,_=RC.int i t from r1);subst e;exact .val hp (show aj i (.int i t)=true by simp[aj]) (ih r2)
 | @bl j b ks vs hp _ ih =>
  intro us r;cases r with
  | cons r1 r2 =>cases(show _=RC.bool b from r1);exact .val hp (show aj (bIn b) (.bool b)=true by simp[aj]) (ih r2)
 | @ref j k a ks vs hp h1 _ ih =>
  intro us r;cases r with
  | cons r1 r2 =>cases(show _=RC.ref a from r1);exact .ref hp (κ.ok ok h1) (ih r2)
end
def vy (κ:NKey)(p:Nat->Bool)(hd:κ.dp<8):NKey where
 K:=List (Int ⊕ κ.K)
 dec:=inferInstance
 kind:=λP w=>uS (qc P w) (κ.kind P w) p (by rw[κ.hdp];exact hd)
 hsh:=λks=>reduceHash (Builtin.Tuple.tupleHashOf (ks.map λk=>match k with | .inl i=>hashInt i | .inr k=>κ.hsh k))
 hs:=λP w ks=>by
  show aE _ _ ks=_;unfold aE;congr 2;refine MO λk _=>?_
  cases k with
  | inl i=>rfl
  | inr k=>exact κ.hs P w k
 dp:=κ.dp+1
 hdp:=λP w=>by show(κ.kind P w).deep+1=_;rw[κ.hdp]
 At:=λL H ks b=>∃vs,SqT L H b vs/\VKeys κ p L H 0 ks vs
 ok:=λ{X vv O H s k b} I ⟨vs,e,x⟩=>by obtain⟨its,r,⟨o,h1,h2,n,h3⟩,_⟩:=I.tuple e;exact⟨o,its.toArray,n,h1,h2,h3,by simpa using x.items I r⟩
 keeps:=λ⟨vs,e,x⟩ hk=>⟨vs,hk _ _ e,x.keeps hk⟩
 room:=λP w A hu=>⟨by omega,κ.room P w A.in1 (by show A.units+1 + κ.dp<Sa;omega)⟩
def Y1 :NKey:=vy zD (λ_=>false) (by decide)
def aO :NKey:=vy Y1 (λ_=>true) (by decide)
def jI :NKey:=vy aO (λj=>j == 0) (by decide)
end
section
def NDi (κ:NKey)(a:RD)(xs:List (κ.K×RD×V)):RM->Prop:=λh=>xs.length<=RN/\(a == sysModules)=false/\∃vs:List (κ.K×RD×RC),
 Paired (λ(p:κ.K×RD×V) (q:κ.K×RD×RC)=>p.1=q.1/\p.2.1=q.2.1/\u4 p.2.2 q.2.2) xs vs /\
 ∃o es ep,h.get? a=some o/\o.ExactDict/\o.data = .dict es ep/\es.toList=vs.map (λq=>(⟨κ.hsh q.1,.ref q.2.1,q.2.2⟩:DictEntry))/\(vs.map (·.1)).Nodup
def ka (κ:NKey)(P:RF)(w:RG)(a:RD)(xs:List (κ.K×RD×V)):NDi κ a xs=cY (κ.kind P w) a xs:=by
 funext h;unfold NDi cY;have e:(λ(q:κ.K×RD×RC)=>(⟨κ.hsh q.1,.ref q.2.1,q.2.2⟩:DictEntry))=entryOfKey (κ.kind P w).toHeapKind:=by funext q;unfold entryOfKey;rw[κ.hs P w]
 rw[e]
def yh (κ:NKey)(L:Fg)(H:Hp)(a:RD)(y:V)(o:Option V):Prop:=∃(xs:List (κ.K×RD×V)) (k:κ.K) (b:RD),H a=some (.ext (NDi κ a xs))/\(∀x∈xs,κ.At L H x.1 x.2.1)/\y = .ref b /\ κ.At L H k b/\o=ku xs k
def DI (κ:NKey)(L:Fg)(H:Hp)(a:RD)(y v:V)(H':Hp):Prop:=∃(xs:List (κ.K×RD×V)) (k:κ.K) (b:RD),H a=some (.ext (NDi κ a xs))/\(∀x∈xs,κ.At L H x.1 x.2.1)/\y = .ref b /\ κ.At L H k b/\xs.length<RN/\H'=upd H a (.ext (NDi κ a (lq xs k b v)))
def Am (κ:NKey):TE:=λ_ H Q=>∀p,H p=none->(∃h,NDi κ p [] h)->Q (.ref p) (upd H p (.ext (NDi κ p [])))
def Aj (κ:NKey)(L:Fg)(td ty:TE):TE:=λO H Q=>td O H λx H1=>ty O H1 λy H2=>∃a v,x = .ref a/\yh κ L H2 a y (some v)/\Q v H2
def zE (κ:NKey)(L:Fg)(td ty tv:TE):TS:=λD O H=>tv O H λv H1=>td O H1 λx H2=>ty O H2 λy H3=>∃a H4,x = .ref a/\DI κ L H3 a y v H4/\((∀φ,H4 a=some (.ext φ)->∃h,φ h)->D.nx O H4)
def uN (κ:NKey)(L:Fg)(td ty tx:TE):TE:=λO H Q=>td O H λx H1=>∃a xs,x = .ref a/\H1 a=some (.ext (NDi κ a xs))/\ty O H1 λy H2=>tx O H2 λz H3=>∃o,yh κ L H3 a y o/\Q (o.getD z) H3
section
variable {κ:NKey}{X:Cx}{O:L2.St}{H:Hp}{s:RE}{a:RD}{xs:List (κ.K×RD×V)}{A:RH}{E:RC->RE->Prop}
def qB (I:Inv X vv O H s)(e:H a=some (.ext (NDi κ a xs))):NDi κ a xs s.heap:=(show D5 X.prog X.w H s.heap a (.ext (NDi κ a xs)) from I.hok a _ e).1
def tN (I:Inv X vv O H s)(e:H a=some (.ext (NDi κ a xs))):s.TypeIs (.ref a) "dict" /\ (∀b,RC.ref a = .ref b->∃ob,s.heap.get? b=some ob/\ob.dict=none)/\(a == sysModules)=false:=by obtain⟨z,hd,vs,r,o,es,ep,h1,h2,_⟩:=qB I e;refine⟨⟨o,h1,h2.1⟩,λb q=>?_,hd⟩;cases q;exact⟨o,h1,h2.2.1⟩
def xr (hu:A.units+9<Sa)(hd:κ.dp<=8):(κ.kind X.prog X.w).room A.in1:=κ.room _ _ _ (by show A.units+1 + κ.dp<Sa;omega)
def ph {y v:V}{u:RC}{Q:RC->RE->Prop}(hu:A.units+9<Sa)(hd:κ.dp<=8)(I:Inv X vv O H s)(g:yh κ X.K H a y (some v))(ry:u4 y u)(h:∀w' s',Inv X vv O H s'->u4 v w'->Q w' s') :
  RT (model X.prog X.w) A (getItem (.ref a) u) Q E s:=by obtain⟨xs,k,b,e,hk,rfl,kb,l⟩:=g;cases(show u=RC.ref b from ry);rw[ka κ X.prog X.w]at e;exact se (xr hu hd) I e (λx hx=>κ.ok I (hk x hx)) (κ.ok I kb) l.symm h
def oC {y v:V}{u r:RC}{H':Hp}{Q:Unit->RE->Prop}(hu:A.units+9<Sa)(hd:κ.dp<=8)(I:Inv X vv O H s)(g:DI κ X.K H a y v H')(ry:u4 y u)(rv:u4 v r)(h:∀s',Inv X vv O H' s'->Q () s') :
  RT (model X.prog X.w) A (setItem (.ref a) u r) Q E s:=by obtain⟨xs,k,b,e,hk,rfl,kb,hl,rfl⟩:=g;cases(show u=RC.ref b from ry);rw[ka κ X.prog X.w]at e h;exact rO (xr hu hd) I e (λx hx=>κ.ok I (hk x hx)) (κ.ok I kb) hl rv h
def yk {y d:V}{u r:RC}{o:Option V}{Q:RC->RE->Prop}(hu:A.units+9<Sa)(hdp:κ.dp<=8)(I:Inv X vv O H s)(g:yh κ X.K H a y o)(ry:u4 y u)(rd:u4 d r)(h:∀w' s',Inv X vv O H s'->u4 (o.getD d) w'->Q w' s') :
  RT (model X.prog X.w) A (call (.builtin "dict.get") [.ref a,u,r]) Q E s:=by
 obtain⟨xs,k,b,e,hk,rfl,kb,l⟩:=g;cases(show u=RC.ref b from ry);rw[ka κ X.prog X.w]at e;obtain⟨z,hd,vs,rel,dd⟩:=(By I e).dict λx hx=>κ.ok I (hk x hx)
 refine call_meetsIn PySem.F.slot_dict_get dd.typeIs PySem.F.entry_dict_get (PySem.F.args_dict_get_3 _ _ _) (meetsH_dict_get_default (κ.kind X.prog X.w).toHeapKind a b hd r) ⟨xr hu hdp,k,vs,κ.ok I kb,dd,h _ _ (I.tok _) ?_⟩;rw[l];exact(PV.val rel k).getD rd
end
section
variable {κ:NKey}{X:Cx}{o i e f value:RL}{pos pos' tpos apos cpos:Pos}{td ty tv tx:TE}
def yz {O:L2.St}{H:Hp}{s:RE}(I:Inv X vv O H s):NDi κ s.heap.objs.size [] (s.heap.push { cls:=.type "dict",data:=.dict #[] }) :=
 ⟨Nj _,OD.2 (OU (MC I.big)),[],.nil,_,#[],0,Mp _ rfl,⟨rfl,rfl,rfl⟩,rfl,rfl,QY⟩
def yL :PE X (.Dict [] [] pos) (Am κ):=λvv s O H Q I h =>
 wpAny_Dict_empty ⟨.ref s.heap.objs.size,_,I.laid (a:=s.heap.objs.size) (o:=.ext (NDi κ s.heap.objs.size [])) (t':=s.toks) (λ_ _ q=>LZ _ q) (Mh _) (by have d:NDi κ s.heap.objs.size [] (s.heap.push { cls:=.type "dict",data:=.dict #[] }):=⟨Nj _,OD.2 (OU (MC I.big)),[],.nil,_,#[],0,Mp _ rfl,⟨rfl,rfl,rfl⟩,rfl,rfl,QY⟩;rw[ka κ X.prog X.w]at d ⊢;exact d.obj),rfl,h _ (I.hok.fresh (Mh _)) ⟨_,yz I⟩⟩
def zg (hu:X.A.units+9<Sa)(hd:κ.dp<=8)(ho:PE X o td)(hi:PE X i ty)(hs:xD i):PE X (.Subscript o i pos) (Aj κ X.K td ty):=by intro vv s O H Q I h;refine qf PySem.F.slot_dict_getitem.lookup hs (thn (ho vv s O H _ I h) λu s1 ⟨x,H1,I1,rx,q1⟩=>thn (hi vv s1 O H1 _ I1 q1) λiv s2 ⟨y,H2,I2,ry,a,v,ex,g,q2⟩=>?_);subst ex;obtain rfl:u=RC.ref a:=rx;obtain⟨xs,k,b,e,_⟩:=id g;exact⟨(tN I2 e).1,ph hu hd I2 g ry λw' s3 I3 rw'=>⟨v,H2,I3,rw',q2⟩⟩
def yG (hu:X.A.units+9<Sa)(hd:κ.dp<=8)(ho:PE X o td)(hi:PE X i ty)(hv:PE X value tv)(hs:RV value (some (.Subscript o i pos')) pos.line X.env=pure false) :
  PS X (.Assign [.Subscript o i pos'] value pos) (zE κ X.K td ty tv):=by intro vv s O H D I h;refine wpAny_Assign_Subscript (thn (hv vv s O H _ I h) λr s1 ⟨v,H1,I1,rv,q1⟩=>thn (ho vv s1 O H1 _ I1 q1) λu s2 ⟨x,H2,I2,rx,q2⟩=>thn (hi vv s2 O H2 _ I2 q2) λiv s3 ⟨y,H3,I3,ry,a,H4,ex,g,q3⟩=>?_) hs;subst ex;obtain rfl:u=RC.ref a:=rx;exact oC hu hd I3 g ry rv λs4 I4=>⟨O,H4,I4,q3 λφ e=>⟨_,(show D5 X.prog X.w H4 s4.heap a (.ext φ) from I4.hok a _ e).1⟩⟩
def wx (hu:X.A.units+9<Sa)(hd:κ.dp<=8)(ho:PE X o td)(he:PE X e ty)(hf:PE X f tx)(m:M2 X o "get" apos e f cpos):PE X (.Call (.Attribute o "get" apos) [e,f] [] cpos) (uN κ X.K td ty tx):=by
 intro vv s O H Q I h;refine wpAny_Call_method m.base m.few m.line PySem.F.plainAttrs_dict PySem.F.slot_dict_get PySem.F.type_dict_get (thn (ho vv s O H _ I h) λu s1 ⟨x,H1,I1,rx,a,xs,ex,d,q1⟩=>?_);subst ex;obtain rfl:u=RC.ref a:=rx;obtain⟨t1,t2,_⟩:=tN I1 d;refine⟨t1,t2,?_⟩;rw[m.trees];refine Calls.callWith_builtin rfl (Calls.evalArgs_plain (Rb (thn (he vv s1 O H1 _ I1 q1) λiv s2 ⟨y,H2,I2,ry,q2⟩ =>
  Rb (thn (hf vv s2 O H2 _ I2 q2) λfv s3 ⟨z,H3,I3,rz,ov,g,q3⟩=>Calls.spliced_nil ?_))))
 exact yk hu hd I3 g ry rz λw' s4 I4 rw'=>⟨_,H3,I4,rw',q3⟩
end
end
end L3
namespace L3
open PySem PySem.Spec PyProof.Rows L2 PySem.W
def fA (h:RM)(d:RD)(es:Array DictEntry)(ep:Nat):Prop:=∃o,h.get? d=some o/\o.ExactDict/\o.data = .dict es ep
variable {es:Array DictEntry}{ep:Nat}
def fA.at' {h h':RM}{d:RD}(x:fA h d es ep)(e:∀o,h.get? d=some o->h'.get? d=some o):fA h' d es ep:=let ⟨o,ho,r⟩:=x;⟨o,e _ ho,r⟩
def fA.typeIs {s:RE}{d:RD}(x:fA s.heap d es ep):s.TypeIs (.ref d) "dict":=let ⟨o,ho,hc,_⟩:=x;⟨o,ho,hc.1⟩
section
variable {prog:RF}{w:RG}{A:RH}{E:RC->RE->Prop}{s:RE}{it d:RD}{i:Nat}
def uj {Q:RC->RE->Prop}(hd:(d == sysModules)=false)(hm:fA s.heap d es ep)
  (hQ:Q (.ref s.heap.objs.size) { s with heap:=s.heap.push { cls:=.type "dict_keyiterator",data:=.fields #[.ref d,.int 0 0,.int es.size 0,.int ep 0] } }) :
  RT (model prog w) A (pyIter (.ref d)) Q E s:=by have hT:=hm.typeIs;obtain⟨o,ho,hc,hdat⟩:=hm;refine wpAny_pyIter_slot hT PySem.F.slot_dict_iter (Ng PySem.F.slot_dict_iter hT PySem.F.entry_dict_iter ?_ (PySem.F.args_dict_iter_1 _));unfold Builtin.«dict.__iter__»;refine LV ?_;unfold Builtin.Dict.dictSlotNone;refine LV (wpAny_notOrdered_dict hT (LY ?_));show RT _ _ (Builtin.Dict.showsAll d >>= _) _ _ s;unfold Builtin.Dict.showsAll;rw[Md (by rw[hd];exact Mz)];refine LV (LY (LV (wpAny_dictEntries ho hdat (LV (wpAny_dictEpoch ho hdat ?_)))));refine LV (MY (LY ⟨_,rfl,"dict_keyiterator",_,⟨_,Mp _ rfl,rfl⟩,NL.lookup,?_⟩));simpa [rawInt] using hQ
def vW {Q:Option RC->RE->Prop}(hit:s.heap.IsKeyIter it d i es.size ep)(hm:fA s.heap d es ep)(hlt:i<es.size)
  (hQ:∀h',h'.IsKeyIter it d (i+1) es.size ep->RM.SameBut it s.heap h'->Q (some es[i].key) { s with heap:=h' }):RT (model prog w) A (pyNext (.ref it)) Q E s:=by
 walk_at "ko"
 walk_at "kj";refine LY ?_;simp only[show ¬((i:Int)<0) from by omega,Nf,Od,Array.getElem?_eq_getElem hlt];refine LV ?_;first | refine LV (Oz hit.typeIs (LY ?_)) | refine LV (OW hit.typeIs (LY ?_))
 refine LV (wpAny_isOneOf_keyiter hit.typeIs ?_);show RT _ _ (setField (.ref it) 1 (rawInt ((i:Int)+1)) >>= _) _ _ s;refine LV (QZ ho hd (by simp) ?_);have hit':(s.heap.update it (RP.mapFields (·.setIfInBounds 1 (rawInt ((i:Int)+1))))).IsKeyIter it d (i+1) es.size ep :=
  ⟨_,RM.get?_update_self _ ho (RP.isFreed_of_fields (Qa hd _)),(RP.cls_mapFields ..).trans hc,by rw[Qa hd];simp[rawInt]⟩
 refine LV (Ol ?_);refine LV (wpAny_isOneOf_keyiter (s:={ s with heap:=s.heap.update it (RP.mapFields (·.setIfInBounds 1 (rawInt ((i:Int)+1)))) }) hit'.typeIs ?_);show RT _ _ (pure es[i].key) _ _ _;exact LY (LY ⟨_,rfl,LY (hQ _ hit' (NJ ..))⟩)
def ya {Q:Option RC->RE->Prop}(hh:A.handled=none)(hit:s.heap.IsKeyIter it d es.size es.size ep)(hm:fA s.heap d es ep)
  (hQ:∀h',RM.ExtBut it s.heap h'->Q none { s with heap:=h' }):RT (model prog w) A (pyNext (.ref it)) Q E s:=by
 walk_at "ko"
 walk_at "kj";refine LY ?_;simp only[show ¬((es.size:Int)<0) from by omega,Nf,Od,Array.getElem?_eq_none (Mh _)];refine LV ?_;first | refine LV (Oz hit.typeIs (LY ?_)) | refine LV (OW hit.typeIs (LY ?_))
 show RT _ _ (setField (.ref it) 0 .none >>= _) _ _ s;refine LV (QZ ho hd (by simp) ?_);walk_at "kn";rw[show A.in1.handled=none from hh];refine LV (LY (wpAny_throw ?_));refine LV (QA (T:="StopIteration") (b:=true) ⟨_,Mp _ rfl,rfl⟩ isSubtype_stop ?_);exact LY (hQ _ (((NJ ..).extBut.push _).push _))
def sy (hh:A.handled=none)(I d:RD)(hne:d≠I)(es:Array DictEntry)(ep:Nat) :
  Walks prog w A I [I,d] [I] es.size (λi v=>∃h:i<es.size,v=es[i].key) (λi h=>h.IsKeyIter I d i es.size ep/\fA h d es ep) where
 sub:=λb hb=>by simp at hb;simp[hb]
 frame:=λ_ _ _ st hk=>⟨st.1.at λo e=>hk I (by simp) o e,st.2.at' λo e=>hk d (by simp) o e⟩
 item:=λi s Q E hi st hQ=>vW st.1 st.2 hi λh' hit' hs'=>hQ _ h' s.toks ⟨hi,rfl⟩ ⟨hit',st.2.at' λo e=>hs'.extBut d o hne e⟩ λb o hb e=>hs'.extBut b o (λh=>hb (by simp[h])) e
 done:=λs Q E st hQ=>ya hh st.1 st.2 λh' he'=>hQ h' s.toks λb o hb e=>he' b o (λh=>hb (by simp[h])) e
 self:=λ_ _ _ _ st hQ=>wpAny_pyIter_keyiter st.1 hQ
def fA.lt {h:RM}(x:fA h d es ep):d<h.objs.size:=let ⟨_,ho,_⟩:=x;Mm ho
def zq (lo:(d == sysModules)=false):KdlSrc prog w "dict" d d es.size (λi v=>∃h:i<es.size,v=es[i].key) (λh=>fA h d es ep) where
 type:=λ_ hm=>hm.typeIs
 there:=λ_ hm=>⟨hm.lt,hm.lt⟩
 keep:=λ_ _ hm hk=>hm.at' λo e=>hk d (.inl rfl) o e
 notList:=by decide
 notTuple:=by decide
 hint:=λ_ _ _ _ hm hq=>kdl_hint_dict hm.typeIs hq
 iter:=λ_ _ hh hm=>⟨_,_,(λ_ _ hq=>uj lo hm hq),sy hh _ d (MC hm.lt) es ep,⟨⟨_,Mp _ rfl,rfl,rfl⟩,hm.at' λo e=>LZ _ e⟩⟩
end
def oE {K:Type}{xs:List (K×RD×V)}{vs:List (K×RD×RC)}(rel:Paired (λ(p:K×RD×V) (q:K×RD×RC)=>p.1=q.1/\p.2.1=q.2.1/\L2.u4 p.2.2 q.2.2) xs vs):p8 (xs.map λx=>V.ref x.2.1) (vs.map λq=>RC.ref q.2.1):=by
 induction rel with
 | nil=>exact .nil
 | @cons a b l1 l2 hab _ ih =>rw[Ma,Ma];exact .cons (by rw[hab.2.1];exact rfl) ih
def nB {κ:NKey}{X:Cx}(hh:X.A.handled=none):A8 X (.type "list") (λys H Q=>∃p xs,ys=[.ref p]/\H p=some (.ext (NDi κ p xs))/\∀l,H l=none->Q (.ref l) (upd H l (.lst (xs.map λx=>.ref x.2.1)))):=by
 intro vv s O H ys us Q I r h;obtain⟨p,xs,rfl,e,q⟩:=h;obtain⟨u,rfl,rx⟩:=K0 r;cases rx;obtain⟨z,hd,vs,rel,o,es,ep,h1,h2,h3,h4,h5⟩:=qB I e;have hl:es.size=xs.length:=by have a:=Nn List.length h4;rw[LX,MZ]at a;rw[a,<-Pz rel]
 refine kdl_call (zq (es:=es) (ep:=ep) hd) hh ⟨o,h1,h2,h3⟩ (by omega) λh' tk acc' c' hk hS' hacc=>?_
 have hv:p8 (xs.map λx=>V.ref x.2.1) acc'.toList:=by
  have e1:acc'.toList=vs.map λq=>RC.ref q.2.1:=by
   have hlv:es.size=vs.length:=by have a:=Nn List.length h4;rw[LX,MZ]at a;exact a
   refine List.ext_getElem (by rw[MZ,LX,hacc.1,hlv]) λj g1 g2=>?_
   rw[MZ]at g1;obtain⟨g3,ev⟩:=hacc.2 j acc'[j] (Array.getElem?_eq_getElem g1);rw[Array.getElem_toList,ev,OF];have e2:es.toList[j]'(by rw[MZ];exact g3)=es[j]:=Array.getElem_toList ..;rw[<-e2];simp only[h4,OF]
  rw[e1];exact oE rel
 exact⟨.ref s.heap.objs.size,_,I.laid (t':=tk) hk (Mh _) (show D5 X.prog X.w _ h' _ (.lst (xs.map λx=>V.ref x.2.1)) from⟨by rw[LX];exact z,acc'.toList,c',hv,by simpa using hS'⟩),rfl,q _ (I.hok.fresh (Mh _))⟩
end L3
namespace L3
open PySem PySem.Spec PyProof.Rows L2
section
def yl:My->Option Int
 | .int i=>some i
 | .bool b=>some (bIn b)
 | _=>none
def iU:List My->Option (List (Int ⊕ Empty))
 | []=>some []
 | d::ds=>(yl d).bind λi=>(iU ds).map (.inl i :: ·)
def X8:List My->Option (List (Int ⊕ List (Int ⊕ Empty)))
 | []=>some []
 | .tuple es::ds=>(iU es).bind λk=>(X8 ds).map (.inr k :: ·)
 | _::_=>none
def As:My->Option Y1.K
 | .tuple ds=>iU ds
 | _=>none
def zI:My->Option aO.K
 | .tuple ds=>X8 ds
 | _=>none
def oW:My->Option jI.K
 | .tuple [.tuple ds,.int i]=>(X8 ds).map λk=>[.inr k,.inl i]
 | _=>none
section
variable {K:Fg}{H:Hp}
theorem iS:∀{ds:List My} {ks:List (Int ⊕ Empty)} {vs:List V} {j:Nat},iU ds=some ks->b7 K H ds vs->VKeys zD (λ_=>false) K H j ks vs
 | [],ks,vs,j,e,h=>by
  simp only[iU,Qo]at e;simp only[b7]at h;subst e h;exact .nil
 | d::ds,ks,vs,j,e,h=>by
  simp only[b7]at h;obtain⟨x,r,rfl,h1,h2⟩:=h;simp only[iU]at e;obtain⟨i,e1,e2⟩:=bS9 e;obtain⟨ks',e3,rfl⟩:=Ms.1 e2;have ih:=iS (j:=j+1) e3 h2;cases d with
  | int n=>simp only[yl,Qo]at e1;subst e1;cases(show x=V.int n from h1);exact .int rfl ih
  | bool b=>simp only[yl,Qo]at e1;subst e1;cases(show x=V.bl b from h1);exact .bl rfl ih
  | _=>simp[yl]at e1
def lX {d:My}{k:Y1.K}{v:V}(e:As d=some k)(h:c8 K H d v):∃b,v = .ref b/\Y1.At K H k b:=by
 cases d with
 | tuple ds =>simp only[c8]at h;obtain⟨a,xs,rfl,h1,h2⟩:=h;exact⟨a,rfl,xs,h1,iS e h2⟩
 | none=>exact nomatch (show(none:Option Y1.K)=some k from e)
 | bool _=>exact nomatch (show(none:Option Y1.K)=some k from e)
 | int _=>exact nomatch (show(none:Option Y1.K)=some k from e)
 | str _=>exact nomatch (show(none:Option Y1.K)=some k from e)
 | list _=>exact nomatch (show(none:Option Y1.K)=some k from e)
 | dict _=>exact nomatch (show(none:Option Y1.K)=some k from e)
theorem ji:∀{ds:List My} {ks:List (Int ⊕ List (Int ⊕ Empty))} {vs:List V} {j:Nat},X8 ds=some ks->b7 K H ds vs->VKeys Y1 (λ_=>true) K H j ks vs
 | [],ks,vs,j,e,h=>by
  simp only[X8,Qo]at e;simp only[b7]at h;subst e h;exact .nil
 | d::ds,ks,vs,j,e,h=>by
  simp only[b7]at h;obtain⟨x,r,rfl,h1,h2⟩:=h;cases d with
  | tuple es =>simp only[X8]at e;obtain⟨k,e1,e2⟩:=bS9 e;obtain⟨ks',e3,rfl⟩:=Ms.1 e2;obtain⟨b,rfl,hb⟩:=lX (d:=.tuple es) e1 h1;exact .ref rfl hb (ji (j:=j+1) e3 h2)
  | _=>simp[X8]at e
def qv {d:My}{k:aO.K}{v:V}(e:zI d=some k)(h:c8 K H d v):∃b,v = .ref b/\aO.At K H k b:=by
 cases d with
 | tuple ds =>simp only[c8]at h;obtain⟨a,xs,rfl,h1,h2⟩:=h;exact⟨a,rfl,xs,h1,ji e h2⟩
 | none=>exact nomatch (show(none:Option aO.K)=some k from e)
 | bool _=>exact nomatch (show(none:Option aO.K)=some k from e)
 | int _=>exact nomatch (show(none:Option aO.K)=some k from e)
 | str _=>exact nomatch (show(none:Option aO.K)=some k from e)
 | list _=>exact nomatch (show(none:Option aO.K)=some k from e)
 | dict _=>exact nomatch (show(none:Option aO.K)=some k from e)
def vx {d:My}{k:jI.K}{v:V}(e:oW d=some k)(h:c8 K H d v):∃b,v = .ref b/\jI.At K H k b:=by
 unfold oW at e;split at e
 .rename_i ds i;obtain⟨ks,e1,rfl⟩:=Ms.1 e;simp only[c8,b7]at h;obtain⟨a,xs,rfl,h1,x,r,rfl,h2,y,r2,rfl,h3,rfl⟩:=h;obtain⟨b,rfl,hb⟩:=qv (d:=.tuple ds) e1 (by simp only[c8];exact h2);subst h3;exact⟨a,rfl,_,h1,.ref rfl hb (.int rfl .nil)⟩
 .cases e
end
end
variable {fp:List RD}{H':Hp}{ts:List (Str×RD×RD)}
section
abbrev St :=L2.St
def hid (H:Hp)(B:List RD):Hp:=λb=>if b∈B then none else H b
def u3 {H:Hp}{B:List RD}{b:RD}(h:b ∉ B):hid H B b=H b:=by unfold hid;rw[Md h]
def G5 {H:Hp}{B:List RD}{b:RD}(h:b∈B):hid H B b=none:=by unfold hid;rw[Mb h]
def f8 {H:Hp}{B:List RD}:l6 (hid H B) H:=λb o e=>by
 by_cases h:b∈B
 .rw[G5 h]at e;cases e
 .rwa [u3 h]at e
def ae {H:Hp}{B B':List RD}(s:∀b∈B',b∈B):l6 (hid H B) (hid H B'):=λb o e=>by
 by_cases h:b∈B
 .rw[G5 h]at e;cases e
 .rw[u3 h]at e;rw[u3 λz=>h (s b z)];exact e
def Kp (fp:List RD)(H H':Hp):Prop:=∀b o,H b=some o->b ∉ fp->H' b=some o
def Kp.refl {H:Hp}:Kp fp H H:=λ_ _ e _=>e
def Kp.trans {H H1 H2:Hp}(a:Kp fp H H1)(b:Kp fp H1 H2):Kp fp H H2:=λc o e n=>b c o (a c o e n) n
def Kp.same {H:Hp}(s:l6 H H'):Kp fp H H':=λb o e _=>s b o e
def Kp.upd {H:Hp}{p:RD}{o:HO}(hp:H p=none):Kp fp H (upd H p o):=Kp.same (l6.upd hp)
def Kp.hid {B:List RD}{H:Hp}(k:Kp fp H H')(s:∀b∈fp,b∈B):l6 (hid H B) (hid H' B):=λb o e=>by
 by_cases h:b∈B
 .rw[G5 h]at e;cases e
 .rw[u3 h]at e ⊢;exact k b o e λz=>h (s b z)
def bC {H:Hp}{B:List RD}{a:RD}{o:HO}(h:a∈B):hid (upd H a o) B=hid H B:=by
 funext b;by_cases hb:b∈B
 .rw[G5 hb,G5 hb]
 .rw[u3 hb,u3 hb,i3];intro e;subst e;exact hb h
def K3 (K:Fg)(fp B:List RD)(H:Hp):My->V->Prop
 | .tuple ds,v=>∃a xs,v = .ref a/\SqT K (hid H B) a xs/\b7 K (hid H B) ds xs
 | .list ds,v=>∃a xs,v = .ref a/\hid H fp a=some (.lst xs)/\b7 K (hid H B) ds xs
 | .none,v=>v = .non
 | .bool b,v=>v = .bl b
 | .int i,v=>v = .int i
 | .str x,v=>v = .str x
 | .dict _,_=>False
section
variable {K:Fg}{B:List RD}{H:Hp}{d:My}{v:V}
def zJ (h:c8 K (hid H B) d v)(s:∀b∈fp,b∈B):K3 K fp B H d v:=by
 cases d with
 | tuple ds =>simp only[c8]at h;obtain⟨a,xs,e,hq,hd⟩:=h;exact⟨a,xs,e,hq,hd⟩
 | list ds =>simp only[c8]at h;obtain⟨a,xs,e,hq,hd⟩:=h;exact⟨a,xs,e,ae s _ _ hq,hd⟩
 | _=>simpa only[c8,K3] using h
def K3.dat (h:K3 K fp B H d v):c8 K H d v:=by
 cases d with
 | tuple ds =>obtain⟨a,xs,e,hq,hd⟩:=h;simp only[c8];exact⟨a,xs,e,hq.same f8,hd.same f8⟩
 | list ds =>obtain⟨a,xs,e,hq,hd⟩:=h;simp only[c8];exact⟨a,xs,e,f8 _ _ hq,hd.same f8⟩
 | _=>simpa only[c8,K3] using h
def K3.step (h:K3 K fp B H d v)(k:Kp fp H H')(s:∀b∈fp,b∈B):K3 K fp B H' d v:=by
 have sm:=k.hid s;have sf:=k.hid (B:=fp) λ_ z=>z
 cases d with
 | tuple ds =>obtain⟨a,xs,e,hq,hd⟩:=h;exact⟨a,xs,e,hq.same sm,hd.same sm⟩
 | list ds =>obtain⟨a,xs,e,hq,hd⟩:=h;exact⟨a,xs,e,sf _ _ hq,hd.same sm⟩
 | _=>exact h
def K3.tup {ds:List My}(h:K3 K fp B H (.tuple ds) v):c8 K (hid H B) (.tuple ds) v:=by obtain⟨a,xs,e,hq,hd⟩:=h;simp only[c8];exact⟨a,xs,e,hq,hd⟩
def BOk (H:Hp)(B:List RD):Prop:=∀b∈B,∃o,H b=some o
def BOk.nin (h:BOk H B){p:RD}(hp:H p=none):p ∉ B:=λz=>by obtain⟨o,e⟩:=h p z;rw[hp]at e;cases e
def R4 {p:RD}{ds:List My}{xs:List V}(bk:BOk H B)(hp:H p=none)(h:b7 K (hid H B) ds xs):c8 K (hid (upd H p (.tup xs)) B) (.tuple ds) (.ref p):=by have e:l6 (hid H B) (hid (upd H p (.tup xs)) B):=(Kp.upd (fp:=[]) hp).hid (by simp);refine c8.tup ?_ (h.same e);rw[u3 (bk.nin hp)];exact k8
def K7 {p:RD}{ds:List My}{xs:List V}(bk:BOk H B)(hp:H p=none)(h:b7 K (hid H B) ds xs):c8 K (hid (upd H p (.lst xs)) B) (.list ds) (.ref p):=by have e:l6 (hid H B) (hid (upd H p (.lst xs)) B):=(Kp.upd (fp:=[]) hp).hid (by simp);refine c8.lst ?_ (h.same e);rw[u3 (bk.nin hp)];exact k8
end
def NoT (o:HO):Prop:=(∀ps,o ≠ .tbl ps)/\∀φ,o ≠ .ext φ
class Feeds where
 S:Type
 At:RD->RD->Hp->S->Prop
 some1:∀{d c H F},At d c H F->∃o,H d=some o/\NoT o
 some2:∀{d c H F},At d c H F->∃o,H c=some o/\NoT o
 congr:∀{d c H H' F},At d c H F->H' d=H d->H' c=H c->At d c H' F
 lam:List Str
abbrev GF :=Option (RD×RD)
def tabsK (l:List Str)(K:Fg):List (Str×RD×RD):=l.filterMap λx=>(PySem.W.tabIn K x).map λp=>(x,p)
def lr (x:Str):Str:=x ++ ".<locals>." ++ "<lambda>"
def T2 (ts:List (Str×RD×RD))(H:Hp):Prop:=∀t∈ts,jd H t.2.2 (lr t.1)
def T2.congr {H:Hp}(h:T2 ts H)(e:∀b,(b∈ts.map (·.2.2)\/∃φ,H b=some (.ext φ))->H' b=H b):T2 ts H':=λt ht=>by obtain⟨ps,h1,h2,h3⟩:=h t ht;refine⟨ps,(e _ (.inl (NW ht))).trans h1,h2,λpos cv q=>?_⟩;obtain⟨c,r1,r2⟩:=h3 pos cv q;exact⟨c,r1,(e c (.inr ⟨_,r2⟩)).trans r2⟩
def T2.but {H:Hp}{d:RD}{o0:HO}(h:T2 ts H)(hd:H d=some o0)(hn:NoT o0)(kp:∀b o,H b=some o->b≠d->H' b=some o):T2 ts H':=h.congr λb hb=>by
 obtain⟨o,e,hne⟩:∃o,H b=some o/\b≠d:=by
  rcases hb with hb | ⟨φ,e⟩
  .obtain⟨t,ht,rfl⟩:=ML.1 hb;obtain⟨ps,e,_⟩:=h t ht;exact⟨_,e,λz=>by rw[z,hd]at e;exact hn.1 ps (Mg e)⟩
  .exact⟨_,e,λz=>by rw[z,hd]at e;exact hn.2 φ (Mg e)⟩
 rw[e];exact kp b o e hne
section
variable [Feeds]
def tabP (K:Fg):List RD:=(tabsK Feeds.lam K).map (·.2.2)
def p9 (K:Fg):GF->List RD
 | none=>tabP K
 | some (d,c)=>d::c::tabP K
def vc {K:Fg}{G:GF}{b:RD}(h:b∈tabP K):b∈p9 K G:=by
 cases G with
 | none=>exact h
 | some p=>exact Mc _ (Mc _ h)
abbrev FS :=Feeds.S
abbrev M (α:Type):=FS->Option (α×FS)
def ES (G:GF)(H:Hp)(F:FS):Prop:=match G with
 | none=>True
 | some (d,c)=>Feeds.At d c H F
def FAt (K:Fg)(G:GF)(H:Hp)(F:FS):Prop:=ES G H F/\T2 (tabsK Feeds.lam K) H
def FAt.bok {K:Fg}{G:GF}{H:Hp}{F:FS}(h:FAt K G H F):BOk H (p9 K G):=λb hb=>by
 have tb:b∈tabP K->∃o,H b=some o:=λz=>by obtain⟨t,ht,rfl⟩:=ML.1 z;obtain⟨ps,h1,_⟩:=h.2 t ht;exact⟨_,h1⟩
 cases G with
 | none=>exact tb hb
 | some p =>
  obtain⟨d,c⟩:=p;simp only[p9,Mi]at hb;rcases hb with rfl | rfl | hb
  .obtain⟨o,e,_⟩:=Feeds.some1 h.1;exact⟨o,e⟩
  .obtain⟨o,e,_⟩:=Feeds.some2 h.1;exact⟨o,e⟩
  .exact tb hb
def FAt.congr {K:Fg}{G:GF}{H:Hp}{F:FS}(h:FAt K G H F)(e:∀b,(b∈p9 K G\/∃φ,H b=some (.ext φ))->H' b=H b):FAt K G H' F:=by
 refine⟨?_,h.2.congr λb hb=>e b (hb.imp vc id)⟩;cases G with
 | none=>trivial
 | some p =>obtain⟨d,c⟩:=p;exact Feeds.congr h.1 (e d (.inl (by simp[p9]))) (e c (.inl (by simp[p9])))
def FAt.same {K:Fg}{G:GF}{H:Hp}{F:FS}(h:FAt K G H F)(s:l6 H H'):FAt K G H' F:=h.congr λb hb=>by
 rcases hb with hb | ⟨φ,e⟩
 .obtain⟨o,e⟩:=h.bok b hb;rw[e];exact s b o e
 .rw[e];exact s b _ e
inductive DV where
 | dat (d:My) | feed | own (ds:List My) | fn (x:Str) | adr (a:RD) | dic (w:Bool) (c:Nat) (ps:List (My×My))
def DV.ow:DV->Bool
 | .own _=>true
 | .dic _ _ _=>true
 | _=>false
def A4:Nat->NKey
 | 0=>aO
 | 1=>jI
 | _+2=>Y1
def O6:(c:Nat)->My->Option (A4 c).K
 | 0=>zI
 | 1=>oW
 | _+2=>As
def KVs (K:Fg)(H:Hp)(c:Nat):List (My×My)->List ((A4 c).K×RD×V)->Prop
 | [],xs=>xs=[]
 | p::ps,xs=>∃k b v r,xs=(k,b,v)::r/\O6 c p.1=some k/\c8 K H p.1 (.ref b)/\c8 K H p.2 v/\KVs K H c ps r
theorem KVs.same {K:Fg}{H H':Hp}{c:Nat}(s:l6 H H'):∀{ps:List (My×My)} {xs:List ((A4 c).K×RD×V)},KVs K H c ps xs->KVs K H' c ps xs
 | [],_,h=>h
 | _::_,_,⟨k,b,v,r,e,h1,h2,h3,h4⟩=>⟨k,b,v,r,e,h1,h2.same s,h3.same s,h4.same s⟩
abbrev DE :=List (Option DV)
def DVr (K:Fg)(G:GF)(B:List RD)(H:Hp):DV->V->Prop
 | .dat d,v=>c8 K (hid H B) d v
 | .feed,v=>∃d c,G=some (d,c)/\v = .ref d
 | .fn x,v=>∃a,v = .ref a/\PySem.W.nsIn K RU x=some (some (.ref a))
 | .adr a,v=>v = .ref a
 | .dic _ c ps,v=>∃a xs,v = .ref a/\a∈B/\a ∉ p9 K G/\H a=some (.ext (NDi (A4 c) a xs))/\(∃h,NDi (A4 c) a xs h)/\KVs K (hid H B) c ps xs
 | .own ds,v=>∃a xs,v = .ref a/\a∈B/\a ∉ p9 K G/\H a=some (.lst xs)/\b7 K (hid H B) ds xs
structure SitE (K:Fg) (G:GF) (B:List RD) (E:DE) (F:FS) (O:St) (H:Hp):Prop where
 fd:FAt K G H F
 fB:∀b∈p9 K G,b∈B
 bk:BOk H B
 ln:E.length = O.length
 loc:∀(i:Nat) (x:DV),E[i]? = some (some x)->∃v,O[i]? = some (some v)/\DVr K G B H x v
section
variable {K:Fg}{G:GF}{B:List RD}{E:DE}{F F':FS}{O:St}{H:Hp}
def A2 (bk:BOk H B)(k:Kp (p9 K G) H H')(f:FAt K G H' F'):BOk H' B:=λb hb=>by
 by_cases h:b∈p9 K G
 .exact f.bok b h
 .obtain⟨o,e⟩:=bk b hb;exact⟨o,k b o e h⟩
def DVr.step {x:DV}{v:V}(h:DVr K G B H x v)(k:Kp (p9 K G) H H')(fB:∀b∈p9 K G,b∈B):DVr K G B H' x v:=by
 cases x with
 | dat d=>exact c8.same (h:c8 _ _ _ _) (k.hid fB)
 | feed=>exact h
 | fn _=>exact h
 | adr _=>exact h
 | own ds =>obtain⟨a,xs,e,hB,hf,ha,hd⟩:=h;exact⟨a,xs,e,hB,hf,k a _ ha hf,hd.same (k.hid fB)⟩
 | dic w c ps =>obtain⟨a,xs,e,hB,hf,ha,hn,hd⟩:=h;exact⟨a,xs,e,hB,hf,k a _ ha hf,hn,hd.same (k.hid fB)⟩
def SitE.step (I:SitE K G B E F O H)(k:Kp (p9 K G) H H')(f:FAt K G H' F'):SitE K G B E F' O H' :=
 ⟨f,I.fB,A2 I.bk k f,I.ln,λi x e=>by obtain⟨v,h1,h2⟩:=I.loc i x e;exact⟨v,h1,h2.step k I.fB⟩⟩
end
end
end
variable {te:TE}{pos:Pos}{rest:List RL}
section
section
variable [Feeds]
def TEd (K:Fg)(te:TE)(m:DE->M My):Prop:=∀(G:GF) (B:List RD) (E:DE) (F:FS) (O:St) (H:Hp) (Q:VK) (d:My) (F':FS),SitE K G B E F O H->m E F=some (d,F') ->
 (∀v H',Kp (p9 K G) H H'->FAt K G H' F'->c8 K (hid H' B) d v->Q v H')->te O H Q
def TEs (K:Fg)(te:TE)(m:DE->M My):Prop:=∀(G:GF) (B:List RD) (E:DE) (F:FS) (O:St) (H:Hp) (Q:VK) (d:My) (F':FS),SitE K G B E F O H->m E F=some (d,F') ->
 (∀v H',Kp (p9 K G) H H'->FAt K G H' F'->K3 K (p9 K G) B H' d v->Q v H')->te O H Q
def TEd.sh {K:Fg}{m:DE->M My}(h:TEd K te m):TEs K te m:=λG B E F O H Q d F' I e q=>h G B E F O H Q d F' I e λv H' k f hd=>q v H' k f (zJ hd I.fB)
def TTd (K:Fg)(tt:TT)(m:DE->M Bool):Prop:=∀(G:GF) (B:List RD) (E:DE) (F:FS) (O:St) (H:Hp) (Q:Bool->Hp->Prop) (b:Bool) (F':FS),SitE K G B E F O H->m E F=some (b,F') ->
 (∀H',Kp (p9 K G) H H'->FAt K G H' F'->Q b H')->tt O H Q
def TAd (K:Fg)(ta:TA)(m:DE->M (List My)):Prop:=∀(G:GF) (B:List RD) (E:DE) (F:FS) (O:St) (H:Hp) (Q:List V->Hp->Prop) (ds:List My) (F':FS),SitE K G B E F O H->m E F=some (ds,F') ->
 (∀vs H',Kp (p9 K G) H H'->FAt K G H' F'->b7 K (hid H' B) ds vs->Q vs H')->ta O H Q
def fQ (K:Fg)(fp B:List RD)(H:Hp):List My->List V->Prop
 | [],vs=>vs=[]
 | d::ds,vs=>∃v r,vs=v::r/\K3 K fp B H d v/\fQ K fp B H ds r
def TAs (K:Fg)(ta:TA)(m:DE->M (List My)):Prop:=∀(G:GF) (B:List RD) (E:DE) (F:FS) (O:St) (H:Hp) (Q:List V->Hp->Prop) (ds:List My) (F':FS),SitE K G B E F O H->m E F=some (ds,F') ->
 (∀vs H',Kp (p9 K G) H H'->FAt K G H' F'->fQ K (p9 K G) B H' ds vs->Q vs H')->ta O H Q
structure Ev (K:Fg) (X:Cx) (e:RL) (te:TE) (m:DE->M My):Prop where
 pe:PE X e te
 ok:TEd K te m
structure Eb (K:Fg) (X:Cx) (e:RL) (te:TE) (m:DE->M My):Prop where
 pe:PE X e te
 ok:TEs K te m
structure Et (K:Fg) (X:Cx) (e:RL) (tt:TT) (m:DE->M Bool):Prop where
 pt:PT X e tt
 ok:TTd K tt m
structure Ew (K:Fg) (X:Cx) (e:RL) (tt:TT) (m:DE->M Bool):Prop where
 pw:PW X e tt
 ok:TTd K tt m
structure Ea (K:Fg) (X:Cx) (es:List RL) (ta:TA) (m:DE->M (List My)):Prop where
 pa:PA X es ta
 ok:TAd K ta m
structure Es (K:Fg) (X:Cx) (es:List RL) (ta:TA) (m:DE->M (List My)):Prop where
 pa:PA X es ta
 ok:TAs K ta m
variable {K:Fg}{X:Cx}{a b c e:RL}{es:List RL}{ta tb tc:TE}{ma mb mc m:DE->M My}
def Ev.bw (h:Ev K X e te m):Eb K X e te m:=⟨h.pe,h.ok.sh⟩
noncomputable def sC (d:My):DE->M My:=λ_ F=>some (d,F)
noncomputable def sV (i:Nat):DE->M My:=λE F=>match E[i]? with
 | some (some (.dat d))=>some (d,F)
 | _=>none
noncomputable def sW (i:Nat):DE->M My:=λE F=>match E[i]? with
 | some (some (.dat d))=>some (d,F)
 | some (some (.own ds))=>some (.list ds,F)
 | _=>none
def xQ {d:My}{v:V}(h:∀H,c8 K H d v):TEd K (tC v) (sC d):=λG B E F O H Q d' F' I e q=>by cases e;exact q v H Kp.refl I.fd (h _)
def i4 {i j}:Ev K X (.Constant (.int i) j pos) (tC (.int i)) (sC (.int i)):=⟨A7,xQ λ_=>c8.int⟩
def hZ {x j}:Ev K X (.Constant (.bool x) j pos) (tC (.bl x)) (sC (.bool x)):=⟨Dl,xQ λ_=>c8.bl⟩
def fY {j}:Ev K X (.Constant .none j pos) (tC .non) (sC .none):=⟨Bo,xQ λ_=>c8.non⟩
def Z0 {x j}:Ev K X (.Constant (.str x) j pos) (tC (.str x)) (sC (.str x)):=⟨J5,xQ λ_=>c8.st⟩
def CZ (i:Nat):TEd K (cF i) (sV i):=λG B E F O H Q d F' I e q=>by
 unfold sV at e;split at e
 .rename_i x hx;cases e;obtain⟨v,h1,h2⟩:=I.loc i _ hx;exact⟨v,h1,q v H Kp.refl I.fd h2⟩
 .cases e
def Ej (i:Nat):TEs K (cF i) (sW i):=λG B E F O H Q d F' I e q=>by
 unfold sW at e;split at e
 .rename_i x hx;cases e;obtain⟨v,h1,h2⟩:=I.loc i _ hx;exact⟨v,h1,q v H Kp.refl I.fd (zJ h2 I.fB)⟩
 .rename_i x hx;cases e;obtain⟨v,h1,h2⟩:=I.loc i _ hx;refine⟨v,h1,q v H Kp.refl I.fd ?_⟩;obtain⟨p,xs,rfl,hB,hf,hp,hd⟩:=h2;exact⟨p,xs,rfl,by rw[u3 hf];exact hp,hd⟩
 .cases e
def f7 (i:Nat){x:Str}(hN:X.N[i]? = some x:=by rfl)(hv:Vis X.env.scope x:=by walk_at "v")(hd:(x == ("__debug__":Str))=false:=by decide)
  (hcd:(x == ("__classdict__":Str))=false:=by decide):Ev K X (.Name x pos) (cF i) (sV i):=⟨W0 hN hv hd hcd,CZ i⟩
def h8 (i:Nat){x:Str}(hN:X.N[i]? = some x:=by rfl)(hv:Vis X.env.scope x:=by walk_at "v")(hd:(x == ("__debug__":Str))=false:=by decide)
  (hcd:(x == ("__classdict__":Str))=false:=by decide):Eb K X (.Name x pos) (cF i) (sW i):=⟨W0 hN hv hd hcd,Ej i⟩
def rD1 (K:Fg)(f:My->Option My):V->Hp->VK->Prop:=λx H Q=>∃fp B d r,BOk H B/\K3 K fp B H d x/\f d=some r/\∀v H',l6 H H'->c8 K (hid H' B) r v->Q v H'
def rD2 (K:Fg)(f:My->My->Option My):R2:=λx y H Q=>∃fp B d e r,BOk H B/\K3 K fp B H d x/\K3 K fp B H e y/\f d e=some r/\∀v H',l6 H H'->c8 K (hid H' B) r v->Q v H'
def rDN (K:Fg)(f:List My->Option My):List V->Hp->VK->Prop:=λxs H Q=>∃fp B ds r,BOk H B/\fQ K fp B H ds xs/\f ds=some r/\∀v H',l6 H H'->c8 K (hid H' B) r v->Q v H'
noncomputable def s1 (f:My->Option My)(a:DE->M My):DE->M My:=λE F=>(a E F).bind λp=>(f p.1).bind λz=>some (z,p.2)
noncomputable def s2 (f:My->My->Option My)(a b:DE->M My):DE->M My:=λE F=>(a E F).bind λp=>(b E p.2).bind λq=>(f p.1 q.1).bind λz=>some (z,q.2)
noncomputable def sN (f:List My->Option My)(a:DE->M (List My)):DE->M My:=λE F=>(a E F).bind λp=>(f p.1).bind λz=>some (z,p.2)
def Aw {f:My->Option My}(ha:TEs K ta ma):TEd K (tUn (rD1 K f) ta) (s1 f ma):=λG B E F O H Q d F' I e q=>by obtain⟨⟨x,F1⟩,e1,e⟩:=bS9 e;obtain⟨z,e2,e⟩:=bS9 e;cases e;refine ha G B E F O H _ x F1 I e1 λv H1 k1 f1 h1=>⟨p9 K G,B,x,_,A2 I.bk k1 f1,h1,e2,λw H2 s hw=>q w H2 (k1.trans (Kp.same s)) (f1.same s) hw⟩
def qx {f:My->My->Option My}(ha:TEs K ta ma)(hb:TEs K tb mb):TEd K (tOp (rD2 K f) ta tb) (s2 f ma mb):=λG B E F O H Q d F' I e q=>by
 obtain⟨⟨x,F1⟩,e1,e⟩:=bS9 e;obtain⟨⟨y,F2⟩,e2,e⟩:=bS9 e;obtain⟨z,e3,e⟩:=bS9 e;cases e;refine ha G B E F O H _ x F1 I e1 λv H1 k1 f1 h1=>?_
 refine hb G B E F1 O H1 _ y F2 (I.step k1 f1) e2 λw H2 k2 f2 h2=>⟨p9 K G,B,x,y,_,A2 I.bk (k1.trans k2) f2,h1.step k2 I.fB,h2,e3,λu H3 s hu=>q u H3 ((k1.trans k2).trans (Kp.same s)) (f2.same s) hu⟩
def Au {f:List My->Option My}{t:TA}{ms:DE->M (List My)}(ha:TAs K t ms):TEd K (tCB (rDN K f) t) (sN f ms):=λG B E F O H Q d F' I e q=>by obtain⟨⟨x,F1⟩,e1,e⟩:=bS9 e;obtain⟨z,e2,e⟩:=bS9 e;cases e;exact ha G B E F O H _ x F1 I e1 λvs H1 k1 f1 h1=>⟨p9 K G,B,x,_,A2 I.bk k1 f1,h1,e2,λw H2 s hw=>q w H2 (k1.trans (Kp.same s)) (f1.same s) hw⟩
def u5 {op:Operator}{f:My->My->Option My}(ho:OpR X (binaryOp op) (rD2 K f))(ha:Eb K X a ta ma)(hb:Eb K X b tb mb):Ev K X (.BinOp a op b pos) (tOp (rD2 K f) ta tb) (s2 f ma mb):=⟨G4 ho ha.pe hb.pe,qx ha.ok hb.ok⟩
def Dv {op:UnaryOp}{f:My->Option My}(ho:UnR X (unaryOp op) (rD1 K f))(ha:Eb K X a ta ma):Ev K X (.UnaryOp op a pos) (tUn (rD1 K f) ta) (s1 f ma):=⟨xb ho ha.pe,Aw ha.ok⟩
def Y4 {op:CmpOp}{f:My->My->Option My}(ho:OpR X (compareOp op) (rD2 K f))(ha:Eb K X a ta ma)(hb:Eb K X b tb mb)(hm:behindInMarks op b=false:=by first | exact dZ _ | rfl):Ev K X (.Compare a [op] [b] pos) (tOp (rD2 K f) ta tb) (s2 f ma mb):=⟨xZ ho ha.pe hb.pe hm,qx ha.ok hb.ok⟩
def x4 {f:My->My->Option My}(hr:IxR X (rD2 K f))(ha:Eb K X a ta ma)(hb:Eb K X b tb mb)(hs:qM b:=by intro _ _;rfl):Ev K X (.Subscript a b pos) (tOp (rD2 K f) ta tb) (s2 f ma mb):=⟨zS hr ha.pe hb.pe hs,qx ha.ok hb.ok⟩
def k9 {f:List My->Option My}{id:String}{x:Str}{p:Pos}{t:TA}{ms:DE->M (List My)}(hc:A8 X (.builtin id) (rDN K f))(hm:X.mg x=none)(hv:RX x=some (.builtin id))(ha:Es K X (e::es) t ms)(hg:Gl X x:=by rfl)(hn:x ≠ "__name__":=by decide)(hdb:(x == ("__debug__":Str))=false:=by decide)
  (he:RO (e::es) X.env=(false,eval e X.env)::RO es X.env:=by rfl) (hpl:(RR pos (RO es X.env)).any (·.1)=false:=by rfl):Ev K X (.Call (.Name x p) (e::es) [] pos) (tCB (rDN K f) t) (sN f ms):=⟨hX hc hg hm hv ha.pa hn hdb he hpl,Au ha.ok⟩
def J8 {f:List My->Option My}{T:String}{x:Str}{p:Pos}{t:TA}{ms:DE->M (List My)}(hc:A8 X (.type T) (rDN K f))(hm:X.mg x=none)(hv:RX x=some (.type T))(ha:Es K X (e::es) t ms)(hg:Gl X x:=by rfl)(hn:x ≠ "__name__":=by decide)(hdb:(x == ("__debug__":Str))=false:=by decide)
  (he:RO (e::es) X.env=(false,eval e X.env)::RO es X.env:=by rfl) (hpl:(RR pos (RO es X.env)).any (·.1)=false:=by rfl):Ev K X (.Call (.Name x p) (e::es) [] pos) (tCB (rDN K f) t) (sN f ms):=⟨X1 hc hg hm hv ha.pa hn hdb he hpl,Au ha.ok⟩
noncomputable def j6 :DE->M (List My):=λ_ F=>some ([],F)
noncomputable def c7 (a:DE->M My)(r:DE->M (List My)):DE->M (List My):=λE F=>(a E F).bind λp=>(r E p.2).bind λq=>some (p.1::q.1,q.2)
def l3 :Ea K X [] bY j6:=⟨J6,λG B E F O H Q ds F' I e q=>by cases e;exact q [] H Kp.refl I.fd b7.nil⟩
def d0 {t:TA}{ms:DE->M (List My)}(ha:Ev K X e te m)(hr:Ea K X es t ms)(hs:RO (e::es) X.env=(false,eval e X.env)::RO es X.env:=by rfl):Ea K X (e::es) (N8 te t) (c7 m ms) :=
 ⟨A3 ha.pe hr.pa hs,λG B E F O H Q ds F' I e q=>by
  walk_at "ky"
  refine hr.ok G B E F1 O H1 _ ys F2 (I.step k1 f1) e2 λvs H2 k2 f2 h2=>q _ H2 (k1.trans k2) f2 (.cons (h1.same (k2.hid I.fB)) h2)⟩
def m7 :Es K X [] bY j6:=⟨J6,λG B E F O H Q ds F' I e q=>by cases e;exact q [] H Kp.refl I.fd rfl⟩
def j7 {t:TA}{ms:DE->M (List My)}(ha:Eb K X e te m)(hr:Es K X es t ms)(hs:RO (e::es) X.env=(false,eval e X.env)::RO es X.env:=by rfl):Es K X (e::es) (N8 te t) (c7 m ms) :=
 ⟨A3 ha.pe hr.pa hs,λG B E F O H Q ds F' I e q=>by
  walk_at "ky"
  refine hr.ok G B E F1 O H1 _ ys F2 (I.step k1 f1) e2 λvs H2 k2 f2 h2=>q _ H2 (k1.trans k2) f2 ⟨v,vs,rfl,h1.step k2 I.fB,h2⟩⟩
noncomputable def E8 (a:DE->M (List My)):DE->M My:=λE F=>(a E F).bind λp=>if p.1.length<=RN then some (.tuple p.1,p.2) else none
noncomputable def rW (a:DE->M (List My)):DE->M My:=λE F=>(a E F).bind λp=>if p.1.length<=RN then some (.list p.1,p.2) else none
def x9 {k}{t:TA}{ms:DE->M (List My)}(h:Ea K X es t ms):Ev K X (.Tuple es k pos) (Bq t) (E8 ms):=⟨uZ h.pa,λG B E F O H Q d F' I e q=>by
 obtain⟨⟨x,F1⟩,e1,e⟩:=bS9 e;split at e
 .rename_i hl;cases e;refine h.ok G B E F O H _ x F1 I e1 λvs H1 k1 f1 h1=>⟨by rw[h1.length];exact hl,λp hp=>q _ _ (k1.trans (Kp.upd hp)) (f1.same (l6.upd hp)) (R4 (A2 I.bk k1 f1) hp h1)⟩
 .cases e⟩
def pA {t:TA}{ms:DE->M (List My)}(h:Ea K X es t ms):Ev K X (.List es pos) (zp t) (rW ms):=⟨jH h.pa,λG B E F O H Q d F' I e q=>by
 obtain⟨⟨x,F1⟩,e1,e⟩:=bS9 e;split at e
 .rename_i hl;cases e;refine h.ok G B E F O H _ x F1 I e1 λvs H1 k1 f1 h1=>⟨by rw[h1.length];exact hl,λp hp=>q _ _ (k1.trans (Kp.upd hp)) (f1.same (l6.upd hp)) (K7 (A2 I.bk k1 f1) hp h1)⟩
 .cases e⟩
def V8:My->Option Bool
 | .bool b=>some b
 | _=>none
def U8 {d:My}{b:Bool}(h:V8 d=some b):d = .bool b:=by cases d <;> simp[V8]at h;rw[h]
def sE (a b:DE->M My):DE->M My:=λE F=>(a E F).bind λp=>(V8 p.1).bind λc=>if c=true then b E p.2 else some (.bool false,p.2)
def sOr (a b:DE->M My):DE->M My:=λE F=>(a E F).bind λp=>(V8 p.1).bind λc=>if c=true then some (.bool true,p.2) else b E p.2
def xV (a:DE->M My):DE->M My:=λE F=>(a E F).bind λp=>(V8 p.1).bind λc=>some (.bool (!c),p.2)
def nQ {op}(h:Ev K X a te m):Ev K X (.BoolOp op [a] pos) te m:=⟨BK h.pe,h.ok⟩
def xp (ha:Ev K X a ta ma)(hb:Ev K X (.BoolOp .And (b::rest) pos) tb mb):Ev K X (.BoolOp .And (a::b::rest) pos) (zG ta tb) (sE ma mb):=⟨AQ ha.pe hb.pe,λG B E F O H Q d F' I e q=>by
 walk_at "kab";walk_at "kp"
 have:=U8 e2;simp only at this;subst this;simp only[c8]at h1;refine⟨c,h1,?_⟩;cases c with
 | true=>exact hb.ok G B E F1 O H1 _ d F' (I.step k1 f1) e λw H2 k2 f2 h2=>q w H2 (k1.trans k2) f2 h2
 | false=>cases e;exact q _ H1 k1 f1 c8.bl⟩
def CV (ha:Ev K X a ta ma)(hb:Ev K X (.BoolOp .Or (b::rest) pos) tb mb):Ev K X (.BoolOp .Or (a::b::rest) pos) (DQ ta tb) (sOr ma mb):=⟨CD ha.pe hb.pe,λG B E F O H Q d F' I e q=>by
 walk_at "kab";walk_at "kp"
 have:=U8 e2;simp only at this;subst this;simp only[c8]at h1;refine⟨c,h1,?_⟩;cases c with
 | false=>exact hb.ok G B E F1 O H1 _ d F' (I.step k1 f1) e λw H2 k2 f2 h2=>q w H2 (k1.trans k2) f2 h2
 | true=>cases e;exact q _ H1 k1 f1 c8.bl⟩
def Cg (ha:Ev K X a ta ma):Ev K X (.UnaryOp .Not a pos) (Ae ta) (xV ma):=⟨AD ha.pe,λG B E F O H Q d F' I e q=>by
 walk_at "kab";cases e;walk_at "kp"
 have:=U8 e2;simp only at this;subst this;simp only[c8]at h1;exact⟨_,h1,q _ H1 k1 f1 c8.bl⟩⟩
noncomputable def sIf (c:DE->M Bool)(a b:DE->M My):DE->M My:=λE F=>(c E F).bind λp=>if p.1=true then a E p.2 else b E p.2
def zR {tt:TT}{mt:DE->M Bool}(hc:Et K X c tt mt)(ha:Ev K X a ta ma)(hb:Ev K X b tb mb):Ev K X (.IfExp c a b pos) (tIf tt ta tb) (sIf mt ma mb):=⟨mF hc.pt ha.pe hb.pe,λG B E F O H Q d F' I e q=>by
 obtain⟨⟨x,F1⟩,e1,e⟩:=bS9 e;refine hc.ok G B E F O H _ x F1 I e1 λH1 k1 f1=>?_
 cases x with
 | true=>exact ha.ok G B E F1 O H1 _ d F' (I.step k1 f1) e λw H2 k2 f2 h2=>q w H2 (k1.trans k2) f2 h2
 | false=>exact hb.ok G B E F1 O H1 _ d F' (I.step k1 f1) e λw H2 k2 f2 h2=>q w H2 (k1.trans k2) f2 h2⟩
variable {tA tB:TT}{na nb:DE->M Bool}
def uB (a:DE->M My):DE->M Bool:=λE F=>(a E F).bind λp=>(V8 p.1).bind λc=>some (c,p.2)
noncomputable def uU (a b:DE->M Bool):DE->M Bool:=λE F=>(a E F).bind λp=>if p.1=true then b E p.2 else some (false,p.2)
noncomputable def uOr (a b:DE->M Bool):DE->M Bool:=λE F=>(a E F).bind λp=>if p.1=true then some (true,p.2) else b E p.2
def A1 {op:CmpOp}{f:My->My->Option My}(ho:OpR X (compareOp op) (rD2 K f))(ha:Eb K X a ta ma)(hb:Eb K X b tb mb)(hm:behindInMarks op b=false:=by first | exact dZ _ | rfl):Et K X (.Compare a [op] [b] pos) (Ag (tOp (rD2 K f) ta tb)) (uB (s2 f ma mb)) :=
 ⟨dg ho ha.pe hb.pe hm,λG B E F O H Q d F' I e q=>by
  walk_at "kab";cases e;refine qx ha.ok hb.ok G B E F O H _ x F1 I e1 λv H1 k1 f1 h1=>?_
  have:=U8 e2;simp only at this;subst this;simp only[c8]at h1;exact⟨_,h1,q H1 k1 f1⟩⟩
def zo (ha:Et K X a tA na):Ew K X (.BoolOp .And [a] pos) tA na:=⟨pS ha.pt,ha.ok⟩
def oF (ha:Et K X a tA na):Ew K X (.BoolOp .Or [a] pos) tA na:=⟨Cm ha.pt,ha.ok⟩
def Be (ha:Et K X a tA na)(hb:Ew K X (.BoolOp .And (b::rest) pos) tB nb):Ew K X (.BoolOp .And (a::b::rest) pos) (Ee tA tB) (uU na nb):=⟨wK ha.pt hb.pw,λG B E F O H Q d F' I e q=>by
 obtain⟨⟨x,F1⟩,e1,e⟩:=bS9 e;refine ha.ok G B E F O H _ x F1 I e1 λH1 k1 f1=>?_
 cases x with
 | true=>exact hb.ok G B E F1 O H1 _ d F' (I.step k1 f1) e λH2 k2 f2=>q H2 (k1.trans k2) f2
 | false=>cases e;exact q H1 k1 f1⟩
def uR (ha:Et K X a tA na)(hb:Ew K X (.BoolOp .Or (b::rest) pos) tB nb):Ew K X (.BoolOp .Or (a::b::rest) pos) (tOr tA tB) (uOr na nb):=⟨Di ha.pt hb.pw,λG B E F O H Q d F' I e q=>by
 obtain⟨⟨x,F1⟩,e1,e⟩:=bS9 e;refine ha.ok G B E F O H _ x F1 I e1 λH1 k1 f1=>?_
 cases x with
 | false=>exact hb.ok G B E F1 O H1 _ d F' (I.step k1 f1) e λH2 k2 f2=>q H2 (k1.trans k2) f2
 | true=>cases e;exact q H1 k1 f1⟩
def Ew.t (h:Ew K X a tA na):Et K X a tA na:=⟨h.pw.pt,h.ok⟩
def yb:My->Option Bool
 | .none=>some false
 | .bool b=>some b
 | .int i=>some (i != 0)
 | .str x=>if x.length<=RN then some ((x.length:Int) != 0) else none
 | .tuple ds=>some (!ds.isEmpty)
 | .list ds=>some (!ds.isEmpty)
 | .dict _=>none
def uT (a:DE->M My):DE->M Bool:=λE F=>(a E F).bind λp=>(yb p.1).bind λc=>some (c,p.2)
def cS {H:Hp}{ds:List My}{xs:List V}(h:b7 K H ds xs):xs.isEmpty=ds.isEmpty:=by
 cases ds with
 | nil=>simp only[b7]at h;subst h;rfl
 | cons d r=>simp only[b7]at h;obtain⟨x,r,rfl,_⟩:=h;rfl
def BO {B:List RD}{H:Hp}{d:My}{v:V}{c:Bool}(h:K3 K fp B H d v)(e:yb d=some c):uL K v H c:=by
 cases d with
 | none=>cases h;cases e;rfl
 | bool b=>cases h;cases e;rfl
 | int i=>cases h;cases e;rfl
 | str x =>
  cases h;simp only[yb]at e;split at e
  .rename_i hl;cases e;exact⟨hl,rfl⟩
  .cases e
 | tuple ds =>obtain⟨p,xs,rfl,hq,hd⟩:=h;cases e;exact .inr (.inl ⟨xs,hq.same f8,by rw[cS hd]⟩)
 | list ds =>obtain⟨p,xs,rfl,hq,hd⟩:=h;cases e;exact .inl ⟨xs,SqL.of (f8 _ _ hq),by rw[cS hd]⟩
 | dict Sj=>exact(show False from h).elim
def pP (ha:Eb K X a ta ma)(hK:X.K=K:=by rfl)(he:∀whole,isTrue a X.env whole=(do let v <-whole;standAt a.pos;holding [v] (truthy v)):=by intro _;rfl) :
  Et K X a (λO H Q=>ta O H λx H'=>∃k,uL K x H' k/\Q k H') (uT ma):=⟨sX hK ha.pe he,λG B E F O H Q d F' I e q=>by obtain⟨⟨x,F1⟩,e1,e⟩:=bS9 e;obtain⟨c,e2,e⟩:=bS9 e;cases e;exact ha.ok G B E F O H _ x F1 I e1 λv H1 k1 f1 h1=>⟨_,BO h1 e2,q H1 k1 f1⟩⟩
end
end
variable {C:Int->Int->Prop}
section
section
variable {K:Fg}{X:Cx}
def bS {B:List RD}{H:Hp}{ds:List My}{d:My}{vs:List V}(h:fQ K fp B H ds vs)(e:ds=[d]):∃v,vs=[v]/\K3 K fp B H d v:=by subst e;obtain⟨v,r,rfl,h1,h2⟩:=h;cases h2;exact⟨v,rfl,h1⟩
def ED {B:List RD}{H:Hp}{ds:List My}{d e:My}{vs:List V}(h:fQ K fp B H ds vs)(eq:ds=[d,e]):∃v w,vs=[v,w]/\K3 K fp B H d v/\K3 K fp B H e w:=by subst eq;obtain⟨v,r,rfl,h1,w,r2,rfl,h2,h3⟩:=h;cases h3;exact⟨v,w,rfl,h1,h2⟩
def i2 (C:Int->Int->Prop)[∀i j,Decidable (C i j)](g:Int->Int->My):My->My->Option My
 | .int i,.int j=>if C i j then some (g i j) else none
 | _,_=>none
def qU [∀i j,Decidable (C i j)]{g:Int->Int->My}{d e r:My}(h:i2 C g d e=some r):∃i j,d = .int i/\e = .int j/\C i j/\r=g i j:=by
 cases d <;> cases e <;> simp only[i2]at h <;> try cases h
 split at h
 .rename_i hc;cases h;exact⟨_,_,rfl,rfl,hc,rfl⟩
 .cases h
def zP {f:RC->RC->Sem RC}[∀i j,Decidable (C i j)]{g:Int->Int->V}{gd:Int->Int->My}(ho:OpR X f (rI C g))(hg:∀H i j,c8 K H (gd i j) (g i j)):OpR X f (rD2 K (i2 C gd)):=by intro vv s O H x y v u Q I rx ry h;obtain⟨fp,B,d,e,r,bk,h1,h2,hf,q⟩:=h;obtain⟨i,j,rfl,rfl,hc,rfl⟩:=qU hf;cases h1;cases h2;exact ho vv s O H _ _ v u Q I rx ry ⟨i,j,rfl,rfl,hc,q _ H (l6.refl H) (hg _ i j)⟩
def oR {f:RC->RC->Sem RC}{g:Int->Int->V}{gd:Int->Int->My}(ho:OpR X f (rI0 g))(hg:∀H i j,c8 K H (gd i j) (g i j)):OpR X f (rD2 K (i2 (λ_ _=>True) gd)):=by intro vv s O H x y v u Q I rx ry h;obtain⟨fp,B,d,e,r,bk,h1,h2,hf,q⟩:=h;obtain⟨i,j,rfl,rfl,hc,rfl⟩:=qU hf;cases h1;cases h2;exact ho vv s O H _ _ v u Q I rx ry ⟨i,j,rfl,rfl,q _ H (l6.refl H) (hg _ i j)⟩
abbrev cw :=i2 (λ_ _=>True) λi j=>.int (i-j)
def W3 :OpR X (binaryOp .Sub) (rD2 K cw):=oR AO λ_ _ _=>c8.int
instance:∀i j,Decidable (yw i j):=λi j=>inferInstanceAs (Decidable (_/\_/\_))
instance:∀i j,Decidable (rJ i j):=λi j=>inferInstanceAs (Decidable ((_/\_)\/(_/\_)))
abbrev yV :=i2 (λ_ j=>0<j) λi j=>.int (i % j)
def wd :OpR X (binaryOp .Mod) (rD2 K yV):=zP aA λ_ _ _=>c8.int
def uk (i j:Int):Prop:=j≠0/\j.natAbs<2 ^ 9000
instance {i j:Int}:Decidable (uk i j):=inferInstanceAs (Decidable (_/\_))
@[irreducible] def gE:Nat:=2 ^ 400000
def qI :gE=2 ^ 400000:=by unfold gE;rfl
def yr {n:Nat}(h:n<=400000):2 ^ n<=gE:=by rw[qI];exact NQ (by decide) h
def Big (i j:Int):Prop:=rJ i j\/(i.natAbs<gE/\j.natAbs<gE)
instance {i j:Int}:Decidable (Big i j):=inferInstanceAs (Decidable (_\/_))
def qH {n:Nat}{i:Int}(h:i.natAbs<2 ^ n):Builtin.Int.intBits i<=n:=by
 unfold Builtin.Int.intBits;split
 .exact Nj _
 .rename_i h0;have h0:i.natAbs≠0:=λz=>h0 (by simpa using z)
  exact(RA h0).2 h
def Big.ok {i j:Int}(h:Big i j):IntMulOk i j:=by
 rcases h with h | ⟨h1,h2⟩
 .exact h.ok
 .unfold IntMulOk;have e:Builtin.Int.intTooBig ((Builtin.Int.intBits i:Int)+Builtin.Int.intBits j)=false:=by
   unfold Builtin.Int.intTooBig;rw[qI]at h1 h2;have a:=qH h1;have b:=qH h2;have c:(bitsLine:Nat)=134217728:=by decide
   refine Mw ?_;rw[c];omega
  rw[e,Bool.and_false];exact Mz
def zA :OpR X (binaryOp .Mult) (rI Big λi j=>.int (i*j)):=opI λ_ _ _ _ _ _ _ hc q=>mul_int q hc.ok
def xc :OpR X (binaryOp .FloorDiv) (rI uk λi j=>.int (i.fdiv j)):=opI λi j _ _ _ _ _ hc q=>by
 have h0:j.natAbs≠0:=λz=>hc.1 (Int.natAbs_eq_zero.1 z)
 exact floordiv_int hc.1 q (.inl (PyProof.noPylong_of_log2 ((RA h0).2 hc.2)))
abbrev dw :=i2 uk λi j=>.int (i.fdiv j)
def aY :OpR X (binaryOp .FloorDiv) (rD2 K dw):=zP xc λ_ _ _=>c8.int
abbrev ltD :=i2 (λ_ _=>True) λi j=>.bool (decide (i<j))
abbrev gtD :=i2 (λ_ _=>True) λi j=>.bool (decide (j<i))
def qC :OpR X (compareOp .Lt) (rD2 K ltD):=oR An λ_ _ _=>c8.bl
def qW :OpR X (compareOp .Gt) (rD2 K gtD):=oR Ad λ_ _ _=>c8.bl
def N4:My->My->Option My
 | .int i,.int j=>some (.int (i+j))
 | .str x,.str y=>if x.length+y.length<=RN then some (.str (x++y)) else none
 | .tuple xs,.tuple ys=>if xs.length+ys.length<=RN then some (.tuple (xs++ys)) else none
 | .list xs,.list ys=>if xs.length+ys.length<=RN then some (.list (xs++ys)) else none
 | _,_=>none
def b7.nil_of {H:Hp}{ds:List My}{xs:List V}(h:b7 K H ds xs)(e:xs=[]):ds=[]:=by subst e;exact OA.1 (by rw[<-h.length];rfl)
def E3 (hK:X.K=K):OpR X (binaryOp .Add) (rD2 K N4):=by
 walk_at "kf";cases d <;> cases e <;> simp only[N4]at hf <;> try cases hf
 .cases h1;cases h2;exact eu vv s O H _ _ v u Q I rx ry ⟨_,_,rfl,rfl,q _ H (l6.refl H) c8.int⟩
 .cases h1;cases h2;split at hf
  .rename_i hl;cases hf;exact pz vv s O H _ _ v u Q I rx ry ⟨_,_,rfl,rfl,hl,q _ H (l6.refl H) c8.st⟩
  .cases hf
 .obtain⟨a,xs,rfl,ha,hd⟩:=h1;obtain⟨b,ys,rfl,hb,he⟩:=h2;split at hf
  .rename_i hl;cases hf;refine BZ vv s O H _ _ v u Q I rx ry ⟨a,b,xs,ys,rfl,rfl,f8 _ _ ha,f8 _ _ hb,by rw[hd.length,he.length];exact hl,λp hp=>q _ _ (l6.upd hp) (K7 bk hp (b7.append he hd))⟩
  .cases hf
 .obtain⟨a,xs,rfl,ha,hd⟩:=h1;obtain⟨b,ys,rfl,hb,he⟩:=h2;split at hf
  .rename_i hl;cases hf;refine xH hK vv s O H _ _ v u Q I rx ry ⟨a,b,xs,ys,rfl,rfl,ha.same f8,hb.same f8,by rw[hd.length,he.length];exact hl,λz=>q _ H (l6.refl H) ?_,λz=>q _ H (l6.refl H) ?_,λp hp=>q _ _ (l6.upd hp) (R4 bk hp (b7.append he hd))⟩
   .cases b7.nil_of hd z;simp only[c8,ME];exact⟨b,ys,rfl,hb,he⟩
   .cases b7.nil_of he z;simp only[c8,NC];exact⟨a,xs,rfl,ha,hd⟩
  .cases hf
def Cb:My->My->Option My
 | .int i,.int j=>if Big i j then some (.int (i*j)) else none
 | .list xs,.int k=>if -(2 ^ 63)<=k/\k<2 ^ 63/\xs.length*k.toNat<=RN then some (.list (List.replicate k.toNat xs).flatten) else none
 | _,_=>none
theorem b7.rep {H:Hp}{ds:List My}{xs:List V}(h:b7 K H ds xs):∀n,b7 K H (List.replicate n ds).flatten (List.replicate n xs).flatten
 | 0=>b7.nil
 | n+1=>by rw[Og,Og,NT,NT];exact b7.append (b7.rep h n) h
def Bd :OpR X (binaryOp .Mult) (rD2 K Cb):=by
 walk_at "kf";cases d <;> cases e <;> simp only[Cb]at hf <;> try cases hf
 .cases h1;cases h2;split at hf
  .rename_i hc;cases hf;exact zA vv s O H _ _ v u Q I rx ry ⟨_,_,rfl,rfl,hc,q _ H (l6.refl H) c8.int⟩
  .cases hf
 .obtain⟨a,xs,rfl,ha,hd⟩:=h1;cases h2;split at hf
  .rename_i hc;cases hf;exact Ca vv s O H _ _ v u Q I rx ry ⟨a,_,xs,rfl,rfl,f8 _ _ ha,hc.1,hc.2.1,by rw[hd.length];exact hc.2.2,λp hp=>q _ _ (l6.upd hp) (K7 bk hp (b7.rep hd _))⟩
  .cases hf
open PySem.SeqAt in
def eqD (neg:Bool):My->My->Option My
 | .str x,.str y=>some (.bool (if neg then !decide (x=y) else decide (x=y)))
 | d,e=>if shaped d=true/\shaped e=true then some (.bool (if neg then !PyData.eqv d e else My.eqv d e)) else none
def aJ (hK:X.K=K)(hu:X.A.units+64<Sa):OpR X (compareOp .Eq) (rD2 K (eqD false)):=by
 subst hK;walk_at "kf";unfold eqD at hf;split at hf
 .cases hf;cases h1;cases h2;have z:=q _ H (l6.refl H) c8.bl;rename_i a b;have e:decide (V.str a=V.str b)=decide (a=b):=by simp
  exact CY vv s O H _ _ v u Q I rx ry ⟨rfl,by rw[e];exact z⟩
 .split at hf
  .rename_i hs;cases hf;obtain⟨as,ra⟩:=G8 I _ x v h1.dat rx;obtain⟨bs,rb⟩:=G8 I _ y u h2.dat ry;exact eq_dataH ra rb hs.1 hs.2 hu ⟨.bl _,H,I,rfl,q _ H (l6.refl H) c8.bl⟩
  .cases hf
def uW (hK:X.K=K)(hu:X.A.units+64<Sa):OpR X (compareOp .NotEq) (rD2 K (eqD true)):=by
 subst hK;walk_at "kf";unfold eqD at hf;split at hf
 .cases hf;cases h1;cases h2;have z:=q _ H (l6.refl H) c8.bl;rename_i a b;have e:decide (V.str a=V.str b)=decide (a=b):=by simp
  exact DP vv s O H _ _ v u Q I rx ry ⟨rfl,by rw[e];exact z⟩
 .split at hf
  .rename_i hs;cases hf;obtain⟨as,ra⟩:=G8 I _ x v h1.dat rx;obtain⟨bs,rb⟩:=G8 I _ y u h2.dat ry;exact ne_dataH ra rb hs.1 hs.2 hu ⟨.bl _,H,I,rfl,q _ H (l6.refl H) c8.bl⟩
  .cases hf
open PySem.SeqAt in
def inD (neg:Bool):My->My->Option My
 | d,.list xs=>if shaped (.list xs)=true/\shaped d=true then some (.bool (if neg then !(xs.any λy=>My.eqv y d) else xs.any λy=>My.eqv y d)) else none
 | d,.tuple xs=>if shaped (.tuple xs)=true/\shaped d=true then some (.bool (if neg then !(xs.any λy=>My.eqv y d) else xs.any λy=>My.eqv y d)) else none
 | _,_=>none
def jk (hK:X.K=K)(hu:X.A.units+65<Sa):OpR X (compareOp .In) (rD2 K (inD false)):=by
 subst hK;walk_at "kf";obtain⟨as,ra⟩:=G8 I _ x v h1.dat rx;obtain⟨bs,rb⟩:=G8 I _ y u h2.dat ry;cases e <;> simp only[inD]at hf <;> try cases hf
 .split at hf
  .rename_i hs;cases hf;exact PySem.SeqAt.in_list_reads rb ra (by have:=Nm hs.1;simpa only[My.canLay0] using this) (Nm hs.2) (room_in_shaped hs.2 hu) ⟨.bl _,H,I,rfl,q _ H (l6.refl H) c8.bl⟩
  .cases hf
 .split at hf
  .rename_i hs;cases hf;exact PySem.SeqAt.in_tuple_reads rb ra (by have:=Nm hs.1;simpa only[My.canLay0] using this) (Nm hs.2) (room_in_shaped hs.2 hu) ⟨.bl _,H,I,rfl,q _ H (l6.refl H) c8.bl⟩
  .cases hf
def gH (hK:X.K=K)(hu:X.A.units+65<Sa):OpR X (compareOp .NotIn) (rD2 K (inD true)):=by
 subst hK;walk_at "kf";obtain⟨as,ra⟩:=G8 I _ x v h1.dat rx;obtain⟨bs,rb⟩:=G8 I _ y u h2.dat ry;cases e <;> simp only[inD]at hf <;> try cases hf
 .split at hf
  .rename_i hs;cases hf;exact PySem.SeqAt.notIn_list_reads rb ra (by have:=Nm hs.1;simpa only[My.canLay0] using this) (Nm hs.2) (room_in_shaped hs.2 hu) ⟨.bl _,H,I,rfl,q _ H (l6.refl H) c8.bl⟩
  .cases hf
 .split at hf
  .rename_i hs;cases hf;exact PySem.SeqAt.notIn_tuple_reads rb ra (by have:=Nm hs.1;simpa only[My.canLay0] using this) (Nm hs.2) (room_in_shaped hs.2 hu) ⟨.bl _,H,I,rfl,q _ H (l6.refl H) c8.bl⟩
  .cases hf
end
end
variable {p2:Pos}
section
section
variable {K:Fg}{X:Cx}
def b7.at {H:Hp}{ds:List My}{xs:List V}{i:Int}{d:My}(h:b7 K H ds xs)(e:atI ds i=some d):∃v,atI xs i=some v/\c8 K H d v:=by
 unfold atI at e ⊢;rw[h.length];cases q:ixN ds.length i with
 | none=>rw[q]at e;cases e
 | some j =>
  rw[q]at e;have e:ds[j]? = some d:=e;obtain⟨hj,_⟩:=Mj.1 e;have hx:xs[j]? = some (xs[j]'(by rw[h.length];exact hj)):=by simp
  obtain⟨d',h1,h2⟩:=h.get hx;rw[e]at h1;cases h1;exact⟨_,hx,h2⟩
def ixD:My->My->Option My
 | .list ds,.int i=>atI ds i
 | .tuple ds,.int i=>atI ds i
 | .str x,.int i=>if x.length<=RN then(atI x.cps.toList i).map λc=>.str ⟨#[c]⟩ else none
 | _,_=>none
def x5 (hK:X.K=K):IxR X (rD2 K ixD):=by
 intro value slice vv s O H x y v u Q I rx ry h hs;obtain⟨fp,B,d,e,r,bk,h1,h2,hf,q⟩:=h;cases d <;> cases e <;> simp only[ixD]at hf <;> try cases hf
 .cases h1;cases h2;split at hf
  .rename_i hl;obtain⟨c,e1,rfl⟩:=Ms.1 hf;exact Cr value slice vv s O H _ _ v u Q I rx ry ⟨_,_,c,rfl,rfl,hl,e1,q _ H (l6.refl H) c8.st⟩ hs
  .cases hf
 .obtain⟨a,xs,rfl,ha,hd⟩:=h1;cases h2;obtain⟨w,e1,e2⟩:=b7.at hd hf;exact xf hK value slice vv s O H _ _ v u Q I rx ry ⟨a,xs,_,w,rfl,rfl,SqL.of (f8 _ _ ha),e1,q w H (l6.refl H) e2⟩ hs
 .obtain⟨a,xs,rfl,ha,hd⟩:=h1;cases h2;obtain⟨w,e1,e2⟩:=b7.at hd hf;exact yP hK value slice vv s O H _ _ v u Q I rx ry ⟨a,xs,_,w,rfl,rfl,ha.same f8,e1,q w H (l6.refl H) e2⟩ hs
def fx {α:Type}(xs:List α)(lo hi:Option Int):List α:=(xs.drop (HT.sIx xs.length 0 lo)).take (HT.sIx xs.length xs.length hi-HT.sIx xs.length 0 lo)
def rl (lo hi:Option Int):My->Option My
 | .list ds=>some (.list (fx ds lo hi))
 | .tuple ds=>some (.tuple (fx ds lo hi))
 | .str x=>if x.length<=RN then some (.str (Txt.slice x lo hi)) else none
 | _=>none
theorem b7.drop {H:Hp}:∀{ds:List My} {xs:List V} (n:Nat),b7 K H ds xs->b7 K H (ds.drop n) (xs.drop n)
 | ds,xs,0,h=>h
 | [],xs,n+1,h=>by simp only[b7]at h;subst h;simp[b7]
 | d::ds,xs,n+1,h=>by simp only[b7]at h;obtain⟨y,r,rfl,h1,h2⟩:=h;simp only[List.drop_succ_cons];exact b7.drop n h2
def b7.cut {H:Hp}{ds:List My}{xs:List V}(h:b7 K H ds xs)(lo hi:Option Int):b7 K H (fx ds lo hi) (ee xs lo hi):=by unfold fx ee;rw[h.length];exact b7.take _ (b7.drop _ h)
def Dz (K:Fg):V->Option Int->Option Int->Hp->VK->Prop:=λx lo hi H Q=>∃fp B d r,BOk H B/\K3 K fp B H d x/\rl lo hi d=some r/\∀v H',l6 H H'->c8 K (hid H' B) r v->Q v H'
def kI {v:RC}{o:Option Int}(h:IsPart v o):∃p:Option (Int×Tok),v=partValue p/\p.map (·.1)=o:=by
 cases h with
 | none=>exact⟨none,rfl,rfl⟩
 | int i t=>exact⟨some (i,t),rfl,rfl⟩
def Cf (hK:X.K=K):SlR X (Dz K):=by
 intro vv s O H x v vl vu lo hi sl Q I rx hs pl pu h;obtain⟨fp,B,d,r,bk,h1,hf,q⟩:=h;cases d <;> simp only[rl]at hf <;> try cases hf
 .rename_i x0;cases h1;split at hf
  .rename_i hl;cases hf;obtain⟨t,rfl⟩:=rx;obtain⟨l,rfl,rfl⟩:=kI pl;obtain⟨m,rfl,rfl⟩:=kI pu;refine⟨"str",_,Qb.lookup,QK _ _ _,getItem_meets (QK _ _ _) (by decide) Qb F.entry_str_getitem (F.args_str_getitem_2 _ _) (meets_str_getitem_slice _ t sl l m none rfl) ⟨hs,?_⟩⟩;have z:=q _ H (l6.refl H) c8.st;unfold sliceMade;unfold Txt.slice at z;have e:slicePicked x0 l m none=Builtin.Str.strSliceIndices (l.map (·.1)) (m.map (·.1)) 1 x0.length:=rfl;rw[e];simp only[Option.map_none,Rp];split
   .rename_i hc;rw[Mb hc]at z;exact⟨.str x0,H,I,⟨t,rfl⟩,z⟩
   .rename_i hc;rw[Md hc]at z;refine⟨?_,⟨.str _,H,I.tok _,⟨_,rfl⟩,z⟩⟩;have:=Txt.slice_le x0 (l.map (·.1)) (m.map (·.1));unfold Txt.slice at this;rw[Md hc]at this;exact MK this hl
  .cases hf
 .obtain⟨a,xs,rfl,ha,hd⟩:=h1;subst hK;exact qZ vv s O H _ v vl vu lo hi sl Q I rx hs pl pu ⟨a,xs,rfl,SqL.of (f8 _ _ ha),λp hp=>q _ _ (l6.upd hp) (K7 bk hp (b7.cut hd lo hi))⟩
 .obtain⟨a,xs,rfl,ha,hd⟩:=h1;refine vB hK vv s O H _ v vl vu lo hi sl Q I rx hs pl pu ⟨a,xs,rfl,ha.same f8,λz=>q _ H (l6.refl H) ?_,λ_ p hp=>q _ _ (l6.upd hp) (R4 bk hp (b7.cut hd lo hi))⟩;have:=b7.cut hd lo hi;rw[z.1]at this;simp only[c8];exact⟨a,xs,rfl,ha,this⟩
end
section
variable [Feeds]{K:Fg}{X:Cx}{e:RL}{m:DE->M My}
def TOd (K:Fg)(to:TO)(m:DE->M (Option Int)):Prop:=∀(G:GF) (B:List RD) (E:DE) (F:FS) (O:St) (H:Hp) (Q:Option Int->Hp->Prop) (d:Option Int) (F':FS),SitE K G B E F O H->m E F=some (d,F') ->
 (∀H',Kp (p9 K G) H H'->FAt K G H' F'->Q d H')->to O H Q
structure Eo (K:Fg) (X:Cx) (e:Option RL) (to:TO) (m:DE->M (Option Int)):Prop where
 po:PO X e to
 ok:TOd K to m
def oNo :DE->M (Option Int):=λ_ F=>some (none,F)
def mZ:My->Option Int
 | .int i=>some i
 | _=>none
def oP {d:My}{i:Int}(h:mZ d=some i):d = .int i:=by cases d <;> simp[mZ]at h;rw[h]
def oI (a:DE->M My):DE->M (Option Int):=λE F=>(a E F).bind λp=>(mZ p.1).bind λi=>some (some i,p.2)
def zN :Eo K X none qX oNo:=⟨qy,λG B E F O H Q d F' I e q=>by cases e;exact q H Kp.refl I.fd⟩
def Ep (h:Ev K X e te m):Eo K X (some e) (zX te) (oI m):=⟨jV h.pe,λG B E F O H Q d F' I e q=>by
 obtain⟨⟨x,F1⟩,e1,e⟩:=bS9 e;obtain⟨i,e2,e⟩:=bS9 e;cases e;refine h.ok G B E F O H _ x F1 I e1 λv H1 k1 f1 h1=>?_
 have:=oP e2;simp only at this;subst this;simp only[c8]at h1;exact⟨i,h1,q H1 k1 f1⟩⟩
def oO (a:DE->M My)(l u:DE->M (Option Int)):DE->M My:=λE F=>(a E F).bind λp=>(l E p.2).bind λx=>(u E x.2).bind λy=>(rl x.1 y.1 p.1).bind λz=>some (z,y.2)
def uA {lo hi:Option RL}{tl th:TO}{ml mh:DE->M (Option Int)}(he:Eb K X e te m)(hl:Eo K X lo tl ml)(hh:Eo K X hi th mh)(hK:X.K=K:=by rfl):Ev K X (.Subscript e (.Slice lo hi none p2) pos) (tSl (Dz K) te tl th) (oO m ml mh) :=
 ⟨mJ (Cf hK) he.pe hl.po hh.po,λG B E F O H Q d F' I e q=>by
  obtain⟨⟨x,F1⟩,e1,e⟩:=bS9 e;obtain⟨⟨l,F2⟩,e2,e⟩:=bS9 e;obtain⟨⟨h,F3⟩,e3,e⟩:=bS9 e;obtain⟨z,e4,e⟩:=bS9 e;cases e;refine he.ok G B E F O H _ x F1 I e1 λv H1 k1 f1 h1=>?_
  refine hl.ok G B E F1 O H1 _ l F2 (I.step k1 f1) e2 λH2 k2 f2=>?_
  refine hh.ok G B E F2 O H2 _ h F3 (I.step (k1.trans k2) f2) e3 λH3 k3 f3=>?_
  exact⟨p9 K G,B,x,_,A2 I.bk ((k1.trans k2).trans k3) f3,h1.step (k2.trans k3) I.fB,e4,λu H4 s hu=>q u H4 (((k1.trans k2).trans k3).trans (Kp.same s)) (f3.same s) hu⟩⟩
end
section
variable {K:Fg}{X:Cx}
def T6:List My->Option My
 | [.list ds]=>some (.int ds.length)
 | [.tuple ds]=>some (.int ds.length)
 | [.str x]=>if x.length<=RN then some (.int x.length) else none
 | _=>none
def G3 (hK:X.K=K):A8 X (.builtin "len") (rDN K T6):=by
 walk_at "kg";unfold T6 at hf;walk_at "kae"
 .obtain⟨v,rfl,a,xs,rfl,ha,hd⟩:=bS h1 rfl;have:=q _ H (l6.refl H) c8.int;rw[<-hd.length]at this;exact bR hK vv s O H _ us Q I r ⟨a,xs,rfl,.inl (SqL.of (f8 _ _ ha)),this⟩
 .obtain⟨v,rfl,a,xs,rfl,ha,hd⟩:=bS h1 rfl;have:=q _ H (l6.refl H) c8.int;rw[<-hd.length]at this;exact bR hK vv s O H _ us Q I r ⟨a,xs,rfl,.inr (ha.same f8),this⟩
 .rename_i x0;obtain⟨v,rfl,hv⟩:=bS h1 rfl;have hv:v = .str x0:=hv;subst hv;split at hf
  .rename_i hl;cases hf;exact ll vv s O H _ us Q I r ⟨_,rfl,hl,q _ H (l6.refl H) c8.int⟩
  .cases hf
def K9:List My->Option My
 | [.list ds]=>some (.tuple ds)
 | [.tuple ds]=>some (.tuple ds)
 | _=>none
def Q1 (hK:X.K=K):A8 X (.type "tuple") (rDN K K9):=by
 walk_at "kg";unfold K9 at hf;walk_at "kae"
 .obtain⟨v,rfl,a,xs,rfl,ha,hd⟩:=bS h1 rfl;exact ar hK vv s O H _ us Q I r ⟨a,xs,rfl,.inl ⟨SqL.of (f8 _ _ ha),λl hl=>q _ _ (l6.upd hl) (R4 bk hl hd)⟩⟩
 .obtain⟨v,rfl,hv⟩:=bS h1 rfl;have hv':=hv.tup;obtain⟨a,xs,rfl,ha,hd⟩:=hv;exact ar hK vv s O H _ us Q I r ⟨a,xs,rfl,.inr ⟨ha.same f8,q _ H (l6.refl H) hv'⟩⟩
def O4:List My->Option (List Int)
 | []=>some []
 | .int i::r=>(O4 r).map (i :: ·)
 | _=>none
theorem P3:∀{ds:List My} {ns:List Int},O4 ds=some ns->ds=ns.map .int
 | [],ns,h=>by cases h;rfl
 | d::r,ns,h=>by
  cases d <;> simp only[O4]at h <;> try cases h
  obtain⟨m,e,rfl⟩:=Ms.1 h;rw[P3 e];rfl
theorem ic {H:Hp}:∀{ns:List Int} {xs:List V},b7 K H (ns.map .int) xs->xs=ns.map V.int
 | [],xs,h=>by simpa only[MI,b7] using h
 | n::ns,xs,h=>by simp only[Ma,b7]at h;obtain⟨x,r,rfl,h1,h2⟩:=h;simp only[c8]at h1;rw[h1,ic h2];rfl
def bU (d:My):Bool:=d.showable && !d.hasDict&&decide (d.depth<=50)&&decide (d.shown.length<=16000000)
end
end
section
section
variable {K:Fg}{X:Cx}
def oq {d:My}(h:bU d=true):Shw d 50 16000000:=by unfold bU at h;simp only[OV,NM,Bool.not_eq_true']at h;exact⟨h.1.1.1,h.1.1.2,h.1.2,h.2⟩
def mB:List My->Option My
 | [d]=>if bU d=true then some (.str d.shown) else none
 | _=>none
def ql (hK:X.K=K)(hg:X.A.guards=some [])(hu:X.A.units+64<Sa):A8 X (.builtin "repr") (rDN K mB):=by
 walk_at "kg";unfold mB at hf;walk_at "kae"
 rename_i d;split at hf
 .rename_i ho;cases hf;obtain⟨v,rfl,hv⟩:=bS h1 rfl;have sh:=oq ho;have qq:=q _ H (l6.refl H) c8.st;cases d with
  | tuple ds =>have hd:=hv.dat;obtain⟨a,xs,rfl,ha,_⟩:=hv;exact ij hK hg hu vv s O H _ us Q I r ⟨a,_,rfl,hd,sh,qq⟩
  | list ds =>have hd:=hv.dat;obtain⟨a,xs,rfl,ha,_⟩:=hv;exact ij hK hg hu vv s O H _ us Q I r ⟨a,_,rfl,hd,sh,qq⟩
  | none =>cases(show v = .non from hv);obtain⟨u,rfl,rfl⟩:=K0 r;exact PySem.P.repr_of_none ⟨.str _,H,I.tok _,⟨_,rfl⟩,by simpa only[My.shown] using qq⟩
  | bool b =>cases(show v = .bl b from hv);obtain⟨u,rfl,rfl⟩:=K0 r;exact PySem.P.repr_of_bool ⟨.str _,H,I.tok _,⟨_,rfl⟩,by simpa only[My.shown] using qq⟩
  | int i =>
   cases(show v = .int i from hv);obtain⟨u,rfl,t,rfl⟩:=K0 r;have hl:i.natAbs.log2<1920:=by have:=sh.sh;simpa only[My.showable,NM] using this
   exact PySem.P.repr_of_int hl ⟨.str _,H,I.tok _,⟨_,rfl⟩,by simpa only[My.shown] using qq⟩
  | str x =>
   cases(show v = .str x from hv);obtain⟨u,rfl,t,rfl⟩:=K0 r;have hl:(reprText x).length<=RN:=by have:=sh.ln;simp only[My.shown]at this;exact MK this (by rw[MQ];decide)
   exact PySem.P.repr_of_str ⟨.str _,H,I.tok _,⟨_,rfl⟩,by simpa only[My.shown] using qq⟩ hl
  | dict b=>exact(show False from hv).elim
 .cases hf
def fC:List My->Option My
 | [.int i]=>some (.int i)
 | [.bool b]=>some (.int (if b then 1 else 0))
 | _=>none
def wO :A8 X (.type "int") (rDN K fC):=by
 walk_at "kg";unfold fC at hf;walk_at "kae"
 .rename_i i;obtain⟨v,rfl,hv⟩:=bS h1 rfl;cases(show v = .int i from hv);exact iM vv s O H _ us Q I r (.inl ⟨i,rfl,q _ H (l6.refl H) c8.int⟩)
 .rename_i b;obtain⟨v,rfl,hv⟩:=bS h1 rfl;cases(show v = .bl b from hv);exact iM vv s O H _ us Q I r (.inr ⟨b,rfl,q _ H (l6.refl H) c8.int⟩)
def sQ:List My->Option My
 | [.int i]=>some (.int (if i<0 then -i else i))
 | _=>none
def oy :A8 X (.builtin "abs") (rDN K sQ):=by
 walk_at "kg";unfold sQ at hf;walk_at "kae"
 rename_i i;obtain⟨v,rfl,hv⟩:=bS h1 rfl;cases(show v = .int i from hv);exact wt vv s O H _ us Q I r ⟨i,rfl,q _ H (l6.refl H) c8.int⟩
def kn:List Int->Int
 | []=>0
 | [a]=>a
 | a::b::r=>min a (kn (b::r))
theorem mP:∀{ns:List Int},ns≠[]->kn ns∈ns/\∀n∈ns,kn ns<=n
 | [],h=>absurd rfl h
 | [a],_=>⟨by simp[kn],by simp[kn]⟩
 | a::b::r,_=>by
  obtain⟨h1,h2⟩:=mP (ns:=b::r) (by simp);rw[kn];constructor
  .by_cases h:a<=kn (b::r)
   .rw[Int.min_eq_left h];simp
   .rw[Int.min_eq_right (by omega)];exact Mc _ h1
  .intro n hn;rcases Mi.1 hn with rfl | hn
   .exact Int.min_le_left _ _
   .exact Int.le_trans (Int.min_le_right _ _) (h2 n hn)
def sH:List My->Option My
 | [.tuple ds]=>(O4 ds).bind λns=>if ns=[] then none else some (.int (kn ns))
 | [.int i,.int j]=>some (.int (if j<i then j else i))
 | _=>none
def nO (hK:X.K=K)(hc:X.calm=true):A8 X (.builtin "min") (rDN K sH):=by
 walk_at "kg";unfold sH at hf;walk_at "kae"
 .obtain⟨ns,e,hf⟩:=bS9 hf;split at hf
  .cases hf
  .rename_i hne;cases hf;cases P3 e;obtain⟨v,rfl,a,xs,rfl,ha,hd⟩:=bS h1 rfl;cases ic hd;refine sZ hK hc vv s O H _ us Q I r ⟨a,ns,rfl,ha.same f8,hne,λm hm hle=>?_⟩;obtain⟨m1,m2⟩:=mP hne;have:m=kn ns:=by have:=hle _ m1;have:=m2 _ hm;omega
   rw[this];exact q _ H (l6.refl H) c8.int
 .rename_i i j;obtain⟨v,w,rfl,hv,hw⟩:=ED h1 rfl;cases(show v = .int i from hv);cases(show w = .int j from hw);exact sY hc vv s O H _ us Q I r ⟨i,j,rfl,q _ H (l6.refl H) c8.int⟩
def Bj:My->Option My
 | .int i=>some (.int (-i))
 | _=>none
def AU :UnR X (unaryOp .USub) (rD1 K Bj):=by
 intro vv s O H x v Q I rx h;obtain⟨fp,B,d,r,bk,h1,hf,q⟩:=h;cases d <;> simp only[Bj]at hf <;> try cases hf
 rename_i i;cases(show x = .int i from h1);exact nP vv s O H _ v Q I rx ⟨i,rfl,q _ H (l6.refl H) c8.int⟩
end
section
variable [Feeds]{K:Fg}{X:Cx}{e:RL}{m:DE->M My}{p p3:Pos}
end
section
variable {K:Fg}{X:Cx}
def isD (neg:Bool):My->My->Option My
 | d,.none=>some (.bool (match d with | .none=>!neg | _=>neg))
 | _,_=>none
def pZ {B:List RD}{H:Hp}{d:My}{x:V}(h:K3 K fp B H d x):decide (x = .non)=(match d with | .none=>true | _=>false):=by
 cases d with
 | none=>cases(show x = .non from h);rfl
 | bool b=>cases(show x = .bl b from h);rfl
 | int b=>cases(show x = .int b from h);rfl
 | str b=>cases(show x = .str b from h);rfl
 | tuple ds=>obtain⟨a,xs,rfl,_⟩:=h;rfl
 | list ds=>obtain⟨a,xs,rfl,_⟩:=h;rfl
 | dict b=>exact(show False from h).elim
def Ah :OpR X (compareOp .Is) (rD2 K (isD false)):=by
 walk_at "kf";cases e <;> simp only[isD]at hf <;> try cases hf
 cases(show y = .non from h2);have z:=q (.bl (decide (x = .non))) H (l6.refl H) (by rw[pZ h1];cases d <;> exact c8.bl);exact Bu vv s O H _ _ v u Q I rx ry ⟨rfl,z⟩
def vj :OpR X (compareOp .IsNot) (rD2 K (isD true)):=by
 walk_at "kf";cases e <;> simp only[isD]at hf <;> try cases hf
 cases(show y = .non from h2);have z:=q (.bl (!decide (x = .non))) H (l6.refl H) (by rw[pZ h1];cases d <;> exact c8.bl);exact xW vv s O H _ _ v u Q I rx ry ⟨rfl,z⟩
end
end
section
section
variable [Feeds]{K:Fg}{X:Cx}{e:RL}{m:DE->M My}{p p3:Pos}
def vI (x:Str):Str:=⟨((Builtin.Str.strSliceIndices none none (-1) x.length).filterMap (x.cps[·]?)).toArray⟩
def wz (x:Str):(vI x).length<=x.length:=by
 have h:=sliceIndicesBy_le none none (-1) (by decide) x.length;have h2:=List.length_filterMap_le (λ(i:Nat)=>x.cps[i]?) (Builtin.Str.strSliceIndices none none (-1) x.length);have e:(vI x).length=((Builtin.Str.strSliceIndices none none (-1) x.length).filterMap (x.cps[·]?)).length:=by simp[vI,Str.length]
 rw[e];exact MK h2 h
def wD:My->Option My
 | .list ds=>some (.list ds.reverse)
 | .tuple ds=>some (.tuple ds.reverse)
 | .str x=>if x.length<=RN then some (.str (vI x)) else none
 | _=>none
def ym {j}(hK:X.K=K)(he:PE X e te):PE X (.Subscript e (.Slice none none (some (.UnaryOp .USub (.Constant (.int 1) j p) p3)) p2) pos) (tUn (rD1 K wD) te):=by
 subst hK;intro vv s O H Q I h;refine Subscript_ (thn (he vv s O H _ I h) λv s1 ⟨x,H1,I1,r1,q1⟩=>?_);refine wpAny_Slice ?_;rw[evalPart_none];refine LY (LY ?_);refine thn (jV (xb nP A7) vv s1 O H1 (λo H2=>o=some (-1)/\H2=H1) I1 ⟨1,rfl,_,rfl,rfl,rfl⟩) λvst s2 ⟨o,H2,I2,ps,ho,hH⟩=>?_
 subst ho hH;obtain⟨fp,B,d,r,bk,h1,hf,q⟩:=q1;have I4:Inv X vv O H2 { s2 with heap:=s2.heap.push { cls:=.type "slice",data:=.fields #[.none,.none,vst] } }:=I2.kept (t':=s2.toks) λb ob q=>LZ _ q
 show RT (model X.prog X.w) X.A (subscriptTail e (.Slice none none (some (.UnaryOp .USub (.Constant (.int 1) j p) p3)) p2) v (.ref s2.heap.objs.size)) (EP X vv O Q) X.xe { s2 with heap:=s2.heap.push { cls:=.type "slice",data:=.fields #[.none,.none,vst] } };cases d <;> simp only[wD]at hf <;> try cases hf
 .rename_i x0;cases(show x = .str x0 from h1);split at hf
  .rename_i hl;cases hf;obtain⟨t,rfl⟩:=r1;obtain⟨l,rfl,e2⟩:=kI ps;obtain⟨⟨i0,t0⟩,rfl⟩:∃z,l=some z:=by
    cases l with
    | none=>cases e2
    | some z=>exact⟨z,rfl⟩
   simp at e2;subst e2;have z:=q _ H2 (l6.refl H2) c8.st;refine tail_any (ops:=[.str x0 t,.ref s2.heap.objs.size]) (QK _ _ _) Qb.lookup (getItem_meets (QK _ _ _) (by decide) Qb F.entry_str_getitem (F.args_str_getitem_2 _ _) (meets_str_getitem_slice x0 t s2.heap.objs.size none none (some (-1,t0)) rfl) ⟨⟨_,Mp _ rfl,rfl,rfl⟩,?_⟩) (by with_unfolding_all rfl);unfold sliceMade;rw[Md (by simp)];exact⟨MK (wz x0) hl,⟨.str (vI x0),H2,I4.tok _,⟨_,rfl⟩,z⟩⟩
  .cases hf
 .obtain⟨a,xs,rfl,ha,hd⟩:=h1;cases r1;obtain⟨its,r,ht,hz⟩:=I4.list (SqL.of (K:=X.K) (f8 _ _ ha));have hlen:=r.length;refine tail_any (ops:=[.ref a,.ref s2.heap.objs.size]) ht.isList.typeIs slot_list_getitem.lookup (wpAny_getItem_list_slice ht.isList (Rc ..) .none .none ps (by decide) ?_ (by rw[Mr] <;> omega)) (by with_unfolding_all rfl);rw[PySem.W.krv_pick];refine⟨.ref _,_,I4.laid (t':=s2.toks) (o:=.lst xs.reverse) (λb ob q=>LZ _ q) (Mh _) ?_,rfl,?_⟩
  .exact⟨by rw[QV];exact hz,its.reverse,0,r.reverse,Mp _ rfl⟩
  .have hf:=I4.hok.fresh (Mh _);exact q _ _ (l6.upd hf) (K7 bk hf (b7.reverse hd))
 .obtain⟨a,xs,rfl,ha,hd⟩:=h1;cases r1;obtain⟨its,r,ht,hz⟩:=I4.tuple (ha.same f8);have hlen:its.toArray.size=xs.length:=by rw[Mr];exact r.length.symm
  refine tail_any (ops:=[.ref a,.ref s2.heap.objs.size]) ht.typeIs Nb.lookup (HT.getItem_tuple_rev ht (Rc ..) ps ?_ (by rw[hlen];exact hz)) (by with_unfolding_all rfl);refine⟨.ref _,_,I4.laid (t':=s2.toks) (o:=.tup xs.reverse) (λb ob q=>LZ _ q) (Mh _) ?_,rfl,?_⟩
  .exact⟨by rw[QV];exact hz,_,r.reverse,QF _ _⟩
  .have hf:=I4.hok.fresh (Mh _);exact q _ _ (l6.upd hf) (R4 bk hf (b7.reverse hd))
def BC {j}(h:Eb K X e te m)(hK:X.K=K:=by rfl):Ev K X (.Subscript e (.Slice none none (some (.UnaryOp .USub (.Constant (.int 1) j p) p3)) p2) pos) (tUn (rD1 K wD) te) (s1 wD m):=⟨ym hK h.pe,Aw h.ok⟩
end
end
end L3
namespace L3
open PySem PySem.Spec L2
def eD:fillsNumberSlot (.type "tuple") "mul" = pure false :=
 fillsNumberSlot_seq (id:="tuple.__mul__") (r:=some (.builtin "tuple.__rmul__")) Pw.lookup (by decide +kernel) F.slot_tuple_rmul.lookup (by decide +kernel)
def km:seqRepeat? (.type "tuple")=pure (some (.builtin "tuple.__mul__")):=by unfold seqRepeat?;rw[seqSlot_of (T:="tuple") (name:="__mul__") (id:="tuple.__mul__") Pw.lookup (by decide +kernel),seqSlot_of (T:="tuple") (name:="__rmul__") (id:="tuple.__rmul__") F.slot_tuple_rmul.lookup (by decide +kernel)];rfl
def gY (a:Int)(t:Tok)(l:RD)(items:Array RC)(n:Nat)(dd:Option RD)(sl:Array (Option RC)) :
  Meets (Builtin.«int.__rmul__» ⟨[.int a t,.ref l],[]⟩) (λ_ R s=>s.heap.get? l=some { cls:=.type "tuple",dict:=dd,data:=.seq items n,slots:=sl }/\R (.ok (.ret RC.notImplemented)) s) :=
 .of_wp λprog w A R s h=>by obtain⟨hp,g,d,tk,os⟩:=s;obtain⟨hl,h⟩:=h;wp_walk;exact⟨_,rfl,h⟩
def pk (l:RD)(items:Array RC)(n:Nat)(dd:Option RD)(sl:Array (Option RC))(k:Int)(u:Tok)(hc0:(decide (k < -(2 ^ 63))||decide (k >= 2 ^ 63))=false)(hc1:(items.isEmpty||k == 1)=true) :
  Meets (Builtin.«tuple.__mul__» ⟨[.ref l,.int k u],[]⟩) (λ_ R s=>s.heap.get? l=some { cls:=.type "tuple",dict:=dd,data:=.seq items n,slots:=sl }/\R (.ok (.ret (.ref l))) s) :=
 .of_wp λprog w A R s h=>by obtain⟨hp,g,d,tk,os⟩:=s;obtain⟨hl,h⟩:=h;have f1:=AutoSeq1.idx_int;have f2:=OX;have f3:=Qv;have f4:=Qi;have f5:=Qj;wp_walk;refine QP (by rw[hc0];rfl) ?_;wp_walk;exact⟨_,rfl,h⟩
def nZ (l:RD)(items:Array RC)(n:Nat)(dd:Option RD)(sl:Array (Option RC))(k:Int)(u:Tok)(hc0:(decide (k < -(2 ^ 63))||decide (k >= 2 ^ 63))=false)(hc1:(items.isEmpty||k == 1)=false)(hc2:(decide (k<=0)||items.isEmpty)=true) :
  Meets (Builtin.«tuple.__mul__» ⟨[.ref l,.int k u],[]⟩) (λ_ R s=>s.heap.get? l=some { cls:=.type "tuple",dict:=dd,data:=.seq items n,slots:=sl }/\R (.ok (.ret (.ref s.heap.objs.size))) { s with heap:=s.heap.push { cls:=.type "tuple",data:=.seq #[] } }) :=
 .of_wp λprog w A R s h=>by obtain⟨hp,g,d,tk,os⟩:=s;obtain⟨hl,h⟩:=h;have f1:=AutoSeq1.idx_int;have f2:=OX;have f3:=Qv;have f4:=Qi;have f5:=Qj;wp_walk;refine QP (by rw[hc0];rfl) ?_;wp_walk;exact⟨_,rfl,h⟩
def oX (l:RD)(items:Array RC)(n:Nat)(dd:Option RD)(sl:Array (Option RC))(k:Int)(u:Tok)(hc0:(decide (k < -(2 ^ 63))||decide (k >= 2 ^ 63))=false)(hc1:(items.isEmpty||k == 1)=false)(hc2:(decide (k<=0)||items.isEmpty)=false)(hc3:decide ((items.size:Int)*k > (2 ^ 63-1) / 8)=false)(hc4:Builtin.Tuple.tupleTooMany ((items.size:Int)*k)=false)
  (hsz:(List.foldl (λx1 x2=>x1++x2) #[] (List.replicate k.toNat items)).size<=RN) :
  Meets (Builtin.«tuple.__mul__» ⟨[.ref l,.int k u],[]⟩) (λ_ R s=>s.heap.get? l=some { cls:=.type "tuple",dict:=dd,data:=.seq items n,slots:=sl }/\R (.ok (.ret (.ref s.heap.objs.size))) { s with heap:=s.heap.push { cls:=.type "tuple",data:=.seq (List.foldl (λx1 x2=>x1++x2) #[] (List.replicate k.toNat items)) } }) :=
 .of_wp λprog w A R s h=>by obtain⟨hp,g,d,tk,os⟩:=s;obtain⟨hl,h⟩:=h;have f1:=AutoSeq1.idx_int;have f2:=OX;have f3:=Qv;have f4:=Qi;have f5:=Qj;wp_walk;refine QP (by rw[hc0];rfl) ?_;wp_walk;refine QP hc3 ?_;wp_walk;exact⟨_,rfl,h⟩
section
open PyProof.Rows
variable {K:Fg}{X:Cx}
def J9:My->My->Option My
 | .tuple xs,.int k=>if -(2 ^ 63)<=k/\k<2 ^ 63/\xs.length*k.toNat<=RN then some (.tuple (List.replicate k.toNat xs).flatten) else none
 | d,e=>Cb d e
def yf (hK:X.K=K):OpR X (binaryOp .Mult) (λx y H Q=>∃l k xs,x = .ref l/\y = .int k/\SqT K H l xs /\ -(2 ^ 63)<=k/\k<2 ^ 63/\xs.length*k.toNat<=RN /\
  ((List.replicate k.toNat xs).flatten=xs->Q (.ref l) H)/\∀p,H p=none->Q (.ref p) (upd H p (.tup (List.replicate k.toNat xs).flatten))):=by
 subst hK;intro vv s O H x y v u Q I rx ry h;obtain⟨l,k,xs,rfl,rfl,hq,h1,h2,hz,q0,q1⟩:=h;cases rx;obtain⟨t,rfl⟩:=ry;obtain⟨its,r,p,hl⟩:=I.tuple hq;have hlen:=r.length;obtain⟨⟨cls,dd,data,sl⟩,ho,hc,n,hd⟩:=id p;simp only at hc hd;subst hc hd;have hc0:(decide (k < -(2 ^ 63))||decide (k >= 2 ^ 63))=false:=by rw[Mw (by omega),Mw (by omega)];rfl
 have e1:s.TypeIs (.ref l) "tuple":=⟨_,ho,rfl⟩;refine wpAny_binaryOp_repeat_ref (T:="tuple") (U:="int") (by decide) e1 (λs'=>typeIs_int s' k t) eD F.fills_int_mul QL km F.slot_int_index.lookup
  (Pq QL (typeIs_int s k t) F.entry_int_rmul (F.args_int_rmul_2 _ _) (gY k t l its.toArray n dd sl) ⟨ho,rfl,e1,?_⟩)
 by_cases c1:(its.toArray.isEmpty||k == 1)=true
 .refine Pq Pw e1 F.entry_tuple_mul (Rf _ _) (pk l its.toArray n dd sl k t hc0 c1) ⟨ho,⟨.ref l,H,I,rfl,q0 ?_⟩⟩;simp only[Bool.or_eq_true,beq_iff_eq]at c1;rcases c1 with c1 | c1
  .have:xs=[]:=by
    cases r with
    | nil=>rfl
    | cons a b=>simp at c1
   subst this;simp
  .subst c1;simp
 .have c1:(its.toArray.isEmpty||k == 1)=false:=by simpa using c1
  by_cases c2:(decide (k<=0)||its.toArray.isEmpty)=true
  .refine Pq Pw e1 F.entry_tuple_mul (Rf _ _) (nZ l its.toArray n dd sl k t hc0 c1 c2) ⟨ho,?_⟩;have ez:(List.replicate k.toNat xs).flatten=[]:=by
    rw[Bool.or_eq_false_iff]at c1;rw[c1.1,Bool.or_false]at c2;have:k.toNat=0:=by have:=MD c2;omega
    rw[this];rfl
   have z:=q1 _ I.fresh;rw[ez]at z;exact⟨.ref _,_,I.laid (t':=s.toks) (o:=.tup []) (λb ob q=>LZ _ q) (Mh _) ⟨Nj _,[],.nil,QF _ _⟩,rfl,z⟩
  .have c2:(decide (k<=0)||its.toArray.isEmpty)=false:=by simpa using c2
   have hk0:0<k:=by rw[Bool.or_eq_false_iff]at c2;have:=Nq c2.1;omega
   have hm:(its.toArray.size:Int)*k<=RN:=by obtain⟨j,rfl⟩:∃j:Nat,k=j:=⟨k.toNat,by omega⟩;rw[Mr,<-hlen];simp only[Od]at hz;exact_mod_cast hz
   have hfold:List.foldl (λx1 x2=>x1++x2) #[] (List.replicate k.toNat its.toArray)=(List.replicate k.toNat its).flatten.toArray:=by have:=dY its k.toNat [];rw[ME]at this;exact this
   have hsl:(RN:Int)<=(2 ^ 63-1) / 8:=by rw[MQ];decide
   refine Pq Pw e1 F.entry_tuple_mul (Rf _ _) (oX l its.toArray n dd sl k t hc0 c1 c2 (Mw (by omega)) (Mw (by omega)) ?_) ⟨ho,?_⟩
   .rw[hfold,Mr,jL,<-hlen,Rq];exact hz
   .rw[hfold];exact⟨.ref _,_,I.laid (t':=s.toks) (o:=.tup (List.replicate k.toNat xs).flatten) (λb ob q=>LZ _ q) (Mh _) ⟨by rw[jL,Rq];exact hz,_,r.rep k.toNat,QF _ _⟩,rfl,q1 _ I.fresh⟩
def J3 (hK:X.K=K):OpR X (binaryOp .Mult) (rD2 K J9):=by
 walk_at "kf";unfold J9 at hf;split at hf
 .rename_i ds k;obtain⟨a,xs,rfl,ha,hd⟩:=h1;cases(show y = .int k from h2);split at hf
  .rename_i hc;cases hf;refine yf hK vv s O H _ _ v u Q I rx ry ⟨a,k,xs,rfl,rfl,ha.same f8,hc.1,hc.2.1,by rw[hd.length];exact hc.2.2,λe=>q _ H (l6.refl H) ?_,λp hp=>q _ _ (l6.upd hp) (R4 bk hp (b7.rep hd _))⟩;have:=b7.rep hd k.toNat;rw[e]at this;simp only[c8];exact⟨a,xs,rfl,ha,this⟩
  .cases hf
 .exact Bd vv s O H x y v u Q I rx ry ⟨fp,B,d,e,r,bk,h1,h2,hf,q⟩
end
end L3
namespace L3
open PySem PySem.Spec PyProof.Rows L2
variable {wi:TI}{iter tg:RL}{te:TE}{pos:Pos}{es:List RL}{br:List My->DE->Option DE}{o:HO}
section
section
variable [Feeds]
def cu (K:Fg)(P:Hp->List RD->Prop)(J:It)(items:List My):Prop:=∀H B,P H B ->
 (∀i d,items[i]? = some d->J.go i H/\∀x H2,J.yld i H x H2->l6 H H2/\(BOk H B->c8 K (hid H2 B) d x))/\J.stop items.length H
def TId (K:Fg)(wi:TI)(mi:DE->M (List My)):Prop:=∀(G:GF) (B:List RD) (E:DE) (F:FS) (O:St) (H:Hp) (R:It->Hp->Prop) (ds:List My) (F':FS),SitE K G B E F O H->mi E F=some (ds,F') ->
 (∀J H',Kp (p9 K G) H H'->FAt K G H' F'->cu K (λH2 B2=>l6 (hid H' B) (hid H2 B2)) J ds->R J H')->wi O H R
def TIs (K:Fg)(wi:TI)(mi:DE->M (List My)):Prop:=∀(G:GF) (B:List RD) (E:DE) (F:FS) (O:St) (H:Hp) (R:It->Hp->Prop) (ds:List My) (F':FS),SitE K G B E F O H->mi E F=some (ds,F') ->
 (∀J H',Kp (p9 K G) H H'->FAt K G H' F'->cu K (λH2 B2=>Kp (p9 K G) H' H2/\l6 (hid H' B) (hid H2 B2)) J ds->R J H')->wi O H R
def TId.sh {K:Fg}{mi:DE->M (List My)}(h:TId K wi mi):TIs K wi mi:=λG B E F O H R ds F' I e q=>h G B E F O H R ds F' I e λJ H' k f ok=>q J H' k f λH2 B2 kp=>ok H2 B2 kp.2
structure Ei (K:Fg) (X:Cx) (tg iter:RL) (wi:TI) (mi:DE->M (List My)):Prop where
 pi:PI X tg iter wi
 ok:TId K wi mi
structure Eib (K:Fg) (X:Cx) (tg iter:RL) (wi:TI) (mi:DE->M (List My)):Prop where
 pi:PI X tg iter wi
 ok:TIs K wi mi
variable {K:Fg}{X:Cx}{e:RL}{m:DE->M My}{p:Pos}
def Ei.bw {mi:DE->M (List My)}(h:Ei K X tg iter wi mi):Eib K X tg iter wi mi:=⟨h.pi,h.ok.sh⟩
def AX (K:Fg)(tl:TE):TI:=λO H R=>tl O H λx H1=>∃a,x = .ref a/\(((∃xs,SqL K H1 a xs)/\R (Itl K a) H1)\/((∃xs,SqT K H1 a xs)/\R (Itt K a) H1))
def wQ {l:RL}{tl:TE}(hK:X.K=K)(hl:PE X l tl):PI X tg l (AX K tl):=by
 subst hK;intro vv s O H R I h;refine thn (hl vv s O H _ I h) λv s1 ⟨x,H1,I1,r1,q1⟩=>?_
 obtain⟨a,e,q⟩:=q1;subst e;cases r1;rcases q with ⟨⟨xs,hq⟩,q⟩ | ⟨⟨xs,hq⟩,q⟩
 .obtain⟨its,rv,p,hz⟩:=I1.list hq;refine wpAny_pyIter_list p.isList ?_;refine⟨s1.heap.objs.size,[s1.heap.objs.size],_,_,H1,rfl,I1.kept (t':=s1.toks) λb o e=>LZ _ e,sJ a _,⟨_,Mp _ rfl,rfl,rfl⟩,λb hb=>?_,q⟩;have e:b=s1.heap.objs.size:=by simpa using hb
  subst e;exact I1.fpOk (Mh _) (I1.hok.fresh (Mh _))
 .obtain⟨its,rv,p,hz⟩:=I1.tuple hq;refine Oq (show s1.heap.IsTuple a its.toArray from p) ?_;refine⟨s1.heap.objs.size,[s1.heap.objs.size],_,_,H1,rfl,I1.kept (t':=s1.toks) λb o e=>LZ _ e,oQ a _,⟨_,Mp _ rfl,rfl,rfl⟩,λb hb=>?_,q⟩;have e:b=s1.heap.objs.size:=by simpa using hb
  subst e;exact I1.fpOk (Mh _) (I1.hok.fresh (Mh _))
def gO:My->Option (List My)
 | .list ds=>some ds
 | .tuple ds=>some ds
 | _=>none
def C6 (a:DE->M My):DE->M (List My):=λE F=>(a E F).bind λp=>(gO p.1).bind λds=>some (ds,p.2)
def b7.item {H:Hp}{ds:List My}{xs:List V}{i:Nat}{d:My}(h:b7 K H ds xs)(e:ds[i]? = some d):∃v,xs[i]? = some v/\c8 K H d v:=by
 obtain⟨hj,_⟩:=Mj.1 e;have hx:xs[i]? = some (xs[i]'(by rw[h.length];exact hj)):=by simp
 obtain⟨d',h1,h2⟩:=h.get hx;rw[e]at h1;cases h1;exact⟨_,hx,h2⟩
def qp {P:Hp->List RD->Prop}{a:RD}{ds:List My}{xs:List V}(h:∀H B,P H B->H a=some (.lst xs)/\b7 K (hid H B) ds xs):cu K P (Itl K a) ds:=λH B hp=>by obtain⟨h1,h2⟩:=h H B hp;refine⟨λi d e=>?_,⟨xs,SqL.of h1,by rw[h2.length];exact Mh _⟩⟩;obtain⟨v,e1,e2⟩:=b7.item h2 e;refine⟨⟨xs,v,SqL.of h1,e1⟩,λx H2 y=>?_⟩;obtain⟨rfl,y⟩:=y;have:=y xs (SqL.of h1);rw[e1]at this;cases this;exact⟨l6.refl _,λ_=>e2⟩
def vH {P:Hp->List RD->Prop}{a:RD}{ds:List My}{xs:List V}(h:∀H B,P H B->SqT K H a xs/\b7 K (hid H B) ds xs):cu K P (Itt K a) ds:=λH B hp=>by obtain⟨h1,h2⟩:=h H B hp;refine⟨λi d e=>?_,⟨xs,h1,by rw[h2.length];exact Mh _⟩⟩;obtain⟨v,e1,e2⟩:=b7.item h2 e;refine⟨⟨xs,v,h1,e1⟩,λx H2 y=>?_⟩;obtain⟨rfl,y⟩:=y;have:=y xs h1;rw[e1]at this;cases this;exact⟨l6.refl _,λ_=>e2⟩
def Q9 (h:Ev K X e te m)(hK:X.K=K:=by rfl):Ei K X tg e (AX K te) (C6 m):=⟨wQ hK h.pe,λG B E F O H R ds F' I e q=>by
 walk_at "km"
 cases y with
 | list ys =>cases e2;simp only[c8]at h1;obtain⟨a,xs,rfl,ha,hd⟩:=h1;refine⟨a,rfl,.inl ⟨⟨xs,SqL.of (f8 _ _ ha)⟩,q _ H1 k1 f1 (qp λH2 B2 s=>⟨f8 _ _ (s _ _ ha),hd.same s⟩)⟩⟩
 | tuple ys =>cases e2;simp only[c8]at h1;obtain⟨a,xs,rfl,ha,hd⟩:=h1;refine⟨a,rfl,.inr ⟨⟨xs,ha.same f8⟩,q _ H1 k1 f1 (vH λH2 B2 s=>⟨(ha.same s).same f8,hd.same s⟩)⟩⟩
 | _=>cases e2⟩
def B7 (h:Eb K X e te m)(hK:X.K=K:=by rfl):Eib K X tg e (AX K te) (C6 m):=⟨wQ hK h.pe,λG B E F O H R ds F' I e q=>by
 walk_at "km"
 cases y with
 | list ys =>cases e2;obtain⟨a,xs,rfl,ha,hd⟩:=h1;refine⟨a,rfl,.inl ⟨⟨xs,SqL.of (f8 _ _ ha)⟩,q _ H1 k1 f1 (qp λH2 B2 k=>⟨f8 _ _ (k.1.hid (B:=p9 K G) (λ_ z=>z) _ _ ha),hd.same k.2⟩)⟩⟩
 | tuple ys =>cases e2;obtain⟨a,xs,rfl,ha,hd⟩:=h1;refine⟨a,rfl,.inr ⟨⟨xs,ha.same f8⟩,q _ H1 k1 f1 (vH λH2 B2 k=>⟨(ha.same k.2).same f8,hd.same k.2⟩)⟩⟩
 | _=>cases e2⟩
def fw (lo:Int)(n:Nat):List My:=(List.range n).map λ(i:Nat)=>.int (lo+i)
def Bx {P:Hp->List RD->Prop}{lo:Int}{n:Nat}:cu K P (Itr lo n) (fw lo n):=λH B _=>by refine⟨λi d e=>?_,by show n<=_;simp[fw]⟩;unfold fw at e;rw[Mt]at e;obtain⟨j,e1,rfl⟩:=Ms.1 e;obtain⟨hj,e2⟩:=Mj.1 e1;simp at hj e2;subst e2;refine⟨hj,λx H2 y=>?_⟩;obtain⟨rfl,rfl⟩:=y;exact⟨l6.refl _,λ_=>c8.int⟩
def af:List My->Option (List My)
 | [.int j]=>if -(2 ^ 62)<=j/\j<2 ^ 62 then some (fw 0 j.toNat) else none
 | _=>none
def X7 (a:DE->M (List My)):DE->M (List My):=λE F=>(a E F).bind λp=>(af p.1).bind λds=>some (ds,p.2)
def R5 {a:RL}{ta:TA}{ms:DE->M (List My)}(h:Ea K X [a] ta ms)(hm:X.mg "range" = none)(hg:Gl X "range":=by rfl)(hs:RO [a] X.env=[(false,eval a X.env)]:=by rfl):Ei K X tg (.Call (.Name "range" p) [a] [] pos) (zL ta) (X7 ms):=⟨sL hg hm h.pa hs,λG B E F O H R ds F' I e q=>by
 obtain⟨⟨ys,F1⟩,e1,e⟩:=bS9 e;obtain⟨z,e2,e⟩:=bS9 e;cases e;refine h.ok G B E F O H _ ys F1 I e1 λvs H1 k1 f1 h1=>?_
 unfold af at e2;split at e2
 .rename_i j hj;split at e2
  .rename_i hc;cases e2;have hj:ys=[.int j]:=hj;subst hj;simp only[b7]at h1;obtain⟨x,r,rfl,h2,rfl⟩:=h1;simp only[c8]at h2;subst h2;exact⟨j,rfl,hc.1,hc.2,q _ H1 k1 f1 Bx⟩
  .cases e2
 .cases e2⟩
def TGd (K:Fg)(g:TG)(bd:My->DE->Option DE):Prop:=∀(G:GF) (B:List RD) (E:DE) (F:FS) (O:St) (H:Hp) (x:V) (d:My) (E':DE) (Q:St->Hp->Prop),SitE K G B E F O H->c8 K (hid H B) d x->bd d E=some E' ->
 (∀O',SitE K G B E' F O' H->(∀i:Nat,(∀y,E'[i]? ≠ some (some (.dat y)))->E'[i]? = E[i]? /\ O'[i]? = O[i]?)->Q O' H)->g x O H Q
def EV (K:Fg)(g:TGs)(bd:List My->DE->Option DE):Prop:=∀(G:GF) (B:List RD) (E:DE) (F:FS) (O:St) (H:Hp) (xs:List V) (ds:List My) (E':DE) (Q:St->Hp->Prop),SitE K G B E F O H->b7 K (hid H B) ds xs->bd ds E=some E' ->
 (∀O',SitE K G B E' F O' H->(∀i:Nat,(∀y,E'[i]? ≠ some (some (.dat y)))->E'[i]? = E[i]? /\ O'[i]? = O[i]?)->Q O' H)->g xs O H Q
structure Eg (K:Fg) (X:Cx) (tg:RL) (g:TG) (bd:My->DE->Option DE):Prop where
 pg:PG X tg g
 ok:TGd K g bd
structure Egs (K:Fg) (X:Cx) (tgs:List RL) (g:TGs) (bd:List My->DE->Option DE):Prop where
 pg:PGs X tgs g
 ok:EV K g bd
def bN (i:Nat):My->DE->Option DE:=λd E=>if i<E.length then some (E.set i (some (.dat d))) else none
def SitE.set {G:GF}{B:List RD}{E:DE}{F:FS}{O:St}{H:Hp}{i:Nat}{d:My}{v:V}(I:SitE K G B E F O H)(h:c8 K (hid H B) d v)(hi:i<E.length):SitE K G B (E.set i (some (.dat d))) F (O.set i (some v)) H:=by
 refine⟨I.fd,I.fB,I.bk,by rw[ND,ND];exact I.ln,λj x e=>?_⟩;have hs:i < O.length:=by rw[<-I.ln];exact hi
 by_cases hj:i=j
 .subst hj;rw[Mo hi]at e;cases e;exact⟨v,by rw[Mo hs],h⟩
 .rw[Mn hj]at e;rw[Mn hj];exact I.loc j x e
def m4 {i:Nat}{x:Str}(hN:X.N.Nodup)(hi:X.N[i]? = some x:=by rfl)(hx:Loc X.env.scope x:=by walk_at "v")(hf:X.fn x=true\/X.env.scope.names.lookup x=some .local:=by walk_at "v"):Eg K X (.Name x pos) (aM i) (bN i):=⟨yO hN hi hx hf,λG B E F O H x d E' Q I h e q=>by
 unfold bN at e;split at e
 .rename_i hl;cases e;refine q _ (I.set h hl) λj hj=>?_
  by_cases hij:i=j
  .subst hij;exact absurd (Mo hl) (hj d)
  .rw[Mn hij,Mn hij];exact⟨rfl,rfl⟩
 .cases e⟩
def x3 :List My->DE->Option DE:=λds E=>if ds.isEmpty then some E else none
def d8 (a:My->DE->Option DE)(r:List My->DE->Option DE):List My->DE->Option DE
 | d::ds,E=>(a d E).bind λE1=>r ds E1
 | [],_=>none
def l8 :Egs K X [] DT x3:=⟨zb,λG B E F O H xs ds E' Q I h e q=>by
 cases ds with
 | nil=>cases e;simp only[b7]at h;exact⟨h,q O I λ_ _=>⟨rfl,rfl⟩⟩
 | cons d r=>cases e⟩
def d4 {t:TG}{u:TGs}{ba:My->DE->Option DE}(h1:Eg K X e t ba)(h2:Egs K X es u br)
  (hs:(RZ (e::es) X.env).map (·.2)=assign e X.env::(RZ es X.env).map (·.2):=by rfl):Egs K X (e::es) (zM t u) (d8 ba br):=⟨vC h1.pg h2.pg hs,λG B E F O H xs ds E' Q I h e q=>by
 cases ds with
 | nil=>cases e
 | cons d r =>
  obtain⟨E1,e1,e⟩:=bS9 e;simp only[b7]at h;obtain⟨x,rr,rfl,hx,hr⟩:=h;refine⟨x,rr,rfl,h1.ok G B E F O H x d E1 _ I hx e1 λσ1 I1 k1=>?_⟩;refine h2.ok G B E1 F σ1 H rr r E' _ I1 hr e λσ2 I2 k2=>q σ2 I2 λi hi=>?_
  obtain⟨a1,a2⟩:=k2 i hi;obtain⟨b1,b2⟩:=k1 i (λy z=>hi y (a1.trans z));exact⟨a1.trans b1,a2.trans b2⟩⟩
def w6 (n:Nat)(r:List My->DE->Option DE):My->DE->Option DE
 | .tuple ds,E=>if ds.length=n then r ds E else none
 | _,_=>none
def r8 {k:Nat}{t:TGs}{n:Nat}(hc:X.calm=true)(h:Egs K X es t br)(hK:X.K=K:=by rfl)
  (hn:(RZ es X.env).length=n:=by rfl) (hst:(RZ es X.env).findIdx? (·.1)=none:=by rfl):Eg K X (.Tuple es k pos) (BG K n t) (w6 n br):=⟨zm hK hc h.pg hn hst,λG B E F O H x d E' Q I hd e q=>by
 cases d <;> simp only[w6]at e <;> try cases e
 split at e
 .rename_i hl;simp only[c8]at hd;obtain⟨a,xs,rfl,ha,hx⟩:=hd;exact⟨a,xs,rfl,ha.same f8,by rw[hx.length];exact hl,h.ok G B E F O H xs _ E' Q I hx e q⟩
 .cases e⟩
def gX (k:Nat)(cap:List Nat)(E:DE):DE:=List.replicate k none++cap.map λj=>(E[j]?).join
def SitE.cap {G:GF}{B:List RD}{E:DE}{F:FS}{O:St}{H:Hp}(I:SitE K G B E F O H)(k:Nat)(cap:List Nat):SitE K G B (gX k cap E) F (cf k cap O) H:=by
 refine⟨I.fd,I.fB,I.bk,by simp[gX,cf],λi x e=>?_⟩;unfold gX at e;by_cases hi:i<k
 .rw[Ou (by simpa using hi),NG,Mb hi]at e;cases e
 .rw[Oj (by simpa using hi),NY,Mt]at e;obtain⟨j,hj,hv⟩:=Ms.1 e;have hE:E[j]? = some (some x):=by
   cases q:E[j]? with
   | none=>rw[q]at hv;cases hv
   | some o=>rw[q]at hv;exact Nn some hv
  obtain⟨v,h1,h2⟩:=I.loc j x hE;refine⟨v,?_,h2⟩;unfold cf;rw[Oj (by simpa using hi),NY,Mt,hj,QM,h1];rfl
def SitE.more {G:GF}{B:List RD}{E:DE}{F:FS}{O:St}{H:Hp}{D:RD}(I:SitE K G B E F O H)(hD:H D=none):SitE K G (D::B) E F O (upd H D o):=by
 have hn:D ∉ B:=I.bk.nin hD;have e1:hid (upd H D o) (D::B)=hid H B:=by
  funext b;by_cases hb:b=D
  .subst hb;rw[G5 Me,u3 hn,hD]
  .by_cases hB:b∈B
   .rw[G5 hB,G5 (Mc _ hB)]
   .rw[u3 hB,u3 (by simp[hb,hB]),i3 hb]
 refine⟨I.fd.same (l6.upd hD),λb hb=>Mc _ (I.fB b hb),λb hb=>?_,I.ln,λi x e=>?_⟩
 .rcases Mi.1 hb with rfl | hb
  .exact⟨o,k8⟩
  .obtain⟨u,e⟩:=I.bk b hb;exact⟨u,by rw[i3 (m6 e hD)];exact e⟩
 .obtain⟨v,h1,h2⟩:=I.loc i x e;refine⟨v,h1,?_⟩;cases x with
  | dat d=>show c8 K (hid (upd H D o) (D::B)) d v;rw[e1];exact h2
  | feed=>exact h2
  | fn _=>exact h2
  | adr _=>exact h2
  | own ds =>obtain⟨a,xs,ea,hB,hf,ha,hd⟩:=h2;exact⟨a,xs,ea,Mc _ hB,hf,by rw[i3 (m6 ha hD)];exact ha,by rw[e1];exact hd⟩
  | dic w c ps =>obtain⟨a,xs,ea,hB,hf,ha,hn,hd⟩:=h2;exact⟨a,xs,ea,Mc _ hB,hf,by rw[i3 (m6 ha hD)];exact ha,hn,by rw[e1];exact hd⟩
def SitE.wr {G:GF}{B:List RD}{E:DE}{F:FS}{O:St}{H:Hp}{D:RD}(I:SitE K G (D::B) E F O H)(hf:D ∉ p9 K G)(hown:∀(i:Nat) (ds:List My),E[i]? = some (some (DV.own ds))->O[i]? ≠ some (some (V.ref D))){acc:List V}(hD:H D=some (.lst acc)):SitE K G (D::B) E F O (upd H D o):=by
 have e1:hid (upd H D o) (D::B)=hid H (D::B):=bC Me;refine⟨I.fd.congr λb hb=>i3 (λe=>hb.elim (λhb=>hf (e▸hb)) λ⟨φ,q⟩=>by rw[e,hD]at q;cases q),I.fB,λb hb=>?_,I.ln,λi x e=>?_⟩
 .by_cases h:b=D
  .subst h;exact⟨o,k8⟩
  .rw[i3 h];exact I.bk b hb
 .obtain⟨v,h1,h2⟩:=I.loc i x e;refine⟨v,h1,?_⟩;cases x with
  | dat d=>show c8 K (hid (upd H D o) (D::B)) d v;rw[e1];exact h2
  | feed=>exact h2
  | fn _=>exact h2
  | adr _=>exact h2
  | own ds =>
   obtain⟨a,xs,rfl,hB,hfa,ha,hd⟩:=h2;have hne:a≠D:=λz=>hown i ds e (by rw[<-z];exact h1)
   exact⟨a,xs,rfl,hB,hfa,by rw[i3 hne];exact ha,by rw[e1];exact hd⟩
  | dic w c ps =>
   obtain⟨a,xs,rfl,hB,hfa,ha,hn,hd⟩:=h2;have hne:a≠D:=λz=>by rw[z,hD]at ha;cases ha
   exact⟨a,xs,rfl,hB,hfa,by rw[i3 hne];exact ha,hn,by rw[e1];exact hd⟩
structure Ets (K:Fg) (X:Cx) (ifs:List RL) (tt:TT) (m:DE->M Bool):Prop where
 pts:PTs X ifs tt
 ok:TTd K tt m
def A6 :DE->M Bool:=λ_ F=>some (true,F)
def u8 :Ets K X [] CM A6:=⟨zB,λG B E F O H Q b F' I e q=>by cases e;exact q H Kp.refl I.fd⟩
def ko {c:RL}{tt:TT}{mt:DE->M Bool}(h:Et K X c tt mt):Ets K X [c] tt mt:=⟨xB h.pt,h.ok⟩
noncomputable def P8 (bd:My->DE->Option DE)(mt:DE->M Bool)(me:DE->M My):List My->DE->M (List My)
 | [],_,F=>some ([],F)
 | d::r,E,F=>(bd d E).bind λE1=>(mt E1 F).bind λp=>if p.1=true then(me E1 p.2).bind λy=>(P8 bd mt me r E1 y.2).bind λz=>some (y.1::z.1,z.2) else P8 bd mt me r E1 p.2
def sLC (mi:DE->M (List My))(k:Nat)(cap:List Nat)(bd:My->DE->Option DE)(mt:DE->M Bool)(me:DE->M My):DE->M My:=λE F =>
 (mi E F).bind λp=>if p.1.length<=RN then(P8 bd mt me p.1 (gX k cap E) p.2).bind λz=>some (.list z.1,z.2) else none
def Eu (K:Fg)(G:GF)(B:List RD)(D:RD)(H1:Hp)(bd:My->DE->Option DE)(mt:DE->M Bool)(me:DE->M My)(items whole:List My)(Fz:FS)(i:Nat)(O:St)(acc:List V)(H:Hp):Prop :=
 ∃E F done rest,SitE K G (D::B) E F O H/\H D=some (.lst acc)/\Kp (p9 K G) H1 H/\(∀(j:Nat) (ds:List My),E[j]? = some (some (DV.own ds))->O[j]? ≠ some (some (V.ref D)))/\b7 K (hid H (D::B)) done acc/\P8 bd mt me (items.drop i) E F=some (rest,Fz)/\whole=done++rest/\done.length<=i
def TFd (K:Fg)(te:TE)(m:DE->M (List My)):Prop:=∀(G:GF) (B:List RD) (E:DE) (F:FS) (O:St) (H:Hp) (Q:VK) (ds:List My) (F':FS),SitE K G B E F O H->m E F=some (ds,F') ->
 (∀a vs H',H a=none->H' a=some (.lst vs)->Kp (p9 K G) H H'->FAt K G H' F'->b7 K (hid H' (a::B)) ds vs->Q (.ref a) H')->te O H Q
def Kp.none {fp:List RD}{H H':Hp}{b:RD}(k:Kp fp H H')(h:H' b=none)(n:b ∉ fp):H b=none:=by
 cases q:H b with
 | none=>rfl
 | some o=>rw[k b o q n]at h;cases h
def fLC (mi:DE->M (List My))(k:Nat)(cap:List Nat)(bd:My->DE->Option DE)(mt:DE->M Bool)(me:DE->M My):DE->M (List My):=λE F =>
 (mi E F).bind λp=>if p.1.length<=RN then(P8 bd mt me p.1 (gX k cap E) p.2).bind λz=>some (z.1,z.2) else none
def DK {mi:DE->M (List My)}{k:Nat}{cap:List Nat}{g:TG}{bd:My->DE->Option DE}{tt:TT}{mt:DE->M Bool}{me:DE->M My}(hi:TIs K wi mi)(hg:TGd K g bd)(ht:TTd K tt mt)(he:TEd K te me) :
  TFd K (tLC wi k cap g tt te) (fLC mi k cap bd mt me):=λG B E F O H Q d F' I e q=>by
 obtain⟨⟨items,F1⟩,e1,e⟩:=bS9 e;split at e
 .rename_i hsz;obtain⟨⟨whole,F2⟩,e2,e⟩:=bS9 e;cases e;refine hi G B E F O H _ items F1 I e1 λJ H1 k1 f1 ok D hD=>?_
  have I1:SitE K G B E F1 O H1:=I.step k1 f1;have hBD:D ∉ B:=I1.bk.nin hD;have hfD:D ∉ p9 K G:=λz=>hBD (I.fB D z)
  have hsz:items.length<=RN:=hsz;have stab:∀{H':Hp},Kp (p9 K G) H1 H'->Kp (p9 K G) H1 H'/\l6 (hid H1 B) (hid H' (D::B)):=λ{H'} k=>⟨k,λb o eb=>by
   by_cases hb:b∈B
   .rw[G5 hb]at eb;cases eb
   .rw[u3 hb]at eb;rw[u3 (by
     intro z;rcases Mi.1 z with rfl | z
     .rw[hD]at eb;cases eb
     .exact hb z)]
    exact k b o eb λz=>hb (I.fB b z)⟩
  refine Ay items.length (Eu K G B D H1 bd mt me items whole F2) ?_ ?_ ?_ ?_ ?_
  .refine⟨gX k cap E,F1,[],whole,(I1.cap k cap).more hD,k8,Kp.upd hD,λj ds ej z=>?_,b7.nil,e2,rfl,Mh _⟩;obtain⟨v,v1,a,xs,rfl,_,_,ha,_⟩:=(I1.cap k cap).loc j _ ej;rw[v1]at z;cases z;rw[hD]at ha;cases ha
  .rintro i O' acc H' hlt ⟨E',F3,done,rest,I2,hD2,k2,ow,hd2,e3,ew,hdi⟩;exact((ok H' (D::B) (stab k2)).1 i items[i] (by simp[hlt])).1
  .rintro O' acc H' ⟨E',F3,done,rest,I2,hD2,k2,ow,hd2,e3,ew,hdi⟩;exact(ok H' (D::B) (stab k2)).2
  .rintro i O' acc H' hlt ⟨E',F3,done,rest,I2,hD2,k2,ow,hd2,e3,ew,hdi⟩ x H2 y R hR;obtain⟨s2,hx⟩:=((ok H' (D::B) (stab k2)).1 i items[i] (by simp[hlt])).2 x H2 y;have hx':=hx I2.bk;rw[MV hlt,P8]at e3;obtain⟨E4,e4,e3⟩:=bS9 e3;obtain⟨⟨b,F5⟩,e5,e3⟩:=bS9 e3;have I3:SitE K G (D::B) E' F3 O' H2:=I2.step (Kp.same s2) (I2.fd.same s2);refine hg G (D::B) E' F3 O' H2 x items[i] E4 _ I3 hx' e4 λσ4 I4 fr=>?_
   walk_at "ks"
   have kall:Kp (p9 K G) H1 H5:=(k2.trans (Kp.same s2)).trans k5;have I5:SitE K G (D::B) E4 F5 σ4 H5:=I4.step k5 f5;have hD5:H5 D=some (.lst acc):=k5 D _ (s2 D _ hD2) hfD;have hd5:b7 K (hid H5 (D::B)) done acc:=(hd2.same ((Kp.same s2).hid (fp:=[]) (by simp))).same (k5.hid I4.fB);cases b with
   | false =>exact⟨hD5,hR _ _ _ ⟨E4,F5,done,rest,I5,hD5,kall,ow4,hd5,e3,ew,by omega⟩⟩
   | true =>
    obtain⟨⟨yd,F6⟩,e6,e3⟩:=bS9 e3;obtain⟨⟨zs,F7⟩,e7,e3⟩:=bS9 e3;cases e3;refine he G (D::B) E4 F5 σ4 H5 _ yd F6 I5 e6 λv H6 k6 f6 h6=>?_
    have hD6:H6 D=some (.lst acc):=k6 D _ hD5 hfD;have I6:SitE K G (D::B) E4 F6 σ4 H6:=I5.step k6 f6;have hd6:=hd5.same (k6.hid I5.fB);have hlen:acc.length<RN:=by rw[hd2.length];omega
    refine⟨hD6,hlen,hR _ _ _ ⟨E4,F6,done++[yd],zs,I6.wr hfD ow4 hD6,k8,λb o eb nb=>?_,ow4,?_,e7,by rw[ew];simp,by simp;omega⟩⟩
    .have:=k6 b o (kall b o eb nb) nb;rw[i3];exact this;intro z;subst z;rw[hD]at eb;cases eb
    .rw[bC Me];exact hd6.snoc h6
  .rintro O' acc H' ⟨E',F3,done,rest,I2,hD2,k2,ow,hd2,e3,ew,hdi⟩;rw[Px,P8]at e3;cases e3;rw[NC]at ew;subst ew;exact q D acc H' (k1.none hD hfD) hD2 (k1.trans k2) I2.fd hd2
 .cases e
def DF {mi:DE->M (List My)}{k:Nat}{cap:List Nat}{g:TG}{bd:My->DE->Option DE}{tt:TT}{mt:DE->M Bool}{me:DE->M My}(hi:TIs K wi mi)(hg:TGd K g bd)(ht:TTd K tt mt)(he:TEd K te me) :
  TEd K (tLC wi k cap g tt te) (sLC mi k cap bd mt me):=λG B E F O H Q d F' I e q=>by
 obtain⟨ds,rfl,ef⟩:∃ds,d = .list ds/\fLC mi k cap bd mt me E F=some (ds,F'):=by
  obtain⟨⟨items,F1⟩,e1,e⟩:=bS9 e;split at e
  .rename_i hsz;obtain⟨⟨whole,F2⟩,e2,e⟩:=bS9 e;cases e;refine⟨whole,rfl,?_⟩;unfold fLC;rw[e1,MF,Mb hsz,e2];rfl
  .cases e
 exact DK hi hg ht he G B E F O H Q ds F' I ef λz ws H' hz hw k1 f1 hd=>q _ H' k1 f1 (c8.lst (by rw[u3 (I.bk.nin hz)];exact hw) (hd.same (ae λb hb=>Mc _ hb)))
def O0 {elt:RL}{ifs:List RL}{scope osc:RI}{N:List Str}{k:Nat}{cap:List Nat}{g:TG}{tt:TT}{mi:DE->M (List My)}{bd:My->DE->Option DE}{mt:DE->M Bool}{me:DE->M My}
  (hc:X.calm=true) (hosc:X.env.scope=osc) (hcap:Caps X.N osc N k cap scope) (hi:Eib K X tg iter wi mi)
  (hg:∀cl C ex vv s H,Eg K (cxC X N scope cl C ex vv s H) tg g bd)
  (ht:∀cl C ex vv s H,Ets K (cxC X N scope cl C ex vv s H) ifs tt mt)
  (he:∀cl C ex vv s H,Ev K (cxC X N scope cl C ex vv s H) elt te me)
  (hs:∀x,RY iter X.env x=pure x:=by intro _;rfl) :
  Ev K X (.ListComp elt [⟨tg,iter,ifs,0⟩] scope pos) (tLC wi k cap g tt te) (sLC mi k cap bd mt me) :=
 ⟨CJ hc hosc hcap hi.pi (λcl C ex vv s H=>(hg cl C ex vv s H).pg) (λcl C ex vv s H=>(ht cl C ex vv s H).pts) (λcl C ex vv s H=>(he cl C ex vv s H).pe) hs,
  DF hi.ok (hg [] 0 [] [] X.s₀ X.H₀).ok (ht [] 0 [] [] X.s₀ X.H₀).ok (he [] 0 [] [] X.s₀ X.H₀).ok⟩
end
end
variable {B0:List RD}{H0:Hp}{rest sts:List RK}{p2:Pos}{tl:TA}
section
section
variable [Feeds]
inductive Out where
 | nx (E:DE) | rt (d:My) | bk (E:DE) | ct (E:DE)
def bJ (B0:List RD)(H0:Hp)(E:DE)(O:St):Prop:=∀(i c:Nat) (ps:List (My×My)) (a:RD),E[i]? = some (some (DV.dic true c ps))->O[i]? = some (some (V.ref a))->(H0 a=none/\a ∉ B0)/\∀(j:Nat) (w':Bool) (c':Nat) (ps':List (My×My)),E[j]? = some (some (DV.dic w' c' ps'))->O[j]? = some (some (V.ref a))->i=j
def bJ.of {E E':DE}{O O':St}(h:bJ B0 H0 E O)(fr:∀(i:Nat) (w:Bool) (c:Nat) (ps:List (My×My)),E'[i]? = some (some (DV.dic w c ps))->E'[i]? = E[i]? /\ O'[i]? = O[i]?):bJ B0 H0 E' O':=λi c ps a ei si=>by obtain⟨a1,a2⟩:=fr i _ _ _ ei;obtain⟨h1,h2⟩:=h i c ps a (a1▸ei) (a2▸si);refine⟨h1,λj w' c' ps' ej sj=>?_⟩;obtain⟨b1,b2⟩:=fr j _ _ _ ej;exact h2 j w' c' ps' (b1▸ej) (b2▸sj)
def bJ.set {E:DE}{O:St}(h:bJ B0 H0 E O){i:Nat}{x:DV}{y:Option V}(hx:∀w c ps,x≠DV.dic w c ps):bJ B0 H0 (E.set i (some x)) (O.set i y):=h.of λj w c ps ej=>by
 by_cases hj:i=j
 .subst hj;by_cases hl:i<E.length
  .rw[Mo hl]at ej;cases ej;exact absurd rfl (hx w c ps)
  .rw[Os (by rw[ND];omega)]at ej;cases ej
 .exact⟨Mn hj,Mn hj⟩
def bJ.set1 {E:DE}{O:St}(h:bJ B0 H0 E O){i:Nat}{x:DV}(hx:∀w c ps,x≠DV.dic w c ps):bJ B0 H0 (E.set i (some x)) O:=h.of λj w c ps ej=>by
 by_cases hj:i=j
 .subst hj;by_cases hl:i<E.length
  .rw[Mo hl]at ej;cases ej;exact absurd rfl (hx w c ps)
  .rw[Os (by rw[ND];omega)]at ej;cases ej
 .exact⟨Mn hj,rfl⟩
structure Sit (K:Fg) (G:GF) (B0:List RD) (H0:Hp) (E:DE) (F:FS) (O:St) (H:Hp):Prop where
 ex:∃B,(∀b∈B0,b∈B)/\(∀b∈B,b∈B0\/H0 b=none)/\SitE K G B E F O H
 fB:∀b∈p9 K G,b∈B0
 kp:Kp (p9 K G) H0 H
 own:∀(i:Nat) (ds:List My) (a:RD),E[i]? = some (some (DV.own ds))->O[i]? = some (some (V.ref a))->H0 a=none/\a ∉ B0
 inj:∀(i j:Nat) (ds es:List My) (a:RD),E[i]? = some (some (DV.own ds))->E[j]? = some (some (DV.own es))->O[i]? = some (some (V.ref a))->O[j]? = some (some (V.ref a))->i=j
 dic:bJ B0 H0 E O
def CB (K:Fg)(G:GF)(B0:List RD)(H0:Hp)(F:FS)(D:Ends):Out->Prop
 | .nx E=>∀O H,Sit K G B0 H0 E F O H->D.nx O H
 | .bk E=>∀O H,Sit K G B0 H0 E F O H->D.bk O H
 | .ct E=>∀O H,Sit K G B0 H0 E F O H->D.ct O H
 | .rt d=>∀v H,Kp (p9 K G) H0 H->FAt K G H F->c8 K (hid H B0) d v->D.rt v H
def TSd (K:Fg)(ts:TS)(m:DE->M Out):Prop:=∀(G:GF) (B0:List RD) (H0:Hp) (E:DE) (F:FS) (O:St) (H:Hp) (D:Ends) (r:Out) (F':FS),Sit K G B0 H0 E F O H->m E F=some (r,F')->CB K G B0 H0 F' D r->ts D O H
structure Ss (K:Fg) (X:Cx) (st:RK) (ts:TS) (m:DE->M Out):Prop where
 ps:PS X st ts
 ok:TSd K ts m
structure Sss (K:Fg) (X:Cx) (sts:List RK) (ts:TS) (m:DE->M Out):Prop where
 ps:PSs X sts ts
 ok:TSd K ts m
variable {K:Fg}{X:Cx}{a b c e:RL}{st:RK}{ta tb:TE}{ma mb m:DE->M My}{t u:TS}{mt mu:DE->M Out}{pos' p:Pos}
def Sit.step {G:GF}{E:DE}{F F':FS}{O:St}{H H':Hp}(S:Sit K G B0 H0 E F O H)(k:Kp (p9 K G) H H')(f:FAt K G H' F'):Sit K G B0 H0 E F' O H':=by obtain⟨B,s,sn,I⟩:=S.ex;exact⟨⟨B,s,sn,I.step k f⟩,S.fB,S.kp.trans k,S.own,S.inj,S.dic⟩
noncomputable def mNx :DE->M Out:=λE F=>some (.nx E,F)
noncomputable def mSq (a b:DE->M Out):DE->M Out:=λE F=>(a E F).bind λp=>match p.1 with
 | .nx E1=>b E1 p.2
 | o=>some (o,p.2)
def Q6 :Sss K X [] zK mNx:=⟨ju,λG B0 H0 E F O H D r F' S e q=>by cases e;exact q O H S⟩
def d7 (h1:Ss K X st t mt)(h2:Sss K X rest u mu):Sss K X (st::rest) (Dk t u) (mSq mt mu):=⟨B6 h1.ps h2.ps,λG B0 H0 E F O H D r F' S e q=>by
 obtain⟨⟨o,F1⟩,e1,e⟩:=bS9 e;refine h1.ok G B0 H0 E F O H _ o F1 S e1 ?_;cases o with
 | nx E1=>exact λO' H' S'=>h2.ok G B0 H0 E1 F1 O' H' D r F' S' e q
 | rt d=>cases e;exact q
 | bk E1=>cases e;exact q
 | ct E1=>cases e;exact q⟩
def h9 (h1:Ss K X st t mt):Sss K X [st] t mt:=⟨cQ h1.ps,h1.ok⟩
noncomputable def mRt (a:DE->M My):DE->M Out:=λE F=>(a E F).bind λp=>some (.rt p.1,p.2)
def m8 (h:Ev K X e te m):Ss K X (.Return (some e) pos) (Bn te) (mRt m):=⟨eN h.pe,λG B0 H0 E F O H D r F' S e q=>by obtain⟨⟨d,F1⟩,e1,e⟩:=bS9 e;cases e;obtain⟨B,s,sn,I⟩:=S.ex;exact h.ok G B E F O H _ d F1 I e1 λv H1 k1 f1 h1=>q v H1 (S.kp.trans k1) f1 (h1.same (ae s))⟩
def yQ (i:Nat){x:Str}(hN:X.N[i]? = some x:=by rfl)(hv:Vis X.env.scope x:=by walk_at "v")(hd:(x == ("__debug__":Str))=false:=by decide)
  (hcd:(x == ("__classdict__":Str))=false:=by decide):Ss K X (.Return (some (.Name x p)) pos) (Bn (cF i)) (mRt (sW i)):=⟨eN (W0 hN hv hd hcd),λG B0 H0 E F O H D r F' S e q=>by
 obtain⟨⟨d,F1⟩,e1,e⟩:=bS9 e;cases e;obtain⟨B,s,sn,I⟩:=S.ex;unfold sW at e1;split at e1
 .rename_i x hx;cases e1;obtain⟨v,h1,h2⟩:=I.loc i _ hx;exact⟨v,h1,q v H S.kp I.fd (c8.same h2 (ae s))⟩
 .rename_i x hx;cases e1;obtain⟨v,h1,p,xs,rfl,hB,hf,hp,hd⟩:=I.loc i _ hx;obtain⟨n1,n2⟩:=S.own i x p hx h1;exact⟨_,h1,q _ H S.kp I.fd (c8.lst (by rw[u3 n2];exact hp) (hd.same (ae s)))⟩
 .cases e1⟩
def x8 (i:Nat)(a:DE->M My):DE->M Out:=λE F=>(a E F).bind λp=>(bN i p.1 E).bind λE1=>some (.nx E1,p.2)
def Sit.bind {G:GF}{B:List RD}{E E':DE}{F F':FS}{O O':St}{H:Hp}(S:Sit K G B0 H0 E F O H)(s:∀b∈B0,b∈B)(sn:∀b∈B,b∈B0\/H0 b=none)(I:SitE K G B E' F' O' H)(fr:∀i:Nat,(∀y,E'[i]? ≠ some (some (.dat y)))->E'[i]? = E[i]? /\ O'[i]? = O[i]?):Sit K G B0 H0 E' F' O' H:=by
 refine⟨⟨B,s,sn,I⟩,S.fB,S.kp,λi ds a ei si=>?_,λi j ds es a ei ej si sj=>?_,S.dic.of λi w c ps ei=>fr i λy z=>by rw[ei]at z;cases z⟩
 .obtain⟨a1,a2⟩:=fr i λy z=>by rw[ei]at z;cases z
  exact S.own i ds a (a1▸ei) (a2▸si)
 .obtain⟨a1,a2⟩:=fr i λy z=>by rw[ei]at z;cases z
  obtain⟨b1,b2⟩:=fr j λy z=>by rw[ej]at z;cases z
  exact S.inj i j ds es a (a1▸ei) (b1▸ej) (a2▸si) (b2▸sj)
def xk {g:TG}{bd:My->DE->Option DE}(he:TEd K te m)(hg:TGd K g bd):TSd K (gm te g) (λE F=>(m E F).bind λp=>(bd p.1 E).bind λE1=>some (.nx E1,p.2)):=λG B0 H0 E F O H D r F' S e q=>by
 obtain⟨⟨d,F1⟩,e1,e⟩:=bS9 e;obtain⟨E1,e2,e⟩:=bS9 e;cases e;obtain⟨B,s,sn,I⟩:=S.ex;refine he G B E F O H _ d F1 I e1 λv H1 k1 f1 h1=>?_
 have S1:=S.step k1 f1;exact hg G B E F1 O H1 v d E1 _ (I.step k1 f1) h1 e2 λO' I' fr=>q O' H1 (S1.bind s sn I' fr)
def kW (i:Nat):TGd K (aM i) (bN i):=λG B E F O H x d E' Q I h e q=>by
 unfold bN at e;split at e
 .rename_i hl;cases e;refine q _ (I.set h hl) λj hj=>?_
  by_cases hij:i=j
  .subst hij;exact absurd (Mo hl) (hj d)
  .rw[Mn hij,Mn hij];exact⟨rfl,rfl⟩
 .cases e
def p7 (i:Nat){x:Str}(hN:X.N.Nodup)(he:Ev K X e te m)(hi:X.N[i]? = some x:=by rfl)(hx:Loc X.env.scope x:=by walk_at "v")(hs:RV e (some (.Name x pos')) pos.line X.env=pure false:=by rfl)(hf:X.fn x=true\/X.env.scope.names.lookup x=some .local:=by walk_at "v") :
  Ss K X (.Assign [.Name x pos'] e pos) (gm te (aM i)) (x8 i m):=⟨S7 hN hi hx he.pe hs hf,xk he.ok (kW i)⟩
noncomputable def jz (bd:My->DE->Option DE)(a:DE->M My):DE->M Out:=λE F=>(a E F).bind λp=>(bd p.1 E).bind λE1=>some (.nx E1,p.2)
def dO {g:TG}{bd:My->DE->Option DE}(he:Ev K X e te m)(hg:Eg K X tg g bd)(hs:swapsWithSole [tg] e pos.line X.env=pure false:=by rfl)(hw:swappedStores [tg] e X.env=pure none:=by rfl)
  (h1:(RZ [tg] X.env).map (·.2)=[assign tg X.env]:=by rfl):Ss K X (.Assign [tg] e pos) (gm te g) (jz bd m):=⟨Bc he.pe hg.pg hs hw h1,xk he.ok hg.ok⟩
def cH (i:Nat){y:Str}{py:Pos}{elt:RL}{ifs:List RL}{scope osc:RI}{N:List Str}{k:Nat}{cap:List Nat}{g:TG}{tt:TT}{mi:DE->M (List My)}{bd:My->DE->Option DE}{mt:DE->M Bool}{me:DE->M My}
  (hN:X.N.Nodup) (hc:X.calm=true) (hosc:X.env.scope=osc) (hcap:Caps X.N osc N k cap scope) (hi:Eib K X tg iter wi mi)
  (hg:∀cl C ex vv s H,Eg K (cxC X N scope cl C ex vv s H) tg g bd)
  (ht:∀cl C ex vv s H,Ets K (cxC X N scope cl C ex vv s H) ifs tt mt)
  (he:∀cl C ex vv s H,Ev K (cxC X N scope cl C ex vv s H) elt te me)
  (hix:X.N[i]? = some y:=by rfl) (hLy:Loc X.env.scope y:=by walk_at "v")
  (hs:∀x,RY iter X.env x=pure x:=by intro _;rfl) (hfy:X.fn y=true\/X.env.scope.names.lookup y=some .local:=by walk_at "v")
  (hsw:RV (.ListComp elt [⟨tg,iter,ifs,0⟩] scope p) (some (.Name y py)) pos.line X.env=pure true:=by rfl) :
  Ss K X (.Assign [.Name y py] (.ListComp elt [⟨tg,iter,ifs,0⟩] scope p) pos) (gm (tLC wi k cap g tt te) (aM i)) (x8 i (sLC mi k cap bd mt me)) :=
 ⟨uV hN hix hLy hc hosc hcap hi.pi (λcl C ex vv s H=>(hg cl C ex vv s H).pg) (λcl C ex vv s H=>(ht cl C ex vv s H).pts) (λcl C ex vv s H=>(he cl C ex vv s H).pe) hs hfy hsw,
  xk (DF hi.ok (hg [] 0 [] [] X.s₀ X.H₀).ok (ht [] 0 [] [] X.s₀ X.H₀).ok (he [] 0 [] [] X.s₀ X.H₀).ok) (kW i)⟩
noncomputable def mIf (c:DE->M Bool)(a b:DE->M Out):DE->M Out:=λE F=>(c E F).bind λp=>if p.1=true then a E p.2 else b E p.2
def Q4 {x y:List RK}{tt:TT}{mc:DE->M Bool}(hc:Et K X c tt mc)(ha:Sss K X x t mt)(hb:Sss K X y u mu):Ss K X (.If c x y pos) (DB tt t u) (mIf mc mt mu):=⟨xo hc.pt ha.ps hb.ps,λG B0 H0 E F O H D r F' S e q=>by
 obtain⟨⟨d,F1⟩,e1,e⟩:=bS9 e;obtain⟨B,s,sn,I⟩:=S.ex;refine hc.ok G B E F O H _ d F1 I e1 λH1 k1 f1=>?_
 cases d with
 | true=>exact ha.ok G B0 H0 E F1 O H1 D r F' (S.step k1 f1) e q
 | false=>exact hb.ok G B0 H0 E F1 O H1 D r F' (S.step k1 f1) e q⟩
def og (i j:Nat)(a:DE->M (List My)):DE->M Out:=λE F=>(a E F).bind λp=>match p.1 with
 | [x,y]=>(bN i x E).bind λE1=>(bN j y E1).bind λE2=>some (.nx E2,p.2)
 | _=>none
def jD (i j:Nat){x y:Str}{ms:DE->M (List My)}{px py pt:Pos}{kt k2 pt2}(hc:X.calm=true)(hN:X.N.Nodup)(ha:Ea K X [a,b] tl ms)(hi:X.N[i]? = some x:=by rfl)(hj:X.N[j]? = some y:=by rfl)(hij:i≠j:=by decide)
  (hx:X.env.scope.names.lookup x=some .local:=by rfl) (hy:X.env.scope.names.lookup y=some .local:=by rfl)
  (hw:swappedStores [.Tuple [.Name x px,.Name y py] kt pt] (.Tuple [a,b] k2 pt2) X.env=pure (some [x,y]):=by rfl)
  (hs:swapsWithSole [.Tuple [.Name x px,.Name y py] kt pt] (.Tuple [a,b] k2 pt2) pos.line X.env=pure false:=by rfl) :
  Ss K X (.Assign [.Tuple [.Name x px,.Name y py] kt pt] (.Tuple [a,b] k2 pt2) pos) (AZ i j tl) (og i j ms):=⟨vX hc hN hi hj hij hx hy ha.pa hw hs,λG B0 H0 E F O H D r F' S e q=>by
 obtain⟨⟨ds,F1⟩,e1,e⟩:=bS9 e;obtain⟨B,s,sn,I⟩:=S.ex;refine ha.ok G B E F O H _ ds F1 I e1 λvs H1 k1 f1 h1=>?_
 dsimp only at e;split at e
 .obtain⟨E1,e2,e⟩:=bS9 e;obtain⟨E2,e3,e⟩:=bS9 e;cases e;simp only[b7]at h1;obtain⟨v,r1,rfl,hv,w,r2,rfl,hw,rfl⟩:=h1;have S1:=S.step k1 f1;refine⟨v,w,rfl,?_⟩;refine kW i G B E _ O H1 v _ E1 (λO' H'=>D.nx (O'.set j (some w)) H') (I.step k1 f1) hv e2 λO' I' fr=>?_
  have S2:=S1.bind s sn I' fr;exact kW j G B E1 _ O' H1 w _ E2 D.nx I' hw e3 λσ2 I2 fr2=>q σ2 H1 (S2.bind s sn I2 fr2)
 .cases e⟩
end
end
section
section
variable [Feeds]{K:Fg}{X:Cx}{a b c e:RL}{st:RK}{ta tb:TE}{ma mb m:DE->M My}{t u:TS}{mt mu:DE->M Out}{pos' p:Pos}
def dW (H:Hp)(B B0:List RD):Hp:=hid H (B.filter λb=>decide (b ∉ B0))
def eJ {H:Hp}{B:List RD}{b:RD}(h1:b∈B)(h2:b ∉ B0):dW H B B0 b=none:=G5 (MN.2 ⟨h1,by simpa using h2⟩)
def dR {H:Hp}{B:List RD}{b:RD}(h:b ∉ B\/b∈B0):dW H B B0 b=H b:=u3 λz=>by
 obtain⟨z1,z2⟩:=MN.1 z;rcases h with h | h
 .exact h z1
 .simp at z2;exact z2 h
section
variable {G:GF}{B:List RD}{E E2:DE}{F F2:FS}{O σ2:St}{H H2:Hp}
def Sit.base (S:Sit K G B0 H0 E F O H)(s:∀b∈B0,b∈B)(sn:∀b∈B,b∈B0\/H0 b=none)(I:SitE K G B E F O H):Sit K G B0 (dW H B B0) E F O H:=by
 refine⟨⟨B,s,λb hb=>?_,I⟩,S.fB,Kp.same f8,λi ds a ei si=>?_,S.inj,λi c ps a ei si=>?_⟩
 .by_cases h:b∈B0
  .exact .inl h
  .exact .inr (eJ hb h)
 .obtain⟨v,v1,a',xs,rfl,hB,_⟩:=I.loc i _ ei;rw[v1]at si;cases si;exact⟨eJ hB (S.own i ds _ ei v1).2,(S.own i ds _ ei v1).2⟩
 .obtain⟨v,v1,a',xs,rfl,hB,_⟩:=I.loc i _ ei;rw[v1]at si;cases si;obtain⟨⟨_,h2⟩,h3⟩:=S.dic i c ps _ ei v1;exact⟨⟨eJ hB h2,h2⟩,h3⟩
def vK (S:Sit K G B0 H0 E F O H)(sn:∀b∈B,b∈B0\/H0 b=none)(k:Kp (p9 K G) (dW H B B0) H2):Kp (p9 K G) H0 H2:=λb o e n=>by
 refine k b o ?_ n;rw[dR]
 .exact S.kp b o e n
 .by_cases hb:b∈B
  .rcases sn b hb with h | h
   .exact .inr h
   .rw[h]at e;cases e
  .exact .inl hb
def Sit.unbase (S:Sit K G B0 H0 E F O H)(sn:∀b∈B,b∈B0\/H0 b=none)(S2:Sit K G B0 (dW H B B0) E2 F2 σ2 H2):Sit K G B0 H0 E2 F2 σ2 H2:=by
 have no:∀b,dW H B B0 b=none->b∈B0\/H0 b=none:=λb e=>by
  by_cases hb:b∈B
  .exact sn b hb
  .rw[dR (.inl hb)]at e;by_cases hf:b∈p9 K G
   .exact .inl (S.fB b hf)
   .cases q:H0 b with
    | none=>exact .inr rfl
    | some o=>rw[S.kp b o q hf]at e;cases e
 obtain⟨B2,s2,sn2,I2⟩:=S2.ex;refine⟨⟨B2,s2,λb hb=>?_,I2⟩,S.fB,vK S sn S2.kp,λi ds a ei si=>?_,S2.inj,λi c ps a ei si=>?_⟩
 .rcases sn2 b hb with h | h
  .exact .inl h
  .exact no b h
 .obtain⟨h1,h2⟩:=S2.own i ds a ei si;exact⟨(no a h1).resolve_left h2,h2⟩
 .obtain⟨⟨h1,h2⟩,h3⟩:=S2.dic i c ps a ei si;exact⟨⟨(no a h1).resolve_left h2,h2⟩,h3⟩
end
noncomputable def bH (bd:My->DE->Option DE)(body:DE->M Out):List My->DE->M Out
 | [],E,F=>some (.nx E,F)
 | d::r,E,F=>(bd d E).bind λE1=>(body E1 F).bind λp=>match p.1 with
  | .nx E2=>bH bd body r E2 p.2
  | .ct E2=>bH bd body r E2 p.2
  | .bk E2=>some (.nx E2,p.2)
  | .rt d=>some (.rt d,p.2)
def X2 (mi:DE->M (List My))(bd:My->DE->Option DE)(body:DE->M Out):DE->M Out:=λE F=>(mi E F).bind λp=>bH bd body p.1 E p.2
def DW {g:TG}{tb:TS}{mi:DE->M (List My)}{bd:My->DE->Option DE}{mb:DE->M Out}(hi:TId K wi mi)(hg:TGd K g bd)(hb:TSd K tb mb):TSd K (BD wi g tb) (X2 mi bd mb):=λG B0 H0 E F O H D r F' S e q=>by
 obtain⟨⟨items,F1⟩,e1,e⟩:=bS9 e;obtain⟨B,s,sn,I⟩:=S.ex;refine hi G B E F O H _ items F1 I e1 λJ H1 k1 f1 ok=>?_
 have S1:=S.step k1 f1;have I1:=I.step k1 f1;have S1':=S1.base s sn I1;have qn:∀{E2:DE} {F2:FS},r = .nx E2->F'=F2->∀σ2 H2,Sit K G B0 (dW H1 B B0) E2 F2 σ2 H2->D.nx σ2 H2:=λ{E2 F2} er ef σ2 H2 S2=>by subst er ef;exact q σ2 H2 (S1.unbase sn S2)
 have stab:∀{E2:DE} {F2:FS} {σ2:St} {H2:Hp} {B2:List RD},Sit K G B0 (dW H1 B B0) E2 F2 σ2 H2->(∀b∈B2,b∈B0\/dW H1 B B0 b=none)->l6 (hid H1 B) (hid H2 B2):=λ{E2 F2 σ2 H2 B2} S2 sn2 b o eb=>by
  by_cases hB:b∈B
  .rw[G5 hB]at eb;cases eb
  .rw[u3 hB]at eb;have ec:dW H1 B B0 b=some o:=by rw[dR (.inl hB)];exact eb
   rw[u3 λz=>(sn2 b z).elim (λh=>hB (s b h)) λh=>by rw[h]at ec;cases ec];exact S2.kp b o ec λz=>hB (s b (S.fB b z))
 refine⟨λi m O H=>m=items.length-i/\i<=items.length/\∃E F,Sit K G B0 (dW H1 B B0) E F O H/\bH bd mb (items.drop i) E F=some (r,F'),⟨items.length,by simp,Nj _,E,F1,S1',e⟩,?_⟩;rintro i mm σ2 H2 ⟨rfl,hi2,E2,F2,S2,e2⟩;obtain⟨B2,s2,sn2,I2⟩:=S2.ex;have st2:=stab S2 sn2;by_cases hlt:i<items.length
 .refine .inr ⟨((ok H2 B2 st2).1 i items[i] (by simp[hlt])).1,λO' H'=>i+1<=items.length/\∃E F,Sit K G B0 (dW H1 B B0) E F O' H'/\bH bd mb (items.drop (i+1)) E F=some (r,F'),λO' H' ⟨h1,h2⟩=>⟨items.length-(i+1),by omega,rfl,h1,h2⟩,λx H3 y=>?_⟩;obtain⟨s3,hx⟩:=((ok H2 B2 st2).1 i items[i] (by simp[hlt])).2 x H3 y;have hx:=hx I2.bk;rw[MV hlt,bH]at e2;obtain⟨E4,e4,e2⟩:=bS9 e2;obtain⟨⟨o,F5⟩,e5,e2⟩:=bS9 e2;have S3:=S2.step (Kp.same s3) (I2.fd.same s3);have I3:SitE K G B2 E2 F2 σ2 H3:=I2.step (Kp.same s3) (I2.fd.same s3);refine hg G B2 E2 F2 σ2 H3 x items[i] E4 _ I3 hx e4 λσ4 I4 fr=>?_
  refine hb G B0 (dW H1 B B0) E4 F2 σ4 H3 _ o F5 (S3.bind s2 sn2 I4 fr) e5 ?_;cases o with
  | nx E6=>exact λσ6 H6 S6=>⟨hlt,E6,F5,S6,e2⟩
  | ct E6=>exact λσ6 H6 S6=>⟨hlt,E6,F5,S6,e2⟩
  | bk E6=>cases e2;exact λσ6 H6 S6=>qn rfl rfl σ6 H6 S6
  | rt d=>cases e2;exact λv H6 k6 f6 h6=>q v H6 (vK S1 sn k6) f6 h6
 .have ei:i=items.length:=by omega
  subst ei;rw[Px,bH]at e2;cases e2;exact .inl ⟨(ok H2 B2 st2).2,qn rfl rfl σ2 H2 S2⟩
def N5 {body:List RK}{g:TG}{tb:TS}{mi:DE->M (List My)}{bd:My->DE->Option DE}{mb:DE->M Out}(hc:X.calm=true)(hi:Ei K X tg iter wi mi)(hg:Eg K X tg g bd)(hb:Sss K X body tb mb)(hp:PassesOwn (model X.prog X.w) X.A X.env X.xe:=by exact PassesOwn.never)
  (hs:∀x,RY iter X.env x=pure x:=by intro _;rfl):Ss K X (.For tg iter body [] pos) (BD wi g tb) (X2 mi bd mb):=⟨Ct hp hc hi.pi hg.pg hb.ps hs,DW hi.ok hg.ok hb.ok⟩
structure Ef (K:Fg) (X:Cx) (e:RL) (te:TE) (m:DE->M (List My)):Prop where
 pe:PE X e te
 ok:TFd K te m
def fO {H:Hp}{B:List RD}{p:RD}(hp:H p=none):l6 (hid H B) (hid (upd H p o) (p::B)):=λb u e=>by
 by_cases hb:b∈B
 .rw[G5 hb]at e;cases e
 .rw[u3 hb]at e;have hne:=m6 e hp;rw[u3 (by simp[hne,hb]),i3 hne];exact e
def iq (a:DE->M (List My)):DE->M (List My):=λE F=>(a E F).bind λp=>if p.1.length<=RN then some (p.1,p.2) else none
def bV {t:TA}{ms:DE->M (List My)}(h:Ea K X es t ms):Ef K X (.List es pos) (zp t) (iq ms):=⟨jH h.pa,λG B E F O H Q d F' I e q=>by
 obtain⟨⟨x,F1⟩,e1,e⟩:=bS9 e;split at e
 .rename_i hl;cases e;refine h.ok G B E F O H _ x F1 I e1 λvs H1 k1 f1 h1=>⟨by rw[h1.length];exact hl,λp hp=>?_⟩
  have hnf:p ∉ p9 K G:=λz=>(A2 I.bk k1 f1).nin hp (I.fB p z)
  exact q p vs _ (k1.none hp hnf) k8 (k1.trans (Kp.upd hp)) (f1.same (l6.upd hp)) (h1.same (fO hp))
 .cases e⟩
def gT (i:Nat)(a:DE->M (List My)):DE->M Out:=λE F=>(a E F).bind λp=>if i<E.length then some (.nx (E.set i (some (.own p.1))),p.2) else none
def El {i:Nat}{mf:DE->M (List My)}(he:TFd K te mf):TSd K (gm te (aM i)) (gT i mf):=λG B0 H0 E F O H D r F' S e q=>by
 obtain⟨⟨ds,F1⟩,e1,e⟩:=bS9 e;split at e
 .rename_i hl;cases e;obtain⟨B,s,sn,I⟩:=S.ex;refine he G B E F O H _ ds _ I e1 λa vs H1 hn ha k1 f1 h1=>?_
  have I1:=I.step k1 f1;have hsl:i < O.length:=by rw[<-I.ln];exact hl
  have haB:a ∉ B:=I.bk.nin hn;have haf:a ∉ p9 K G:=λz=>haB (I.fB a z)
  have h0:H0 a=none:=S.kp.none hn haf;have sm:l6 (hid H B) (hid H1 (a::B)):=λb o eb=>by
   by_cases hb:b∈B
   .rw[G5 hb]at eb;cases eb
   .rw[u3 hb]at eb;have hne:=m6 eb hn;rw[u3 (by simp[hne,hb])];exact k1 b o eb λz=>hb (I.fB b z)
  refine q _ H1 ⟨⟨a::B,λb hb=>Mc _ (s b hb),λb hb=>?_,⟨f1,λb hb=>Mc _ (I.fB b hb),λb hb=>?_,by rw[ND,ND];exact I.ln,λj x ej=>?_⟩⟩,S.fB,S.kp.trans k1,λj es a' ej sj=>?_,λj k es es' a' ej ek sj sk=>?_,S.dic.set nofun⟩
  .rcases Mi.1 hb with rfl | hb
   .exact .inr h0
   .exact sn b hb
  .rcases Mi.1 hb with rfl | hb
   .exact⟨_,ha⟩
   .exact I1.bk b hb
  .by_cases hj:i=j
   .subst hj;rw[Mo hl]at ej;cases ej;exact⟨.ref a,by rw[Mo hsl],a,vs,rfl,Me,haf,ha,h1⟩
   .rw[Mn hj]at ej;obtain⟨v,v1,v2⟩:=I.loc j x ej;refine⟨v,by rw[Mn hj];exact v1,?_⟩;cases x with
    | dat d=>exact c8.same (show c8 K (hid H B) d v from v2) sm
    | feed=>exact v2
    | fn _=>exact v2
    | adr _=>exact v2
    | own es =>obtain⟨a',xs',rfl,hB',hf',ha',hd'⟩:=v2;exact⟨a',xs',rfl,Mc _ hB',hf',k1 _ _ ha' hf',hd'.same sm⟩
    | dic w c ps =>obtain⟨a',xs',rfl,hB',hf',ha',hn',hd'⟩:=v2;exact⟨a',xs',rfl,Mc _ hB',hf',k1 _ _ ha' hf',hn',hd'.same sm⟩
  .by_cases hj:i=j
   .subst hj;rw[Mo hsl]at sj;cases sj;exact⟨h0,λz=>haB (s a z)⟩
   .rw[Mn hj]at ej sj;exact S.own j es a' ej sj
  .have other:∀(j:Nat) (es:List My),i≠j->E[j]? = some (some (DV.own es))->O[j]? ≠ some (some (V.ref a)):=λj es _ ej z=>by obtain⟨v,v1,a',xs',rfl,hB',_⟩:=I.loc j _ ej;rw[v1]at z;cases z;exact haB hB'
   by_cases hj:i=j
   .by_cases hk:i=k
    .exact hj.symm.trans hk
    .subst hj;rw[Mo hsl]at sj;cases sj;rw[Mn hk]at ek sk;exact absurd sk (other k es' hk ek)
   .rw[Mn hj]at ej sj;by_cases hk:i=k
    .subst hk;rw[Mo hsl]at sk;cases sk;exact absurd sj (other j es hj ej)
    .rw[Mn hk]at ek sk;exact S.inj j k es es' a' ej ek sj sk
 .cases e
def dU (i:Nat){x:Str}{mf:DE->M (List My)}(hN:X.N.Nodup)(he:Ef K X e te mf)(hi:X.N[i]? = some x:=by rfl)(hx:Loc X.env.scope x:=by walk_at "v")(hs:RV e (some (.Name x pos')) pos.line X.env=pure false:=by rfl)(hf:X.fn x=true\/X.env.scope.names.lookup x=some .local:=by walk_at "v") :
  Ss K X (.Assign [.Name x pos'] e pos) (gm te (aM i)) (gT i mf):=⟨S7 hN hi hx he.pe hs hf,El he.ok⟩
end
end
section
section
variable [Feeds]{K:Fg}{X:Cx}{a b c e:RL}{st:RK}{ta tb:TE}{ma mb m:DE->M My}{t u:TS}{mt mu:DE->M Out}{pos' p:Pos}
section
variable {G:GF}{B:List RD}{E:DE}{F:FS}{O:St}{H:Hp}
def Sit.write {i:Nat}{ds ds':List My}{x:RD}{vs':List V}(S:Sit K G B0 H0 E F O H)(s:∀b∈B0,b∈B)(sn:∀b∈B,b∈B0\/H0 b=none)(I:SitE K G B E F O H)(ei:E[i]? = some (some (DV.own ds)))(si:O[i]? = some (some (V.ref x)))
  (hd:b7 K (hid H B) ds' vs'):Sit K G B0 H0 (E.set i (some (.own ds'))) F O (upd H x (.lst vs')):=by
 have hl:i<E.length:=(Mj.1 ei).1;obtain⟨v,v1,x',xs,rfl,hB,hf,hx,_⟩:=I.loc i _ ei;rw[si]at v1;cases v1;have e1:hid (upd H x (.lst vs')) B=hid H B:=bC hB;obtain⟨n1,n2⟩:=S.own i ds x ei si;refine⟨⟨B,s,sn,⟨I.fd.congr λb hb=>i3 (λz=>hb.elim (λhb=>hf (z▸hb)) λ⟨φ,q⟩=>by rw[z,hx]at q;cases q),I.fB,λb hb=>?_,by rw[ND];exact I.ln,λj y ej=>?_⟩⟩,S.fB,λb o eb nb=>?_,λj es a' ej sj=>?_,λj k es es' a' ej ek sj sk=>?_,S.dic.set1 nofun⟩
 .by_cases h:b=x
  .subst h;exact⟨_,k8⟩
  .rw[i3 h];exact I.bk b hb
 .by_cases hj:i=j
  .subst hj;rw[Mo hl]at ej;cases ej;exact⟨.ref x,si,x,vs',rfl,hB,hf,k8,by rw[e1];exact hd⟩
  .rw[Mn hj]at ej;obtain⟨w,w1,w2⟩:=I.loc j y ej;refine⟨w,w1,?_⟩;cases y with
   | dat d=>show c8 K (hid (upd H x (.lst vs')) B) d w;rw[e1];exact w2
   | feed=>exact w2
   | fn _=>exact w2
   | adr _=>exact w2
   | own es =>
    obtain⟨a',xs',rfl,hB',hf',ha',hd'⟩:=w2;have hne:a'≠x:=λz=>hj (S.inj i j ds es x ei ej si (z▸w1))
    exact⟨a',xs',rfl,hB',hf',by rw[i3 hne];exact ha',by rw[e1];exact hd'⟩
   | dic w c ps =>
    obtain⟨a',xs',rfl,hB',hf',ha',hn',hd'⟩:=w2;have hne:a'≠x:=λz=>by rw[z,hx]at ha';cases ha'
    exact⟨a',xs',rfl,hB',hf',by rw[i3 hne];exact ha',hn',by rw[e1];exact hd'⟩
 .rw[i3]
  .exact S.kp b o eb nb
  .intro z;subst z;rw[n1]at eb;cases eb
 .by_cases hj:i=j
  .subst hj;exact S.own i ds a' ei sj
  .rw[Mn hj]at ej;exact S.own j es a' ej sj
 .have back:∀(j:Nat) (es:List My),(E.set i (some (.own ds')))[j]? = some (some (DV.own es))->∃es,E[j]? = some (some (DV.own es)):=λj es ej=>by
   by_cases hj:i=j
   .subst hj;exact⟨ds,ei⟩
   .rw[Mn hj]at ej;exact⟨es,ej⟩
  obtain⟨f1,ej'⟩:=back j es ej;obtain⟨f2,ek'⟩:=back k es' ek;exact S.inj j k f1 f2 a' ej' ek' sj sk
end
def eV (E:DE)(i:Nat):Option (List My):=match E[i]? with
 | some (some (.own ds))=>some ds
 | _=>none
def gM {E:DE}{i:Nat}{ds:List My}(h:eV E i=some ds):E[i]? = some (some (DV.own ds)):=by
 unfold eV at h;split at h
 .rename_i q;cases h;exact q
 .cases h
def ax (i:Nat)(v:DE->M My):DE->M Out:=λE F=>(v E F).bind λp=>(eV E i).bind λds=>if ds.length<RN then some (.nx (E.set i (some (.own (ds++[p.1])))),p.2) else none
def De {i:Nat}(hv:TEd K te m):TSd K (xa (tBM K "list" kB (cF i) (N8 te bY))) (ax i m):=λG B0 H0 E F O H D r F' S e q=>by
 obtain⟨⟨d,F1⟩,e1,e⟩:=bS9 e;obtain⟨ds,e4,e⟩:=bS9 e;split at e
 .rename_i hl;cases e;obtain⟨B,s,sn,I⟩:=S.ex;have eo:=gM e4;obtain⟨w,w1,a,xs,rfl,hB,hf,hx,hdx⟩:=I.loc i _ eo;refine⟨_,w1,.inl ⟨rfl,xs,SqL.of hx⟩,hv G B E F O H _ d _ I e1 λu H2 k2 f2 h2=>?_⟩;have hd2:=hdx.same (k2.hid I.fB);exact⟨a,xs,u,rfl,rfl,k2 a _ hx hf,by rw[hdx.length];exact hl,q O _ ((S.step k2 f2).write s sn (I.step k2 f2) eo w1 (hd2.snoc h2))⟩
 .cases e
def lI (K:Fg)(G:GF)(B:List RD)(H:Hp):List DV->List V->Prop
 | [],vs=>vs=[]
 | x::xs,vs=>∃v r,vs=v::r/\x.ow=false/\DVr K G B H x v/\lI K G B H xs r
def spD (K:Fg)(n:Nat)(f:List DV->M My):Sp:=λvs H Q _=>∃G B F args d F',vs.length=n/\(∀b∈p9 K G,b∈B)/\BOk H B/\FAt K G H F/\lI K G B H args vs/\f args F=some (d,F') /\
 ∀v H',Kp (p9 K G) H H'->FAt K G H' F'->c8 K (hid H' B) d v->Q v H'
def q5 (N:List Str)(args:List DV):DE:=args.map some++List.replicate (N.length-args.length) none
noncomputable def B9 (N:List Str)(m:DE->M Out):List DV->M My:=λargs F=>(m (q5 N args) F).bind λp=>match p.1 with
 | .rt d=>some (d,p.2)
 | .nx _=>some (.none,p.2)
 | _=>none
theorem lI.length {G:GF}{B:List RD}{H:Hp}:∀{args:List DV} {vs:List V},lI K G B H args vs->vs.length=args.length
 | [],vs,h=>by cases h;rfl
 | x::xs,vs,⟨v,r,e,_,_,h⟩=>by subst e;rw[Mf,Mf,h.length]
theorem lI.get {G:GF}{B:List RD}{H:Hp}:∀{args:List DV} {vs:List V} {i:Nat} {x:DV},lI K G B H args vs->args[i]? = some x->∃v,vs[i]? = some v/\x.ow=false/\DVr K G B H x v
 | [],vs,i,x,h,e=>by simp at e
 | y::xs,vs,i,x,⟨v,r,e1,h1,h2,h3⟩,e=>by
  subst e1;cases i with
  | zero=>simp at e;subst e;exact⟨v,rfl,h1,h2⟩
  | succ i=>simpa using h3.get (i:=i) (by simpa using e)
def eB {N:List Str}{args:List DV}{i:Nat}{x:DV}(h:(q5 N args)[i]? = some (some x)):args[i]? = some x:=by
 unfold q5 at h;by_cases hi:i<args.length
 .rw[Ou (by simpa using hi),Mt]at h;obtain⟨y,e1,e2⟩:=Ms.1 h;cases e2;exact e1
 .rw[Oj (by simpa using hi),NG]at h;split at h <;> simp at h
def iV {G:GF}{B:List RD}{F:FS}{H:Hp}{N:List Str}{args:List DV}{vs:List V}(fB:∀b∈p9 K G,b∈B)(bk:BOk H B)(f:FAt K G H F)(h:lI K G B H args vs):Sit K G B H (q5 N args) F (L2.T7 N vs) H:=by
 have noown:∀(i:Nat) (ds:List My),(q5 N args)[i]? ≠ some (some (DV.own ds)):=λi ds e=>by obtain⟨v,_,n,_⟩:=h.get (eB e);cases n
 refine⟨⟨B,λ_ z=>z,λb hb=>.inl hb,⟨f,fB,bk,by simp[q5,L2.T7,h.length],λi x e=>?_⟩⟩,fB,Kp.refl,λi ds a e _=>absurd e (noown i ds),λi j ds es a e _ _ _=>absurd e (noown i ds),λi c ps a e _=>by obtain⟨v,_,n,_⟩:=h.get (eB e);cases n⟩;obtain⟨v,v1,_,v2⟩:=h.get (eB e);refine⟨v,?_,v2⟩;have hi:i<vs.length:=(Mj.1 v1).1;unfold L2.T7;rw[Ou (by simpa using hi),Mt,v1];rfl
variable {P:RF}{w:RG}{mg:Str->Option RC}{base:RM}
def t9 {x qual:Str}{f:RD}{fd:RJ}{N ps:List Str}{k:Nat}{m:DE->M Out}(Fn:Fun K x qual st f fd)(S:FnScope N ps (defScope st))
  (hbody:∀(Si:RC) (A:RH) (outer:List RQ) (s:RE) (H:Hp) (E:XK),Room k (A.deeper (envOfC qual (defScope st) s.heap.objs.size f Si)) ->
   ∃ts,Sss K (U1 CX0 P w K mg base N qual (defScope st) f Si A outer s H E).nox (defBody st) ts m):FnOk P w K mg base CX0 (k+1) f fd ps (spD K ps.length (B9 N m)):=by
 refine Fn.ok S (λvs H Q E h=>?_) (λSi A outer s H vs Q E hr h=>?_)
 .obtain⟨G,B,F,args,d,F',hl,_⟩:=h;exact hl
 .obtain⟨G,B,F,args,d,F',hl,fB,bk,fa,ha,hm,q⟩:=h;obtain⟨ts,hts⟩:=hbody Si A outer s H E hr;refine⟨ts,hts.ps,?_⟩;obtain⟨⟨o,F1⟩,e1,e⟩:=bS9 hm;refine hts.ok G B H (q5 N args) F (L2.T7 N vs) H _ o F1 (iV fB bk fa ha) e1 ?_;cases o with
  | rt d'=>cases e;exact λv H' k1 f1 h1=>q v H' k1 f1 h1
  | nx E'=>cases e;exact λO' H' S'=>q _ H' S'.kp (by obtain⟨B,_,_,I⟩:=S'.ex;exact I.fd) c8.non
  | bk E'=>cases e
  | ct E'=>cases e
def TVd (K:Fg)(ta:TA)(m:DE->M (List DV)):Prop:=∀(G:GF) (B:List RD) (E:DE) (F:FS) (O:St) (H:Hp) (Q:List V->Hp->Prop) (ds:List DV) (F':FS),SitE K G B E F O H->m E F=some (ds,F') ->
 (∀vs H',Kp (p9 K G) H H'->FAt K G H' F'->lI K G B H' ds vs->Q vs H')->ta O H Q
structure Evs (K:Fg) (X:Cx) (es:List RL) (ta:TA) (m:DE->M (List DV)):Prop where
 pa:PA X es ta
 ok:TVd K ta m
def n9 :DE->M (List DV):=λ_ F=>some ([],F)
def vD (a:DE->M My)(r:DE->M (List DV)):DE->M (List DV):=λE F=>(a E F).bind λp=>(r E p.2).bind λq=>some (.dat p.1::q.1,q.2)
def vF (i:Nat)(r:DE->M (List DV)):DE->M (List DV):=λE F=>match E[i]? with
 | some (some .feed)=>(r E F).bind λq=>some (.feed::q.1,q.2)
 | _=>none
def i6 :Evs K X [] bY n9:=⟨J6,λG B E F O H Q ds F' I e q=>by cases e;exact q [] H Kp.refl I.fd rfl⟩
def i8 {ms:DE->M (List DV)}(ha:Ev K X e te m)(hr:Evs K X es tl ms)(hs:RO (e::es) X.env=(false,eval e X.env)::RO es X.env:=by rfl):Evs K X (e::es) (N8 te tl) (vD m ms) :=
 ⟨A3 ha.pe hr.pa hs,λG B E F O H Q ds F' I e q=>by
  walk_at "ky"
  refine hr.ok G B E F1 O H1 _ ys _ (I.step k1 f1) e2 λvs H2 k2 f2 h2=>q _ H2 (k1.trans k2) f2 ⟨v,vs,rfl,rfl,h1.same (k2.hid I.fB),h2⟩⟩
def aa (i:Nat){x:Str}{ms:DE->M (List DV)}(hr:Evs K X es tl ms)(hN:X.N[i]? = some x:=by rfl)(hv:Vis X.env.scope x:=by walk_at "v")(hd:(x == ("__debug__":Str))=false:=by decide)
  (hcd:(x == ("__classdict__":Str))=false:=by decide) (hs:RO (.Name x p::es) X.env=(false,eval (.Name x p) X.env)::RO es X.env:=by rfl):Evs K X (.Name x p::es) (N8 (cF i) tl) (vF i ms) :=
 ⟨A3 (W0 hN hv hd hcd) hr.pa hs,λG B E F O H Q ds F' I e q=>by
  unfold vF at e;split at e
  .rename_i hx;obtain⟨⟨ys,F2⟩,e2,e⟩:=bS9 e;cases e;obtain⟨v,v1,v2⟩:=I.loc i _ hx;refine⟨v,v1,hr.ok G B E F O H _ ys _ I e2 λvs H2 k2 f2 h2=>q _ H2 k2 f2 ⟨v,vs,rfl,rfl,v2.step k2 I.fB,h2⟩⟩
  .cases e⟩
def j8 (f:List DV->M My)(ms:DE->M (List DV)):DE->M My:=λE F=>(ms E F).bind λp=>f p.1 p.2
def AN {n:Nat}{f:List DV->M My}{ta:TA}{ms:DE->M (List DV)}(h:TVd K ta ms)(hn:∀E F args F',ms E F=some (args,F')->args.length=n):TEd K (mN (spD K n f) [] E0 ta) (j8 f ms):=λG B E F O H Q d F' I e q=>by
 obtain⟨⟨args,F1⟩,e1,e⟩:=bS9 e;refine h G B E F O H _ args F1 I e1 λvs H1 k1 f1 h1=>?_
 rw[NC];exact⟨G,B,F1,args,d,F',by rw[h1.length];exact hn _ _ _ _ e1,I.fB,A2 I.bk k1 f1,f1,h1,e,λv H2 k2 f2 h2=>q v H2 (k1.trans k2) f2 h2⟩
def i5 :∀E F args F',n9 E F=some (args,F')->args.length=0:=λE F args F' e=>by cases e;rfl
def i7 {n:Nat}{ms:DE->M (List DV)}(h:∀E F args F',ms E F=some (args,F')->args.length=n):∀E F args F',vD m ms E F=some (args,F')->args.length=n+1:=λE F args F' e=>by obtain⟨⟨x,F1⟩,e1,e⟩:=bS9 e;obtain⟨⟨ys,F2⟩,e2,e⟩:=bS9 e;cases e;rw[Mf,h _ _ _ _ e2]
def Z3 {n i:Nat}{ms:DE->M (List DV)}(h:∀E F args F',ms E F=some (args,F')->args.length=n):∀E F args F',vF i ms E F=some (args,F')->args.length=n+1:=λE F args F' e=>by
 unfold vF at e;split at e
 .obtain⟨⟨ys,F2⟩,e2,e⟩:=bS9 e;cases e;rw[Mf,h _ _ _ _ e2]
 .cases e
def f9 {x:Str}{k n:Nat}{ps:List Str}{f:List DV->M My}{ms:DE->M (List DV)}(C:g9 X.prog X.w X.K X.mg X.base x k ps (spD K n f))(hr:Room k X.A)(ha:Evs K X (e::es) tl ms)(hn:∀E F args F',ms E F=some (args,F')->args.length=n)(hg:Gl X x:=by rfl)
  (hdb:(x == ("__debug__":Str))=false:=by decide) (he:RO (e::es) X.env=(false,eval e X.env)::RO es X.env:=by rfl) (hpl:(RR pos (RO es X.env)).any (·.1)=false:=by rfl) :
  Ev K X (.Call (.Name x p) (e::es) [] pos) (mN (spD K n f) [] E0 tl) (j8 f ms):=⟨iQ C hr hg ha.pa hdb he hpl,AN ha.ok hn⟩
end
end
section
def v4 (c:RD)(a l t:Int):List (Key×V):=[(Sum.inr "cells",.ref c),(Sum.inr "at",.int a),(Sum.inr "left",.int l),(Sum.inr "turn",.int t)]
def n1 :¬(("cells":Str) = "at"):=by decide +kernel
def n2 :¬(("cells":Str) = "left"):=by decide +kernel
def n3 :¬(("cells":Str) = "turn"):=by decide +kernel
def n4 :¬(("at":Str) = "left"):=by decide +kernel
def n5 :¬(("at":Str) = "turn"):=by decide +kernel
def n6 :¬(("left":Str) = "turn"):=by decide +kernel
def n4' :¬(("left":Str) = "at"):=by decide +kernel
def n5' :¬(("turn":Str) = "at"):=by decide +kernel
def n6' :¬(("turn":Str) = "left"):=by decide +kernel
def L5 (a b:Str):((Sum.inr a:Key)=Sum.inr b)=(a=b):=by
 apply propext;constructor
 .intro h;injection h
 .intro h;rw[h]
section
variable {H:Hp}{d c:RD}{a l t:Int}
def yg :bG (v4 c a l t) (Sum.inr "cells")=some (.ref c):=by unfold v4;exact T8 rfl
def CK :bG (v4 c a l t) (Sum.inr "at")=some (.int a):=by unfold v4;rw[B4 (by rw[L5];exact n1)];exact T8 rfl
def wc :bG (v4 c a l t) (Sum.inr "left")=some (.int l):=by unfold v4;rw[B4 (by rw[L5];exact n2),B4 (by rw[L5];exact n4)];exact T8 rfl
def xj :bG (v4 c a l t) (Sum.inr "turn")=some (.int t):=by unfold v4;rw[B4 (by rw[L5];exact n3),B4 (by rw[L5];exact n5),B4 (by rw[L5];exact n6)];exact T8 rfl
def ET (z:Int):L4 (v4 c a l t) (Sum.inr "at") (.int z)=v4 c z l t:=by unfold L4;rw[X3,CK];simp only[OK,Nk,v4,Ma,MI,L5,n1,n4,Nk,Nf,n4',n5']
def BY (z:Int):L4 (v4 c a l t) (Sum.inr "left") (.int z)=v4 c a z t:=by unfold L4;rw[X3,wc];simp only[OK,Nk,v4,Ma,MI,L5,n2,n4,Nk,Nf,n6']
def AR (z:Int):L4 (v4 c a l t) (Sum.inr "turn") (.int z)=v4 c a l z:=by unfold L4;rw[X3,xj];simp only[OK,Nk,v4,Ma,MI,L5,n3,n5,n6,Nk,Nf]
def za (hd:H d=some (.dK (v4 c a l t))):eP H d (.str "cells") (some (.ref c)):=by have:=eP.k (k:=Sum.inr "cells") hd;rwa [yg]at this
def EW (hd:H d=some (.dK (v4 c a l t))):eP H d (.str "at") (some (.int a)):=by have:=eP.k (k:=Sum.inr "at") hd;rwa [CK]at this
def pf (hd:H d=some (.dK (v4 c a l t))):eP H d (.str "left") (some (.int l)):=by have:=eP.k (k:=Sum.inr "left") hd;rwa [wc]at this
def ik (hd:H d=some (.dK (v4 c a l t))):eP H d (.str "turn") (some (.int t)):=by have:=eP.k (k:=Sum.inr "turn") hd;rwa [xj]at this
def dQ :(v4 c a l t).length<RN:=jo (by show 4<=1000;decide)
def Fe (z:Int)(hd:H d=some (.dK (v4 c a l t))):iC H d (.str "at") (.int z) (upd H d (.dK (v4 c z l t))):=by have:=iC.k (k:=Sum.inr "at") (v:=.int z) hd dQ;rwa [ET]at this
def pq (z:Int)(hd:H d=some (.dK (v4 c a l t))):iC H d (.str "left") (.int z) (upd H d (.dK (v4 c a z t))):=by have:=iC.k (k:=Sum.inr "left") (v:=.int z) hd dQ;rwa [BY]at this
def AB (z:Int)(hd:H d=some (.dK (v4 c a l t))):iC H d (.str "turn") (.int z) (upd H d (.dK (v4 c a l z))):=by have:=iC.k (k:=Sum.inr "turn") (v:=.int z) hd dQ;rwa [AR]at this
end
structure FdS where
 ns:List Int
 a:Int
 l:Int
 t:Int
class Fam where
 At:RD->RD->Hp->FdS->Prop
 some1:∀{d c H F},At d c H F->∃o,H d=some o/\NoT o
 some2:∀{d c H F},At d c H F->∃o,H c=some o/\NoT o
 congr:∀{d c H H' F},At d c H F->H' d=H d->H' c=H c->At d c H' F
 lam:List Str
 drawF:Int->FdS->Option (Int×FdS)
 draw_some:∀{m:Int} {F:FdS},0<m->m<1073741824->F.t<199999->∃r F',drawF m F=some (r,F')/\0<=r/\r<m/\F'.t=F.t+1
instance fdI [Fam]:Feeds where
 S:=FdS
 At:=Fam.At
 some1:=Fam.some1
 some2:=Fam.some2
 congr:=Fam.congr
 lam:=Fam.lam
def FdS.cell (F:FdS):Int:=if F.ns=[] then 11 else(F.ns[(F.a % (F.ns.length:Int)).toNat]?).getD 0
def C0 [Fam]:List DV->M My
 | [.feed,.dat (.int m)]=>λF=>(Fam.drawF m F).bind λp=>some (.int p.1,p.2)
 | _=>λ_=>none
def uJ {x m:Int}(h:0<m):0<=x % m/\x % m<m:=⟨QQ _ (by omega),Qc _ h⟩
def zZ {t:Int}(h0:0<=t)(h1:t<=200000):0<=7919*t*t/\7919*t*t<=7919*200000*200000:=by refine⟨Pm (by omega) h0,Int.mul_le_mul (by omega) h1 h0 (by omega)⟩
def yU {F:FdS}(h0:¬F.ns=[]):atI (F.ns.map V.int) (F.a % ((F.ns.map V.int).length:Int))=some (.int F.cell):=by
 have hp:0<F.ns.length:=QW.2 h0;rw[LX];obtain⟨q1,q2⟩:=uJ (x:=F.a) (m:=(F.ns.length:Int)) (by omega);obtain⟨j,hj⟩:∃j:Nat,F.a % (F.ns.length:Int)=j:=⟨(F.a % (F.ns.length:Int)).toNat,by omega⟩;have hjl:j<F.ns.length:=by omega
 unfold FdS.cell;rw[Md h0,hj];refine jA ?_;rw[Mt];simp[hjl]
def FdS.cellL (F:FdS):Int:=if F.ns=[] then 0 else(F.ns[(F.a % (F.ns.length:Int)).toNat]?).getD 0
def vq {F:FdS}(h0:¬F.ns=[]):atI (F.ns.map V.int) (F.a % ((F.ns.map V.int).length:Int))=some (.int F.cellL):=by
 have e:F.cellL=F.cell:=by unfold FdS.cellL FdS.cell;rw[Md h0,Md h0]
 rw[e];exact yU h0
def nq (ns:List Int):FdS:=⟨ns,0,0,0⟩
end
section
def cC:Const->Option My
 | .int i=>some (.int i)
 | .bool b=>some (.bool b)
 | .none=>some .none
 | .str x=>some (.str x)
 | _=>none
def cI:RL->Option Int
 | .Constant c _ _=>match c with
  | .int i=>some i
  | _=>none
 | _=>none
def cU:UnaryOp->Bool
 | .USub=>true
 | _=>false
def cP:Operator->Bool
 | .Pow=>true
 | _=>false
mutual
def cj:RL->Option My
 | .Constant c _ _=>cC c
 | .UnaryOp o e _=>if cU o=true then(cI e).map λi=>.int (-i) else none
 | .BinOp a o b _=>if cP o=true then(cI a).bind λi=>(cI b).bind λj=>if yw i j then some (.int (i ^ j.toNat)) else none else none
 | .Tuple es _ _=>(bx es).bind λds=>if ds.length<=10000 then some (.tuple ds) else none
 | .List es _=>(bx es).bind λds=>if ds.length<=10000 then some (.list ds) else none
 | _=>none
def bx:List RL->Option (List My)
 | []=>some []
 | e::es=>(cj e).bind λd=>(bx es).bind λds=>some (d::ds)
end
mutual
def Q8:My->TE
 | .int i=>tC (.int i)
 | .bool b=>tC (.bl b)
 | .none=>tC .non
 | .str x=>tC (.str x)
 | .tuple ds=>Bq (aT ds)
 | .list ds=>zp (aT ds)
 | .dict _=>λ_ _ _=>False
def aT:List My->TA
 | []=>bY
 | d::ds=>N8 (Q8 d) (aT ds)
end
def lg {e:RL}{i:Int}(h:cI e=some i):∃k p,e = .Constant (.int i) k p:=by
 unfold cI at h;split at h
 .split at h
  .cases h;exact⟨_,_,rfl⟩
  .cases h
 .cases h
def pL {e:RL}{env:RQ}{d:My}(h:cj e=some d):RO (e::es) env=(false,eval e env)::RO es env:=by
 unfold cj at h;split at h
 .rfl
 .rfl
 .rfl
 .rfl
 .rfl
 .cases h
section
variable [Feeds]{K:Fg}{X:Cx}
def sq :∀n:Nat,(∀(e:RL) (d:My),sizeOf e<n->cj e=some d->Ev K X e (Q8 d) (sC d))/\(∀(es:List RL) (ds:List My),sizeOf es<n->bx es=some ds->Ea K X es (aT ds) (λ_ F=>some (ds,F))):=by
 intro n;induction n with
 | zero=>exact⟨λ_ _ h=>absurd h (Pg _),λ_ _ h=>absurd h (Pg _)⟩
 | succ n ih =>
  refine⟨λe d hn h=>?_,λes ds hn h=>?_⟩
  .unfold cj at h;split at h
   .unfold cC at h;split at h
    .cases h;simp only[Q8];exact i4
    .cases h;simp only[Q8];exact hZ
    .cases h;simp only[Q8];exact fY
    .cases h;simp only[Q8];exact Z0
    .cases h
   .rename_i o e1 p1;split at h
    .rename_i ho;obtain⟨i,e2,h2⟩:=Ms.1 h;clear h;obtain⟨k,p,rfl⟩:=lg e2;have:o = .USub:=by cases o <;> first | rfl | (exact absurd ho (by decide))
     subst this h2;simp only[Q8];have hp:PE X (.UnaryOp .USub (.Constant (.int i) k p) p1) (tUn (rU λi=>.int (-i)) (tC (.int i))):=xb nP A7;exact⟨λvv s O H Q I h=>hp vv s O H Q I ⟨i,rfl,h⟩,λG B E F O H Q d F' I e q=>by cases e;exact q _ H Kp.refl I.fd c8.int⟩
    .cases h
   .rename_i a o b p1;split at h
    .rename_i ho;obtain⟨i,e2,h2⟩:=bS9 h;clear h;obtain⟨j,e3,h⟩:=bS9 h2;clear h2;obtain⟨k,p,rfl⟩:=lg e2;obtain⟨k',p',rfl⟩:=lg e3;have:o = .Pow:=by cases o <;> first | rfl | (exact absurd ho (by decide))
     subst this;split at h
     .rename_i hc;cases h;simp only[Q8];have hp:PE X (.BinOp (.Constant (.int i) k p) .Pow (.Constant (.int j) k' p') p1) (tOp (rI yw λi j=>.int (i ^ j.toNat)) (tC (.int i)) (tC (.int j))):=G4 nH A7 A7;exact⟨λvv s O H Q I h=>hp vv s O H Q I ⟨i,j,rfl,rfl,hc,h⟩,λG B E F O H Q d F' I e q=>by cases e;exact q _ H Kp.refl I.fd c8.int⟩
     .cases h
    .cases h
   .rename_i es k p;obtain⟨ds,e1,h⟩:=bS9 h;split at h
    .rename_i hl;cases h;simp only[Q8];have hh:=ih.2 es ds (by simp at hn;omega) e1;exact⟨uZ hh.pa,λG B E F O H Q d F' I e q=>by
      cases e;refine hh.ok G B E F O H _ ds _ I rfl λvs H1 k1 f1 h1=>⟨?_,λp hp=>q _ _ (k1.trans (Kp.upd hp)) (f1.same (l6.upd hp)) (R4 (A2 I.bk k1 f1) hp h1)⟩
      rw[h1.length];exact MK hl (by rw[MQ];decide)⟩
    .cases h
   .rename_i es p;obtain⟨ds,e1,h⟩:=bS9 h;split at h
    .rename_i hl;cases h;simp only[Q8];have hh:=ih.2 es ds (by simp at hn;omega) e1;exact⟨jH hh.pa,λG B E F O H Q d F' I e q=>by
      cases e;refine hh.ok G B E F O H _ ds _ I rfl λvs H1 k1 f1 h1=>⟨?_,λp hp=>q _ _ (k1.trans (Kp.upd hp)) (f1.same (l6.upd hp)) (K7 (A2 I.bk k1 f1) hp h1)⟩
      rw[h1.length];exact MK hl (by rw[MQ];decide)⟩
    .cases h
   .cases h
  .cases es with
   | nil=>simp only[bx]at h;cases h;simp only[aT];exact l3
   | cons e es =>
    simp only[bx]at h
    obtain⟨d,e1,h⟩:=bS9 h
    obtain⟨ds',e2,h⟩:=bS9 h
    cases h
    simp only[aT]
    exact d0 (ih.1 e d (by simp at hn;omega) e1) (ih.2 es ds' (by simp at hn;omega) e2) (pL e1)
def tM (e:RL)(d:My)(h:cj e=some d):Ev K X e (Q8 d) (sC d):=(sq (sizeOf e+1)).1 e d (NZ _) h
def kf (d:My){e:RL}(h:cj e=some d):Ev K X e (Q8 d) (sC d):=tM e d h
end
end
end L3
namespace L3
open PySem
def G7:RX "len" = some (.builtin "len"):=by decide +kernel
def aF:RX "sum" = some (.builtin "sum"):=by decide +kernel
def oj:RX "min" = some (.builtin "min"):=by decide +kernel
def pQ:RX "abs" = some (.builtin "abs"):=by decide +kernel
def qG:RX "repr" = some (.builtin "repr"):=by decide +kernel
def X5:RX "sorted" = some (.builtin "sorted"):=by decide +kernel
def P5:RX "tuple" = some (.type "tuple"):=by decide +kernel
def bq:RX "list" = some (.type "list"):=by decide +kernel
def vo:RX "int" = some (.type "int"):=by decide +kernel
end L3
namespace L3
open PySem PySem.Spec PyProof.Rows L2
variable {iter tg:RL}{es:List RL}{ta tc te:TE}{p2 pos pos':Pos}
section
section
variable [Feeds]{K:Fg}{X:Cx}{a b c e:RL}{tb:TE}{ma mb mc m:DE->M My}{p:Pos}
def Y6 (i:Nat){x:Str}{px ap cp:Pos}(hK:X.K=K)(hv:Ev K X e te m)(hN:X.N[i]? = some x:=by rfl)(hvis:Vis X.env.scope x:=by walk_at "v")(hd:(x == ("__debug__":Str))=false:=by decide)(hcd:(x == ("__classdict__":Str))=false:=by decide)
  (hbase:RW (.Name x px) "append" X.env (eval (.Name x px) X.env)=eval (.Name x px) X.env:=by rfl)
  (hfew:((RR cp (RO [e] X.env)).all (λx=>!x.1)&&(Se cp (Sf [] X.env)).all (λx=>x.1.isSome)
   && decide ([e].length+([]:List RS).length+(if ([]:List RS).isEmpty then 0 else 1)<30))=true:=by rfl)
  (hline:(ap.endLine == cp.line)=true:=by rfl) (hst:RO [e] X.env=(false,eval e X.env)::RO [] X.env:=by rfl) (hplain:(RR cp (RO [] X.env)).any (·.1)=false:=by rfl)
  (hs:RV (.Call (.Attribute (.Name x px) "append" ap) [e] [] cp) none pos.line X.env=pure false:=by rfl) :
  Ss K X (.Expr (.Call (.Attribute (.Name x px) "append" ap) [e] [] cp) pos) (xa (tBM K "list" kB (cF i) (N8 te bY))) (ax i m):=by subst hK;exact⟨xI (CQ PySem.F.plainAttrs_list PySem.F.slot_list_append PySem.F.type_list_append bz (W0 hN hvis hd hcd) (A3 hv.pe J6 hst) hbase hfew hline hst hplain) hs,De hv.ok⟩
end
end
section
section
variable [Feeds]{K:Fg}{X:Cx}{a b c e:RL}{tb:TE}{ma mb mc m:DE->M My}{p:Pos}{P:RF}{w:RG}{mg:Str->Option RC}{base:RM}
def GD (K:Fg)(mg:Str->Option RC)(x:Str)(d:My):Prop:=∃a,mg x=some (.ref a)/\∀H,c8 K H d (.ref a)
def EE {x:Str}{d:My}(h:GD K X.mg x d)(hg:Gl X x:=by rfl)(hd:(x == ("__debug__":Str))=false:=by decide):Ev K X (.Name x p) (tC (.ref h.choose)) (sC d) :=
 ⟨xO hg h.choose_spec.1 rfl hd,λG B E F O H Q d F' I e q=>by cases e;exact q _ H Kp.refl I.fd (h.choose_spec.2 _)⟩
def strsOf:List RC->Option (List Str)
 | []=>some []
 | .str x _::r=>(strsOf r).map (x :: ·)
 | _=>none
theorem iY:∀{us:List RC} {ss:List Str},strsOf us=some ss->p8 (ss.map V.str) us/\∀H,b7 K H (ss.map .str) (ss.map V.str)
 | [],ss,h=>by cases h;exact⟨.nil,λH=>b7.nil⟩
 | u::r,ss,h=>by
  cases u with
  | str x t =>obtain⟨ss',e1,rfl⟩:=Ms.1 (show(strsOf r).map (x :: ·)=some ss from h);obtain⟨h1,h2⟩:=iY e1;exact⟨.cons ⟨t,rfl⟩ h1,λH=>⟨_,_,rfl,rfl,h2 H⟩⟩
  | _=>cases h
def gd_mk {h:RM}{x:Str}{t:RD}{its:Array RC}{n:Nat}{dd:Option RD}{sl:Array (Option RC)}{ss:List Str}(X:K.In h)(G:h.Ns RU mg)(hn:PySem.W.nsIn K RU x=some (some (.ref t)))(hl:K.lookup t=some ⟨.type "tuple",dd,.seq its n,sl⟩)(hs:strsOf its.toList=some ss)(hz:ss.length<=1000):GD K mg x (.tuple (ss.map .str)):=by
 obtain⟨h1,h2⟩:=iY (K:=K) hs;refine⟨t,Qy X G hn,λH=>⟨t,ss.map V.str,rfl,.inr ⟨_,its,n,hl,rfl,rfl,?_,h1⟩,h2 H⟩⟩;have:=h1.length;rw[LX]at this;have e:its.size=ss.length:=by rw[this];simp
 rw[e];exact MK hz (by rw[MQ];decide)
def qe (a:DE->M My):DE->M (List My):=λE F=>(a E F).bind λp=>match p.1 with
 | .tuple ds=>some (ds,p.2)
 | .list ds=>some (ds,p.2)
 | _=>none
def yq (hm:X.mg "list" = none)(hbt:RX "list" = some (.type "list"))(ha:Eb K X a ta ma)(hK:X.K=K)(hg:Gl X "list":=by rfl)(he:RO [a] X.env=(false,eval a X.env)::RO [] X.env:=by rfl)(hpl:(RR pos (RO [] X.env)).any (·.1)=false:=by rfl) :
  Ef K X (.Call (.Name "list" p) [a] [] pos) (tCB (λxs H Q=>∃p ys,xs=[.ref p]/\(SqL X.K H p ys\/SqT X.K H p ys)/\∀l,H l=none->Q (.ref l) (upd H l (.lst ys))) (N8 ta bY)) (qe ma) :=
 ⟨X1 dm hg hm hbt (A3 ha.pe J6 he) (by decide) (by decide) he hpl,λG B E F O H Q ds F' I e q=>by
  subst hK;obtain⟨⟨x,F1⟩,e1,e⟩:=bS9 e;walk_at "kp"
  dsimp only at e;split at e <;> try cases e
  .obtain⟨t,xs,rfl,ht,hd⟩:=h1;refine⟨t,xs,rfl,.inr (ht.same f8),λl hl=>?_⟩;have hnf:l ∉ p9 X.K G:=λz=>(A2 I.bk k1 f1).nin hl (I.fB l z)
   exact q l xs _ (k1.none hl hnf) k8 (k1.trans (Kp.upd hl)) (f1.same (l6.upd hl)) (hd.same (fO hl))
  .obtain⟨t,xs,rfl,ht,hd⟩:=h1;refine⟨t,xs,rfl,.inl (SqL.of (f8 _ _ ht)),λl hl=>?_⟩;have hnf:l ∉ p9 X.K G:=λz=>(A2 I.bk k1 f1).nin hl (I.fB l z)
   exact q l xs _ (k1.none hl hnf) k8 (k1.trans (Kp.upd hl)) (f1.same (l6.upd hl)) (hd.same (fO hl))⟩
end
end
variable {prog:RF}{vv:List (RD×RP)}
section
section
variable {w:RG}{A:RH}{E:RC->RE->Prop}{s:RE}
def U5 {it l:RD}{i:Nat}{items}{x:RC}{Q:RC->RE->Prop}(hit:s.heap.IsTupleIter it l i)
  (hl:s.heap.IsTuple l items) (hx:items[i]? = some x)
  (hQ:∀h',h'.IsTupleIter it l (i+1)->RM.SameBut it s.heap h'->Q x { s with heap:=h' }) :
  RT (model prog w) A (Builtin.SmallTypes.nextOf (.ref it)) Q E s:=by
 walk_at "kx"
 walk_at "kk";simp only[Od,hx];refine LV (QZ ho hd (by simp) (LY ⟨x,rfl,LY (hQ _ ?_ (NJ ..))⟩));exact⟨_,RM.get?_update_self _ ho (RP.isFreed_of_fields (Qa hd _)),(RP.cls_mapFields ..).trans hc,by rw[Qa hd];simp[rawInt]⟩
def W7 {it l:RD}{i:Nat}{items}{Q:RC->RE->Prop}(hh:A.handled=none)
  (hit:s.heap.IsTupleIter it l i) (hl:s.heap.IsTuple l items) (hx:items[i]? = none)
  (hE:∀h' e,RM.ExtBut it s.heap h'->(∃o,h'.get? e=some o/\o.cls = .type "StopIteration")->E (.ref e) { s with heap:=h' }) :
  RT (model prog w) A (Builtin.SmallTypes.nextOf (.ref it)) Q E s:=by
 walk_at "kx"
 walk_at "kk";simp only[Od,hx];refine LV (Oi (LV (QZ ho hd (by simp) ?_)));walk_at "kn";first | rw[show A.in1.handled=none from hh] | rw[hh]
 refine LV (LY (wpAny_throw ?_));exact hE _ _ (((NJ ..).extBut.push _).push _) ⟨_,Mp _ rfl,rfl⟩
end
def K6 (b:Bool)(h:RM)(it l:RD)(i:Nat):Prop:=if b then h.IsListIter it l i else h.IsTupleIter it l i
def Y8 (b:Bool)(h:RM)(l:RD)(items:Array RC):Prop:=if b then h.IsList l items else h.IsTuple l items
def K6.at {b:Bool}{h h':RM}{it l:RD}{i:Nat}(x:K6 b h it l i)(k:∀o,h.get? it=some o->h'.get? it=some o):K6 b h' it l i:=by
 cases b
 .exact RM.IsTupleIter.at (show h.IsTupleIter it l i from x) k
 .exact RM.IsListIter.at (show h.IsListIter it l i from x) k
def Y8.at {b:Bool}{h h':RM}{l:RD}{items:Array RC}(x:Y8 b h l items)(k:∀o,h.get? l=some o->h'.get? l=some o):Y8 b h' l items:=by
 cases b
 .obtain⟨o,ho,r⟩:=(show h.IsTuple l items from x);exact⟨o,k o ho,r⟩
 .exact RM.IsList.at (show h.IsList l items from x) k
def K6.obj {b:Bool}{h:RM}{it l:RD}{i:Nat}(x:K6 b h it l i):∃o,h.get? it=some o/\∀v,o.data ≠ .cell v:=by
 cases b
 .obtain⟨o,e,c,d⟩:=(show h.IsTupleIter it l i from x);exact⟨o,e,λv z=>by rw[d]at z;cases z⟩
 .obtain⟨o,e,c,d⟩:=(show h.IsListIter it l i from x);exact⟨o,e,λv z=>by rw[d]at z;cases z⟩
def mn {w:RG}{A:RH}(b:Bool)(hh:A.handled=none)(it l:RD)(hne:l≠it)(items:Array RC) :
  Draws prog w A it [it,l] items.size (λi v=>items[i]? = some v) (λi h=>K6 b h it l i/\Y8 b h l items) where
 live:=λ_ _ st=>let ⟨o,ho,_⟩:=st.1.obj;⟨o,ho⟩
 frame:=λ_ _ _ st hk=>⟨st.1.at λo e=>hk it (by simp) o e,st.2.at λo e=>hk l (by simp) o e⟩
 item:=λi s Q E hi st hQ=>by
  cases b
  .refine U5 (show s.heap.IsTupleIter it l i from st.1) (show s.heap.IsTuple l items from st.2) (x:=items[i]) (by simp[hi]) λh' hit' hs'=>?_
   exact hQ _ h' s.toks (by simp[hi]) ⟨hit',st.2.at λo e=>hs'.extBut l o hne e⟩ hs'
  .refine wpAny_nextOf_list_item (show s.heap.IsListIter it l i from st.1) (show s.heap.IsList l items from st.2) (x:=items[i]) (by simp[hi]) λh' hit' hs'=>?_
   exact hQ _ h' s.toks (by simp[hi]) ⟨hit',st.2.at λo e=>hs'.extBut l o hne e⟩ hs'
 done:=λs Q E st hE=>by
  cases b
  .exact W7 hh (show s.heap.IsTupleIter it l items.size from st.1) (show s.heap.IsTuple l items from st.2) (by simp) hE
  .exact wpAny_nextOf_list_end hh (show s.heap.IsListIter it l items.size from st.1) (show s.heap.IsList l items from st.2) (by simp) hE
open AutoSeq1 (wpAny_loadPart') in
def aw (l:RD)(items:Array RC)(n:Nat)(dct:Option RD)(sl:Array (Option RC)) :
  Meets (Builtin.«enumerate.__new__» ⟨[.type "enumerate",.ref l],[]⟩) (λ_ R s=>s.heap.get? l=some { cls:=.type "tuple",dict:=dct,data:=.seq items n,slots:=sl } /\
   R (.ok (.ret (.ref (s.heap.push { cls:=.type "tuple_iterator",data:=.fields #[.ref l,.int 0 0] }).objs.size)))
    { s with heap:=(s.heap.push { cls:=.type "tuple_iterator",data:=.fields #[.ref l,.int 0 0] }).push { cls:=.type "enumerate",data:=.fields #[.none,.bool false,.ref s.heap.objs.size,rawInt 0,.none,.none] } }) :=
 .of_wp λprog w A R s h=>by
  obtain⟨hp,g,d,tk,os⟩:=s;obtain⟨hl,h⟩:=h;have hsub:=sub_enumerate;have hL:RM.IsTuple (RE.heap ⟨hp,g,d,tk,os⟩) l items:=⟨_,hl,rfl,n,rfl⟩;wp_walk using wpAny_loadPart' hl;refine wpAny_stack_any λst=>LY ?_
  split
  .rename_i c _ _ _ _ _;cases(c == RC.type "enumerate")
   .wp_walk using wpAny_loadPart' hl,Oq hL;exact⟨_,rfl,h⟩
   .wp_walk using wpAny_loadPart' hl,Oq hL;exact⟨_,rfl,h⟩
  .wp_walk using wpAny_loadPart' hl,Oq hL;exact⟨_,rfl,h⟩
section
variable {w:RG}{A:RH}{E:RC->RE->Prop}{s:RE}
def aL {l:RD}{items:Array RC}{Q:RC->RE->Prop}(hL:s.heap.IsTuple l items)
  (h:∀h',IsEnum h' (s.heap.objs.size+1) s.heap.objs.size 0 .none->h'.IsTupleIter s.heap.objs.size l 0->h'.objs.size=s.heap.objs.size+2 ->
   (∀b o,s.heap.get? b=some o->h'.get? b=some o)->Q (.ref (s.heap.objs.size+1)) { s with heap:=h' }) :
  RT (model prog w) A (call (.type "enumerate") [.ref l]) Q E s:=by
 obtain⟨⟨c,dct,dt,sl⟩,hl,hc,n,hd⟩:=hL;replace hc:c = .type "tuple":=hc;replace hd:dt = .seq items n:=hd;subst hc hd;refine callType_new PySem.F.called_enumerate (by decide) (PySem.F.typeCall_enumerate_1 _) (PySem.F.newCall_enumerate_1 _) (λobj=>PySem.F.args_object_init_2 obj _) PySem.F.entry_enumerate_new
  (aw l items n dct sl) ⟨hl,?_⟩
 have hz:(s.heap.push { cls:=.type "tuple_iterator",data:=.fields #[.ref l,.int 0 0] }).objs.size=s.heap.objs.size+1:=NB ..;show _/\_;rw[hz];have he:IsEnum ((s.heap.push { cls:=.type "tuple_iterator",data:=.fields #[.ref l,.int 0 0] }).push
   { cls:=.type "enumerate",data:=.fields #[.none,.bool false,.ref s.heap.objs.size,rawInt 0,.none,.none] }) (s.heap.objs.size+1) s.heap.objs.size 0 .none:=by
  have:=Mp (s.heap.push { cls:=.type "tuple_iterator",data:=.fields #[.ref l,.int 0 0] })
   (o:={ cls:=.type "enumerate",data:=.fields #[.none,.bool false,.ref s.heap.objs.size,rawInt 0,.none,.none] }) rfl
  rw[hz]at this;exact this
 refine⟨⟨_,he,rfl⟩,h _ he ⟨_,LZ _ (Mp _ rfl),rfl,rfl⟩ (by rw[NB,hz]) λb o x=>LZ _ (LZ _ x)⟩
def rV {b:Bool}{l:RD}{items:Array RC}{Q:RC->RE->Prop}(hL:Y8 b s.heap l items)
  (h:∀h',IsEnum h' (s.heap.objs.size+1) s.heap.objs.size 0 .none->K6 b h' s.heap.objs.size l 0->h'.objs.size=s.heap.objs.size+2 ->
   (∀b o,s.heap.get? b=some o->h'.get? b=some o)->Q (.ref (s.heap.objs.size+1)) { s with heap:=h' }) :
  RT (model prog w) A (call (.type "enumerate") [.ref l]) Q E s:=by
 cases b
 .exact aL (show s.heap.IsTuple l items from hL) h
 .exact call_enumerate_list (show s.heap.IsList l items from hL) h
end
def SqA (b:Bool)(K:Fg)(H:Hp)(a:RD)(xs:List V):Prop:=if b then SqL K H a xs else SqT K H a xs
def Ite (b:Bool)(K:Fg)(a:RD):It :=
 ⟨λi H=>∃xs x,SqA b K H a xs/\xs[i]? = some x,λi H v H'=>∃t x,v = .ref t/\H t=none/\H'=upd H t (.tup [.int i,x])/\∀xs,SqA b K H a xs->xs[i]? = some x,λi H=>∃xs,SqA b K H a xs/\xs.length=i⟩
def SqA.get {b:Bool}{X:Cx}{O:St}{H:Hp}{s:RE}{a:RD}{xs:List V}(I:Inv X vv O H s)(h:SqA b X.K H a xs):∃its:List RC,p8 xs its/\Y8 b s.heap a its.toArray:=by
 cases b
 .obtain⟨its,rv,p,_⟩:=I.tuple (show SqT X.K H a xs from h);exact⟨its,rv,p⟩
 .obtain⟨its,rv,p,_⟩:=I.list (show SqL X.K H a xs from h);exact⟨its,rv,p.isList⟩
def SqA.inj {b:Bool}{X:Cx}{O:St}{H:Hp}{s:RE}{a:RD}{xs ys:List V}(I:Inv X vv O H s)(h:SqA b X.K H a xs)(h':SqA b X.K H a ys):ys=xs:=by
 cases b
 .exact I.tuple_inj (show SqT X.K H a ys from h') (show SqT X.K H a xs from h)
 .exact I.list_inj (show SqL X.K H a ys from h') (show SqL X.K H a xs from h)
end
section
def mw {h:RM}{c:RD}{o o':RP}(hl:c<h.objs.size)(e:(h.push o).get? c=some o'):h.get? c=some o':=by obtain⟨e1,e2⟩:=RM.get?_some_iff.1 e;refine RM.get?_some_iff.2 ⟨?_,e2⟩;have:=MC hl;cases h;simpa [RM.push,Array.getElem?_push,this] using e1
def Y3 {X:Cx}{O:St}{H:Hp}{s:RE}{h':RM}{t':Nat}{fp:List RD}(I:Inv X vv O H s)(hf:∀b∈fp,cE X vv H b)(k:∀b o,b ∉ fp->s.heap.get? b=some o->h'.get? b=some o):Inv X vv O H { s with heap:=h',toks:=t' }:=by
 have nit:∀b u,H b=some u->b ∉ fp:=λb u e z=>by rw[(hf b z).1]at e;cases e
 refine I.step (g':=s.gens) (d':=s.drawn) (ch:=fp) (λb hb=>?_) (λb o _ _ hc e _=>k b o hc e) (λb o _ _ hc e _=>⟨o.slots,k b o hc e⟩) (λ_ _ _ _ n=>n)
  (λb o hc e=>⟨o,k b o hc e⟩) (λ_ _ e=>e) (λ_ _ _ e=>e) (λb ps e=>⟨#[],by rw[e];simp⟩) (λm hm=>?_) (λb u e=>?_) I.bare
 .obtain⟨_,f1,f2,f3,f4,f5⟩:=hf b hb;exact⟨f3,f1,f4,f5⟩
 .obtain⟨o,es,ep,ho,r⟩:=hm;exact⟨o,es,ep,k _ o (λz=>(hf _ z).2.1 rfl) ho,r⟩
 .refine(I.hok b u e).stay (λc v hc q=>k c v ?_ q) (λ_ q=>q) λ_ _ q=>q
  rcases hc with z | z
  .rw[z];exact nit b u e
  .exact nit c _ z
def rZ {P:RF}{w:RG}{K:Fg}{k:Nat}(b:Bool)(a e it:RD):Turn P w K (.Tuple es k pos) (Ite b K a) [e,it] e (λi h=>(e≠it/\a≠e/\a≠it)/\(∃old,IsEnum h e it i old)/\K6 b h it a i) where
 mem:=by simp
 obj:=λi h st c hb=>by
  obtain⟨_,⟨old,he⟩,hit⟩:=st;rcases Mi.1 hb with rfl | hb
  .exact⟨_,he,λv z=>by cases(show Data.fields _=Data.cell v from z)⟩
  .rw[Ni.1 hb];exact hit.obj
 keep:=λi h h' st kk=>by obtain⟨n,⟨old,he⟩,hit⟩:=st;exact⟨n,⟨old,kk e (by simp) _ he⟩,hit.at λo z=>kk it (by simp) o z⟩
 item:=by
  walk_at "ku";obtain⟨⟨n1,n2,n3⟩,⟨old,he⟩,hit⟩:=st;obtain⟨xs,x,hq,hx⟩:=hg;obtain⟨its,rv,p⟩:=SqA.get I hq;obtain⟨u,hu,ru⟩:=rv.get hx;have hlt:i<its.toArray.size:=by have:=(Mj.1 hu).1;simpa using this
  have hel:e<s.heap.objs.size:=Mm he;have hil:it<s.heap.objs.size:=by obtain⟨o,z,_⟩:=hit.obj;exact Mm z
  refine wpAny_pyNext_enum_itemD (mn b (A:=X.A.in1) (I.ok.hd hc) it a n3 its.toArray) he ⟨hit,p⟩ hlt n1 (by simp[n1,OU n2]) λy h' tk hy ho hst' ht hz hk=>?_
  have hyu:y=u:=by have hy:its.toArray[i]? = some y:=hy;rw[OO,hu]at hy;exact(Mg hy).symm
  subst hyu;refine⟨_,rfl,wpAny_letOwnedTupleGo_enum ho λh2 he2 hs2=>?_⟩;have hs2:RM.SameBut e h' h2:=hs2;have hf0:H s.heap.objs.size=none:=I.hok.fresh (Mh _);have I1:Inv X vv O (upd H s.heap.objs.size (.tup [.int i,x])) { s with heap:=s.heap.push { cls:=.type "tuple",data:=.seq #[.int i tk,y] },toks:=tk }:=by refine I.laid (t':=tk) (λb u e=>LZ _ e) (Mh _) ?_;exact⟨MK (show 2<=10000 by decide) (by rw[MQ];decide),[.int i tk,y],.cons ⟨tk,rfl⟩ (.cons ru .nil),⟨_,Mp _ rfl,rfl,_,rfl⟩⟩
  have hfp:∀c∈[e,it],cE X vv (upd H s.heap.objs.size (.tup [.int i,x])) c:=λc hcm=>by
   obtain⟨f0,f⟩:=hf c hcm;have hne:c≠s.heap.objs.size:=by
    rcases Mi.1 hcm with rfl | hcm
    .exact MC hel
    .rw[Ni.1 hcm];exact MC hil
   exact⟨by rw[i3 hne];exact f0,f⟩
  have hT2:h2.get? s.heap.objs.size=some { cls:=.type "tuple",data:=.seq #[.int i tk,y] }:=hs2.extBut _ _ (Pl hel) ht;have I2:Inv X vv O (upd H s.heap.objs.size (.tup [.int i,x])) { s with heap:=h2,toks:=tk+1 }:=by
   refine Y3 (s:={ s with heap:=s.heap.push { cls:=.type "tuple",data:=.seq #[.int i tk,y] },toks:=tk }) I1 hfp λc o hcn ec=>?_
   have c1:c≠e:=λz=>hcn (by simp[z])
   have c2:c≠it:=λz=>hcn (by simp[z])
   by_cases hcT:c=s.heap.objs.size
   .subst hcT;have:(s.heap.push { cls:=.type "tuple",data:=.seq #[.int i tk,y] }).get? s.heap.objs.size=some o:=ec;rw[Mp _ rfl]at this;rw[hT2];exact this
   .have hlc:c<s.heap.objs.size:=by have h1:c<(s.heap.push { cls:=.type "tuple",data:=.seq #[.int i tk,y] }).objs.size:=Mm ec;rw[NB]at h1;exact Nat.lt_of_le_of_ne (Nat.le_of_lt_succ h1) hcT
    have ec':s.heap.get? c=some o:=by have ec:(s.heap.push { cls:=.type "tuple",data:=.seq #[.int i tk,y] }).get? c=some o:=ec;exact mw hlc ec
    exact hs2.extBut c o c1 (hk c o c1 c2 ec')
  refine⟨.ref s.heap.objs.size,upd H s.heap.objs.size (.tup [.int i,x]),I2,rfl,⟨_,x,rfl,hf0,rfl,λys hy=>by rw[SqA.inj I hq hy];exact hx⟩,⟨⟨n1,n2,n3⟩,⟨y,by simpa using he2⟩,hst'.1.at λo z=>hs2.extBut it o (OU n1) z⟩,λc hcm=>(hfp c hcm).1⟩
 done:=by
  walk_at "ku";obtain⟨⟨n1,n2,n3⟩,⟨old,he⟩,hit⟩:=st;obtain⟨xs,hq,hx⟩:=hg;obtain⟨its,rv,p⟩:=SqA.get I hq;have hl:its.toArray.size=i:=by rw[Mr,<-rv.length];exact hx
  refine wpAny_pyNext_enum_endD (mn b (A:=X.A.in1) (I.ok.hd hc) it a n3 its.toArray) he (by rw[hl];exact⟨hit,p⟩) λh' eb=>⟨rfl,Y3 (t':=s.toks) I hf λc o hc ec=>eb c o (λz=>hc (by simp[z])) ec⟩
 self:=λ_ _ _ _ _ st h=>by obtain⟨_,⟨old,he⟩,_⟩:=st;exact wpAny_pyIter_enum he h
section
variable [Feeds]{K:Fg}{X:Cx}{e:RL}{m:DE->M My}{p tp:Pos}{tk:Nat}
def R0:Nat->List My->List My
 | _,[]=>[]
 | k,d::r=>.tuple [.int k,d]::R0 (k+1) r
theorem js:∀{ds:List My} {k:Nat},(R0 k ds).length=ds.length
 | [],k=>rfl
 | d::r,k=>by rw[R0,Mf,Mf,js]
theorem iJ:∀{ds:List My} {k i:Nat} {z:My},(R0 k ds)[i]? = some z->∃d,ds[i]? = some d/\z = .tuple [.int ((k+i:Nat)),d]
 | [],k,i,z,h=>by simp[R0]at h
 | d::r,k,0,z,h=>by simp[R0]at h;exact⟨d,by simp,by simp[h]⟩
 | d::r,k,i+1,z,h=>by rw[R0,OB]at h;obtain⟨d',h1,h2⟩:=iJ h;refine⟨d',by simpa using h1,?_⟩;rw[h2,show k+1+i=k+(i+1) by omega]
def jl (a:DE->M My):DE->M (List My):=λE F=>(a E F).bind λp=>(gO p.1).bind λds=>some (R0 0 ds,p.2)
def uE (K:Fg)(tl:TA):TI:=λO H R=>tl O H λxs H1=>∃a,xs=[.ref a]/\∃b ys,SqA b K H1 a ys/\R (Ite b K a) H1
def qA {l:RL}{tl:TA}(hK:X.K=K)(hg:Gl X "enumerate")(hm:X.mg "enumerate" = none)(ha:PA X [l] tl)(hs:RO [l] X.env=[(false,eval l X.env)]:=by rfl):PI X (.Tuple es tk tp) (.Call (.Name "enumerate" p) [l] [] pos) (uE K tl):=by
 subst hK;intro vv s O H R I h;refine Call_ (cy I hg hm boot_enumerate (Of (thn (ha pos vv s O H _ I h) λus s1 ⟨vs,H1,I1,r1,q1⟩=>?_) hs rfl));obtain⟨a,e,b,ys,hq,q⟩:=q1;subst e;cases r1 with
 | cons r rr =>
  cases rr;cases r;obtain⟨its,rv,p⟩:=SqA.get I1 hq;refine rV p λh' he hit hz hk=>?_
  have I2:Inv X vv O H1 { s1 with heap:=h' }:=I1.kept (t':=s1.toks) hk;have hal:a<s1.heap.objs.size:=by
   cases b
   .obtain⟨o,z,_⟩:=(show s1.heap.IsTuple a its.toArray from p);exact Mm z
   .obtain⟨o,z,_⟩:=(show s1.heap.IsList a its.toArray from p);exact Mm z
  refine wpAny_pyIter_enum he ⟨s1.heap.objs.size+1,[s1.heap.objs.size+1,s1.heap.objs.size],_,_,H1,rfl,I2,rZ b a _ _,⟨⟨Nat.succ_ne_self _,MC (Oe hal),MC hal⟩,⟨_,he⟩,hit⟩,λc hc=>?_,q⟩;have hle:s1.heap.objs.size<=c:=by
   rcases Mi.1 hc with rfl | hc
   .exact OI _
   .rw[Ni.1 hc];exact Mh _
  exact I1.fpOk hle (I1.hok.fresh hle)
def fD {P:Hp->List RD->Prop}{b:Bool}{a:RD}{ds:List My}{xs:List V}(h:∀H B,P H B->SqA b K H a xs/\b7 K (hid H B) ds xs):cu K P (Ite b K a) (R0 0 ds):=λH B hp=>by obtain⟨h1,h2⟩:=h H B hp;refine⟨λi d e=>?_,⟨xs,h1,by rw[js,h2.length]⟩⟩;obtain⟨d',hd',rfl⟩:=iJ e;obtain⟨v,e1,e2⟩:=b7.item h2 hd';refine⟨⟨xs,v,h1,e1⟩,λx H2 y=>?_⟩;obtain⟨t,x',rfl,ht,rfl,y⟩:=y;have:=y xs h1;rw[e1]at this;cases this;refine⟨l6.upd ht,λbk=>?_⟩;rw[MM];exact R4 bk ht ⟨_,_,rfl,c8.int,_,_,rfl,e2,rfl⟩
def yH (h:Ev K X e te m)(hm:X.mg "enumerate" = none)(hK:X.K=K:=by rfl)(hg:Gl X "enumerate":=by rfl)(hs:RO [e] X.env=[(false,eval e X.env)]:=by rfl):Ei K X (.Tuple es tk tp) (.Call (.Name "enumerate" p) [e] [] pos) (uE K (N8 te bY)) (jl m):=⟨qA hK hg hm (A3 h.pe J6 hs) hs,λG B E F O H R ds F' I e q=>by
 walk_at "km"
 cases y with
 | list ys =>cases e2;simp only[c8]at h1;obtain⟨a,xs,rfl,ha,hd⟩:=h1;exact⟨a,rfl,true,xs,SqL.of (f8 _ _ ha),q _ H1 k1 f1 (fD λH2 B2 s=>⟨SqL.of (f8 _ _ (s _ _ ha)),hd.same s⟩)⟩
 | tuple ys =>cases e2;simp only[c8]at h1;obtain⟨a,xs,rfl,ha,hd⟩:=h1;exact⟨a,rfl,false,xs,ha.same f8,q _ H1 k1 f1 (fD λH2 B2 s=>⟨(ha.same s).same f8,hd.same s⟩)⟩
 | _=>cases e2⟩
def tO (h:Eb K X e te m)(hm:X.mg "enumerate" = none)(hK:X.K=K:=by rfl)(hg:Gl X "enumerate":=by rfl)(hs:RO [e] X.env=[(false,eval e X.env)]:=by rfl):Eib K X (.Tuple es tk tp) (.Call (.Name "enumerate" p) [e] [] pos) (uE K (N8 te bY)) (jl m):=⟨qA hK hg hm (A3 h.pe J6 hs) hs,λG B E F O H R ds F' I e q=>by
 walk_at "km"
 cases y with
 | list ys =>cases e2;obtain⟨a,xs,rfl,ha,hd⟩:=h1;exact⟨a,rfl,true,xs,SqL.of (f8 _ _ ha),q _ H1 k1 f1 (fD λH2 B2 k=>⟨SqL.of (f8 _ _ (k.1.hid (B:=p9 K G) (λ_ z=>z) _ _ ha)),hd.same k.2⟩)⟩
 | tuple ys =>cases e2;obtain⟨a,xs,rfl,ha,hd⟩:=h1;exact⟨a,rfl,false,xs,ha.same f8,q _ H1 k1 f1 (fD λH2 B2 k=>⟨(ha.same k.2).same f8,hd.same k.2⟩)⟩
 | _=>cases e2⟩
end
end
section
section
variable [Feeds]{K:Fg}{X:Cx}{a b c e:RL}{tb:TE}{ma mb mc m:DE->M My}{p:Pos}{t u:TS}{mt mu:DE->M Out}
def cR (c:DE->M Bool)(b:DE->M Out):Nat->DE->M Out
 | 0,_,_=>none
 | n+1,E,F=>(c E F).bind λp=>if p.1=true then(b E p.2).bind λq=>match q.1 with
  | .nx E2=>cR c b n E2 q.2
  | .ct E2=>cR c b n E2 q.2
  | .bk E2=>some (.nx E2,q.2)
  | .rt d=>some (.rt d,q.2)
  else some (.nx E,p.2)
theorem bh {c:DE->M Bool}{b:DE->M Out}:∀{n m:Nat} {E:DE} {F:FS} {r:Out×FS},n<=m->cR c b n E F=some r->cR c b m E F=some r
 | 0,m,E,F,r,_,h=>by cases h
 | n+1,0,E,F,r,hl,h=>absurd hl (by omega)
 | n+1,m+1,E,F,r,hl,h=>by
  rw[cR]at h ⊢;obtain⟨⟨x,F1⟩,e1,h⟩:=bS9 h;rw[e1,MF];dsimp only at h ⊢;cases x with
  | false=>exact h
  | true =>
   rw[Mb rfl]at h ⊢;obtain⟨⟨o,F2⟩,e2,h⟩:=bS9 h;rw[e2,MF];cases o with
   | nx E2=>exact bh (n:=n) (m:=m) (by omega) h
   | ct E2=>exact bh (n:=n) (m:=m) (by omega) h
   | bk E2=>exact h
   | rt d=>exact h
open Classical in
def mWh (c:DE->M Bool)(b:DE->M Out):DE->M Out:=λE F=>if h:∃n r,cR c b n E F=some r then some (Classical.choose (OP h)) else none
def BJ {c:DE->M Bool}{b:DE->M Out}{n:Nat}{E:DE}{F:FS}{r:Out×FS}(h:cR c b n E F=some r):mWh c b E F=some r:=by unfold mWh;have hx:∃n r,cR c b n E F=some r:=⟨n,r,h⟩;rw[dif_pos hx];have h2:=OP (OP hx);have a1:=bh (Nat.le_max_left n (Classical.choose hx)) h;have a2:=bh (Nat.le_max_right n (Classical.choose hx)) h2;rw[a1]at a2;exact a2.symm
def BV {c:DE->M Bool}{b:DE->M Out}{E:DE}{F:FS}{r:Out×FS}(h:mWh c b E F=some r):∃n,cR c b n E F=some r:=by
 unfold mWh at h;split at h
 .rename_i hx;cases h;exact⟨_,OP (OP hx)⟩
 .cases h
def xY {tt:TT}{tb:TS}{mc:DE->M Bool}{mb:DE->M Out}(hc:TTd K tt mc)(hb:TSd K tb mb):TSd K (pB tt tb) (mWh mc mb):=λG B0 H0 E F O H D r F' S e q=>by
 obtain⟨n,e⟩:=BV e;refine⟨λm O H=>∃E F,Sit K G B0 H0 E F O H/\cR mc mb m E F=some (r,F'),⟨n,E,F,S,e⟩,?_⟩;rintro m σ2 H2 ⟨E2,F2,S2,e2⟩;cases m with
 | zero=>cases e2
 | succ m =>
  rw[cR]at e2;obtain⟨⟨x,F3⟩,e3,e2⟩:=bS9 e2;obtain⟨B,s,sn,I⟩:=S2.ex;refine hc G B E2 F2 σ2 H2 _ x F3 I e3 λH3 k3 f3=>?_
  have S3:=S2.step k3 f3;cases x with
  | false =>rw[Md Mz];cases e2;exact q σ2 H3 S3
  | true =>
   rw[Mb rfl];rw[Mb rfl]at e2;obtain⟨⟨o,F4⟩,e4,e2⟩:=bS9 e2;refine⟨λO' H'=>∃E F,Sit K G B0 H0 E F O' H'/\cR mc mb m E F=some (r,F'),λO' H' h=>⟨m,NZ _,h⟩,?_⟩;refine hb G B0 H0 E2 F3 σ2 H3 _ o F4 S3 e4 ?_;cases o with
   | nx E6=>exact λσ6 H6 S6=>⟨E6,F4,S6,e2⟩
   | ct E6=>exact λσ6 H6 S6=>⟨E6,F4,S6,e2⟩
   | bk E6=>cases e2;exact λσ6 H6 S6=>q σ6 H6 S6
   | rt d=>cases e2;exact λv H6 k6 f6 h6=>q v H6 k6 f6 h6
def mM {body:List RK}{tt:TT}{tb:TS}{mc:DE->M Bool}{mb:DE->M Out}(hc:Et K X c tt mc)(hb:Sss K X body tb mb)(hp:PassesOwn (model X.prog X.w) X.A X.env X.xe:=by exact PassesOwn.never):Ss K X (.While c body [] pos) (pB tt tb) (mWh mc mb) :=
 ⟨wq hp hc.pt hb.ps,xY hc.ok hb.ok⟩
end
end
section
section
variable [Feeds]{K:Fg}{X:Cx}{a b c e:RL}{tb:TE}{ma mb mc m:DE->M My}{p:Pos}
end
end
section
section
variable {X:Cx}
end
section
variable [Feeds]{K:Fg}{X:Cx}{a b c e:RL}{tb:TE}{ma mb mc m:DE->M My}{p pos2:Pos}
def rY {lo:Int}{n:Nat}{acc:Array RC}(h:ItemsOf (λi v=>∃t,v=RC.int (lo+i*1) t) acc n):p8 ((List.range n).map λ(i:Nat)=>V.int (lo+(i:Int))) acc.toList:=by
 obtain⟨h1,h2⟩:=h;refine P9 (by rw[LX,MB,MZ,h1]) λi x u hx hu=>?_
 rw[Mt]at hx;obtain⟨j,hj,rfl⟩:=Ms.1 hx;obtain⟨hlt,e⟩:=Mj.1 hj;rw[PY]at e;subst e;obtain⟨t,rfl⟩:=h2 i u (by rw[<-Nc];exact hu);exact⟨t,by congr 1;omega⟩
def zO :List V->Hp->VK->Prop:=λxs H Q=>∃(p:RD) (i j:Int),xs=[.ref p]/\H p=some (.rng i j) /\ -(2 ^ 62)<=i/\i<2 ^ 62 /\ -(2 ^ 62)<=j/\j<2 ^ 62/\(j-i).toNat<=1000/\∀l,H l=none->Q (.ref l) (upd H l (.lst ((List.range (j-i).toNat).map λ(k:Nat)=>V.int (i+(k:Int)))))
def gv (hc:X.calm=true):A8 X (.type "list") zO:=by
 walk_at "kz";obtain⟨p,i,j,rfl,hp,i0,i1,j0,j1,hz,q⟩:=h;walk_at "kaf";obtain⟨t,u,v,hr⟩:=(show D5 X.prog X.w H s.heap p (.rng i j) from I.hok p _ hp);have hn:Builtin.Range.rangeSize i j 1=((j-i).toNat:Int):=by rw[rangeSize_one];split <;> omega
 refine call_list_range (n:=(j-i).toNat) (I.ok.hd hc) hr (small_one (by omega) (by omega) (by omega) (by omega)) hn (by omega) λh' tk acc c' hk hS hit=>?_
 have I1:Inv X vv O (upd H s.heap.objs.size (.lst ((List.range (j-i).toNat).map λ(k:Nat)=>V.int (i+(k:Int))))) { s with heap:=h',toks:=tk } :=
  I.laid (a:=s.heap.objs.size) hk (Mh _) ⟨by rw[LX,MB];exact Ov (jo (by omega)),acc.toList,c',rY hit,by rw[hS]⟩
 exact⟨.ref s.heap.objs.size,_,I1,rfl,q _ (I.hok.fresh (Mh _))⟩
theorem mD {H:Hp}{lo:Int}:∀{ns:List Nat},b7 K H (ns.map λ(i:Nat)=>My.int (lo+i)) (ns.map λ(k:Nat)=>V.int (lo+(k:Int)))
 | []=>b7.nil
 | n::r=>⟨_,_,rfl,c8.int,mD (ns:=r)⟩
def jC (a:DE->M (List My)):DE->M My:=λE F=>(a E F).bind λp=>(af p.1).bind λds=>if ds.length<=1000 then some (.list ds,p.2) else none
def uD {ta:TA}{ms:DE->M (List My)}(h:Ea K X [a] ta ms)(hc:X.calm=true)(hm:X.mg "range" = none)(hml:X.mg "list" = none)(hbt:RX "list" = some (.type "list"))(hg:Gl X "range":=by rfl)(hgl:Gl X "list":=by rfl)(hs:RO [a] X.env=[(false,eval a X.env)]:=by rfl)
  (he:RO [.Call (.Name "range" p2) [a] [] pos2] X.env=(false,eval (.Call (.Name "range" p2) [a] [] pos2) X.env)::RO [] X.env:=by rfl) (hpl:(RR pos (RO [] X.env)).any (·.1)=false:=by rfl) :
  Ev K X (.Call (.Name "list" p) [.Call (.Name "range" p2) [a] [] pos2] [] pos) (tCB zO (N8 (DY ta) bY)) (jC ms) :=
 ⟨X1 (gv hc) hgl hml hbt (A3 (vA hg hm h.pa hs) J6 he) (by decide) (by decide) he hpl,λG B E F O H Q d F' I e q=>by
  obtain⟨⟨ys,F1⟩,e1,e⟩:=bS9 e;obtain⟨z,e2,e⟩:=bS9 e;split at e
  .rename_i hz;cases e;refine h.ok G B E F O H _ ys F1 I e1 λvs H1 k1 f1 h1=>?_
   unfold af at e2;split at e2
   .rename_i j hj;split at e2
    .rename_i hc;cases e2;have hj:ys=[.int j]:=hj;subst hj;simp only[b7]at h1;obtain⟨x,r,rfl,h2,rfl⟩:=h1;simp only[c8]at h2;subst h2;have hz:(fw 0 j.toNat).length<=1000:=hz;simp[fw]at hz;refine⟨j,rfl,λp hp=>⟨p,0,j,rfl,k8,by omega,by omega,hc.1,hc.2,by omega,λl hl=>?_⟩⟩;have bk1:=A2 I.bk k1 f1;have bk2:BOk (upd H1 p (.rng 0 j)) B:=λb hb=>by obtain⟨o,eo⟩:=bk1 b hb;exact⟨o,by rw[i3 (m6 eo hp)];exact eo⟩
     rw[Int.sub_zero];exact q _ _ ((k1.trans (Kp.upd hp)).trans (Kp.upd hl)) ((f1.same (l6.upd hp)).same (l6.upd hl)) (K7 bk2 hl mD)
    .cases e2
   .cases e2
  .cases e⟩
end
end
section
section
variable {w:RG}{A:RH}{E:RC->RE->Prop}{s:RE}
end
section
variable {X:Cx}{K:Fg}{p pos2:Pos}
end
section
variable {w:RG}{A:RH}{E:RC->RE->Prop}{s:RE}
def ke {l:RD}{xs:Array (Int×Tok)}{Q:RC->RE->Prop}(hh:A.handled=none)(hl:s.heap.IsTuple l (intItems xs))
  (h:∀h' tk t',(∀b o,s.heap.get? b=some o->h'.get? b=some o)->Q (.int (preSum (numAt xs) xs.size) t') { s with heap:=h',toks:=tk }) :
  RT (model prog w) A (call (.builtin "sum") [.ref l]) Q E s:=by
 have hlt:l<s.heap.objs.size:=by obtain⟨_,e,_⟩:=hl;exact Mm e
 refine call_sum_walkG (Oq hl ?_);refine⟨s.heap.objs.size,[s.heap.objs.size,l],[s.heap.objs.size],_,_,_,numAt xs,rfl,Walks.tuple (A:=A.in1) hh _ l (MC hlt) (intItems xs),⟨⟨_,Mp _ rfl,rfl,rfl⟩,hl.push _⟩,λb hb=>?_,(λ_ _=>intItems_at),λh' tk t' hk=>?_⟩
 .show b<(s.heap.push _).objs.size;rw[NB];rcases Mi.1 hb with rfl | hb
  .exact NZ _
  .rw[Ni.1 hb];exact Oe hlt
 .have:=h h' tk t' λb o e=>hk b o (λhm=>by rw[Ni.1 hm]at e;exact absurd (Mm e) (Nv _)) (LZ _ e)
  simpa [intItems] using this
end
section
variable {X:Cx}{K:Fg}{p pos2:Pos}
def rC (hc:X.calm=true):A8 X (.builtin "sum") (λxs H Q=>∃(a:RD) (ns:List Int),xs=[.ref a]/\SqT X.K H a (ns.map V.int)/\Q (.int ns.sum) H):=by
 walk_at "kz";obtain⟨a,ns,rfl,hq,q⟩:=h;walk_at "kaf";obtain⟨its,rv,p,hz⟩:=I.tuple hq;have hi:=ck rv;obtain⟨zs,hzs⟩:=hi.allInts.items;have hl:s.heap.IsTuple a (intItems zs):=hzs▸p;refine ke (I.ok.hd hc) hl λh' tk t' hk=>⟨.int ns.sum,H,I.kept hk,⟨t',?_⟩,q⟩
 have hn:=hi.numsOf;have e:numsOf (intItems zs).toList=ns:=by rw[<-hzs];exact hn
 rw[nums_intItems]at e;rw[preSum_eq,NA (by simp),e]
def S4:List My->Option My
 | [.list ds]=>(O4 ds).map λns=>.int ns.sum
 | [.tuple ds]=>(O4 ds).map λns=>.int ns.sum
 | _=>none
def V2 (hK:X.K=K)(hc:X.calm=true):A8 X (.builtin "sum") (rDN K S4):=by
 subst hK;walk_at "kg";unfold S4 at hf;walk_at "kae"
 .obtain⟨ns,e,rfl⟩:=Ms.1 hf;cases P3 e;obtain⟨v,rfl,a,xs,rfl,ha,hd⟩:=bS h1 rfl;cases ic hd;exact tW hc vv s O H _ us Q I r ⟨a,ns,rfl,SqL.of (f8 _ _ ha),q _ H (l6.refl H) c8.int⟩
 .obtain⟨ns,e,rfl⟩:=Ms.1 hf;cases P3 e;obtain⟨v,rfl,a,xs,rfl,ha,hd⟩:=bS h1 rfl;cases ic hd;exact rC hc vv s O H _ us Q I r ⟨a,ns,rfl,ha.same f8,q _ H (l6.refl H) c8.int⟩
variable [Feeds]
end
end
section
section
variable {X:Cx}{K:Fg}
variable {mg:Str->Option RC}
end
section
variable [Feeds]{X:Cx}{K:Fg}
def sO (i:Nat)(m:DE->M Out):DE->M Out:=λE F=>(eV E i).bind λds=>m (E.set i (some (.dat (.list ds)))) F
def Ds {i:Nat}{ts:TS}{m:DE->M Out}(h:TSd K ts m):TSd K ts (sO i m):=λG B0 H0 E F O H D r F' S e q=>by
 obtain⟨ds,e4,e⟩:=bS9 e;obtain⟨B,s,sn,I⟩:=S.ex;have eo:=gM e4;have hil:i<E.length:=(Mj.1 eo).1;obtain⟨w,w1,a,xs,rfl,hB,hf,hx,hdx⟩:=I.loc i _ eo;have ha:=S.own i ds a eo w1;have sub:∀b∈B.filter (λb=>decide (b≠a)),b∈B:=λb hb=>(MN.1 hb).1
 have inB:∀b∈B,b≠a->b∈B.filter (λb=>decide (b≠a)):=λb hb hn=>MN.2 ⟨hb,Mv hn⟩
 have ng:a ∉ B.filter (λb=>decide (b≠a)):=λhb=>absurd rfl (MD (MN.1 hb).2)
 have sm:l6 (hid H B) (hid H (B.filter (λb=>decide (b≠a)))):=ae sub;have get:∀j,j≠i->(E.set i (some (.dat (.list ds))))[j]? = E[j]?:=λj hj=>by rw[Mn (OU hj)]
 have geti:(E.set i (some (.dat (.list ds))))[i]? = some (some (.dat (.list ds))):=by rw[Mo hil]
 refine h G B0 H0 (E.set i (some (.dat (.list ds)))) F O H D r F' ⟨⟨_,λb hb=>inB b (s b hb) λz=>ha.2 (z▸hb),λb hb=>sn b (sub b hb),⟨I.fd,λb hb=>inB b (I.fB b hb) λz=>hf (z▸hb),λb hb=>I.bk b (sub b hb),by rw[ND];exact I.ln,λj x ej=>?_⟩⟩,S.fB,S.kp,λj es b ej=>?_,λj k es fs b ej ek=>?_,S.dic.set1 nofun⟩ e q
 .by_cases hj:j=i
  .subst hj;rw[geti]at ej;cases ej;refine⟨_,w1,c8.lst (by rw[u3 ng];exact hx) (hdx.same sm)⟩
  .rw[get j hj]at ej;obtain⟨v,v1,hv⟩:=I.loc j x ej;refine⟨v,v1,?_⟩;cases x with
   | dat d=>exact c8.same (hv:c8 _ _ _ _) sm
   | feed=>exact hv
   | fn _=>exact hv
   | adr _=>exact hv
   | own es =>obtain⟨b,ys,e1,hb1,hb2,hb3,hb4⟩:=hv;subst e1;exact⟨b,ys,rfl,inB b hb1 λz=>hj (S.inj j i es ds a ej eo (z▸v1) w1),hb2,hb3,hb4.same sm⟩
   | dic w c ps =>obtain⟨b,ys,e1,hb1,hb2,hb3,hn,hb4⟩:=hv;subst e1;exact⟨b,ys,rfl,inB b hb1 λz=>(by rw[z,hx]at hb3;cases hb3),hb2,hb3,hn,hb4.same sm⟩
 .by_cases hj:j=i
  .subst hj;rw[geti]at ej;cases ej
  .rw[get j hj]at ej;exact S.own j es b ej
 .by_cases hj:j=i
  .subst hj;rw[geti]at ej;cases ej
  .by_cases hk:k=i
   .subst hk;rw[geti]at ek;cases ek
   .rw[get j hj]at ej;rw[get k hk]at ek;exact S.inj j k es fs b ej ek
def uO (i:Nat){st:RK}{ts:TS}{m:DE->M Out}(h:Ss K X st ts m):Ss K X st ts (sO i m):=⟨h.ps,Ds h.ok⟩
end
end
section
section
variable {X:Cx}
end
section
variable [Feeds]{X:Cx}{K:Fg}{e:RL}{m:DE->M My}
end
end
section
section
variable {w:RG}{A:RH}{E:RC->RE->Prop}{s:RE}
end
section
variable [Feeds]{K:Fg}{X:Cx}
end
end
section
section
variable [Feeds]{X:Cx}{K:Fg}{e:RL}{m:DE->M My}
end
end
section
section
variable [Feeds]{X:Cx}{K:Fg}{e:RL}{m:DE->M My}
end
end
section
def len_1 {us:List RC}(h:us.length=1):∃a,us=[a]:=List.length_eq_one_iff.1 h
def tH {us:List RC}{n:Nat}(h:us.length=n+1):∃a r,us=a::r/\r.length=n:=by
 cases us with
 | nil=>cases h
 | cons a r=>exact⟨a,r,rfl,Nat.succ.inj h⟩
def len_2 {us:List RC}(h:us.length=2):∃a b,us=[a,b]:=by obtain⟨a,r,rfl,h2⟩:=tH h;obtain⟨b,rfl⟩:=len_1 h2;exact⟨a,b,rfl⟩
def len_3 {us:List RC}(h:us.length=3):∃a b c,us=[a,b,c]:=by obtain⟨a,r,rfl,h2⟩:=tH h;obtain⟨b,c,rfl⟩:=len_2 h2;exact⟨a,b,c,rfl⟩
def len_4 {us:List RC}(h:us.length=4):∃a b c d,us=[a,b,c,d]:=by obtain⟨a,r,rfl,h2⟩:=tH h;obtain⟨b,c,d,rfl⟩:=len_3 h2;exact⟨a,b,c,d,rfl⟩
section
variable {K:Fg}{H:Hp}{B A:List RD}
end
section
variable [Feeds]
variable {K:Fg}{X:Cx}{e:RL}{m:DE->M My}{tl:TA}{ms:DE->M (List DV)}{p:Pos}
end
end
section
def fC?:My->Option Int
 | .int i=>some i
 | _=>none
def vv?:My->Option Int
 | .bool b=>some (if b then 1 else 0)
 | _=>none
def fq (ks:List My):Option (List Int):=match ks.mapM fC? with
 | some r=>some r
 | none=>ks.mapM vv?
def vOf:My->V
 | .int i=>.int i
 | .bool b=>.bl b
 | _=>.non
theorem nD:∀{ks:List My} {ns:List Int},ks.mapM fC? = some ns->ks=ns.map .int
 | [],ns,h=>by simp at h;subst h;rfl
 | k::ks,ns,h=>by rw[Ob]at h;obtain⟨a,e1,h⟩:=bS9 h;obtain⟨r,e2,h⟩:=bS9 h;cases h;rw[nD e2];cases k <;> cases e1;rfl
theorem jm:∀{ks:List My} {ns:List Int},ks.mapM vv? = some ns->∃bs:List Bool,ks=bs.map .bool/\ns=bs.map λb=>if b then 1 else 0
 | [],ns,h=>by simp at h;subst h;exact⟨[],rfl,rfl⟩
 | k::ks,ns,h=>by
  rw[Ob]at h;obtain⟨a,e1,h⟩:=bS9 h;obtain⟨r,e2,h⟩:=bS9 h;cases h;obtain⟨bs,rfl,rfl⟩:=jm e2;cases k with
  | bool b=>cases e1;exact⟨b::bs,rfl,rfl⟩
  | _=>cases e1
def uy {ks:List My}{ns:List Int}(h:fq ks=some ns):fg (ks.map vOf)/\(ks.map vOf).map gG=ns/\∀k∈ks,∀(K:Fg) (H:Hp) (v:V),c8 K H k v->v=vOf k:=by
 unfold fq at h;split at h
 .rename_i r e;cases h;rw[nD e];refine⟨.inl λk hk=>?_,?_,λk hk K H v hv=>?_⟩
  .simp only[Mq,ML]at hk;obtain⟨n,_,rfl⟩:=hk;exact⟨n,rfl⟩
  .rw[Mq,Mq];exact(MO λn _=>rfl).trans (List.map_id _)
  .obtain⟨n,_,rfl⟩:=ML.1 hk;simp only[c8]at hv;exact hv
 .obtain⟨bs,rfl,rfl⟩:=jm h;refine⟨.inr λk hk=>?_,?_,λk hk K H v hv=>?_⟩
  .simp only[Mq,ML]at hk;obtain⟨n,_,rfl⟩:=hk;exact⟨n,rfl⟩
  .rw[Mq,Mq];exact MO λn _=>rfl
  .obtain⟨n,_,rfl⟩:=ML.1 hk;simp only[c8]at hv;exact hv
inductive Al (K:Fg) (H:Hp):List (Int×My)->List (Int×V)->Prop
 | nil:Al K H [] []
 | cons {k:Int} {d:My} {v:V} {l m}:c8 K H d v->Al K H l m->Al K H ((k,d)::l) ((k,v)::m)
theorem Al.ins {K:Fg}{H:Hp}{k:Int}{d:My}{v:V}(h:c8 K H d v):∀{l m},Al K H l m->Al K H (V6 (k,d) l) (V6 (k,v) m)
 | _,_,.nil=>.cons h .nil
 | _,_,.cons (k:=k') h' r=>by
  simp only[V6];split
  .exact .cons h (.cons h' r)
  .exact .cons h' (Al.ins h r)
theorem Al.sort {K:Fg}{H:Hp}:∀{l m},Al K H l m->Al K H (x6 l) (x6 m)
 | _,_,.nil=>.nil
 | _,_,.cons h r=>Al.ins h r.sort
theorem Al.dats {K:Fg}{H:Hp}:∀{l m},Al K H l m->b7 K H (l.map Prod.snd) (m.map Prod.snd)
 | _,_,.nil=>b7.nil
 | _,_,.cons h r=>b7.cons h r.dats
theorem kU {K:Fg}{H:Hp}:∀{ns:List Int} {ds:List My} {xs:List V},b7 K H ds xs->Al K H (ns.zip ds) (ns.zip xs)
 | [],_,_,_=>.nil
 | n::ns,[],xs,h=>by
  have e:xs=[]:=OA.1 (by rw[h.length];rfl);subst e;exact .nil
 | n::ns,d::ds,xs,h=>by
  cases xs with
  | nil=>have:=h.length;simp at this
  | cons x xs =>simp only[b7]at h;obtain⟨y,ys,e,h1,h2⟩:=h;cases e;exact .cons h1 (kU h2)
section
variable [Feeds]{K:Fg}{X:Cx}
structure LamB (K:Fg) (mg:Str->Option RC) (base:RM) (x:Str) (fd:RJ) (c P:RD):Prop where
 mem:(x,c,P)∈tabsK Feeds.lam K
 code:fd.code = .ref c
 hd:PySem.W.CodeHd base c P
 bm:BMd base mg
 nd:(tabP K).Nodup
def eU (me:DE->M My)(E0:DE):List My->M (List My)
 | []=>λF=>some ([],F)
 | d::r=>λF=>(me (some (.dat d)::E0) F).bind λp=>(eU me E0 r p.2).bind λq=>some (p.1::q.1,q.2)
def sSK (ma:DE->M (List My))(cap:List Nat)(me:DE->M My):DE->M My:=λE F=>(ma E F).bind λp=>match p.1 with
 | [.list ds]=>if ds.length<64 then(eU me (cap.map λj=>(E[j]?).join) ds p.2).bind λq=>(fq q.1).bind λns=>some (.list ((x6 (ns.zip ds)).map Prod.snd),q.2) else none
 | _=>none
theorem dX {me:DE->M My}{E0:DE}:∀{ds:List My} {F:FS} {ks:List My} {F':FS},eU me E0 ds F=some (ks,F')->ks.length=ds.length
 | [],F,ks,F',h=>by cases h;rfl
 | d::r,F,ks,F',h=>by obtain⟨p,_,h⟩:=bS9 h;obtain⟨q,e,h⟩:=bS9 h;cases h;simp[dX (F:=p.2) (ks:=q.1) (F':=q.2) e]
theorem bP {α β:Type}{f:α->β}:∀{l:List α},(l.map f).Nodup->∀{a b},a∈l->b∈l->f a=f b->a=b
 | [],_,_,_,h,_,_=>by simp at h
 | x::l,h,a,b,ha,hb,e=>by
  rw[Ma,Ox]at h;rcases Mi.1 ha with e1 | ha1
  .rcases Mi.1 hb with e2 | hb1
   .rw[e1,e2]
   .exact absurd (by rw[<-e1,e];exact NW hb1) h.1
  .rcases Mi.1 hb with e2 | hb1
   .exact absurd (by rw[<-e2,<-e];exact NW ha1) h.1
   .exact bP h.2 ha1 hb1 e
def yE {G:GF}{H H2:Hp}{F:FS}{x:Str}{c P:RD}(hm:(x,c,P)∈tabsK Feeds.lam K)(nd:(tabP K).Nodup)(f:FAt K G H F)(g:Bv P (lr x) H H2)(hT:jd H2 P (lr x)):Kp (p9 K G) H H2/\FAt K G H2 F:=by
 rcases g with rfl | ⟨ps,more,c',hP,hc',hcP,rfl⟩
 .exact⟨Kp.refl,f⟩
 .have hPf:P∈tabP K:=NW (f:=λt:Str×RD×RD=>t.2.2) hm;have stay:∀b o,H b=some o->b≠P->upd (upd H P (.tbl (ps++more))) c' (cdO c' (lr x)) b=some o:=λb o e hb=>by rw[i3 (m6 e hc'),i3 hb];exact e
  have ne:∀{b o},H b=some o->NoT o->b≠P:=λ{b o} e h z=>by rw[z,hP]at e;exact h.1 _ (Mg e).symm
  refine⟨λb o e hb=>stay b o e λz=>hb (z▸vc hPf),?_,λt ht=>?_⟩
  .cases G with
   | none=>trivial
   | some p =>
    obtain⟨d,c0⟩:=p
    obtain⟨o1,a1,b1⟩:=Feeds.some1 f.1
    obtain⟨o2,a2,b2⟩:=Feeds.some2 f.1
    exact Feeds.congr f.1 (by rw[a1];exact stay _ _ a1 (ne a1 b1)) (by rw[a2];exact stay _ _ a2 (ne a2 b2))
  .by_cases htP:t.2.2=P
   .have e:t=(x,c,P):=bP (f:=λt:Str×RD×RD=>t.2.2) nd ht hm htP;rw[e];exact hT
   .obtain⟨qs,h1,h2,h3⟩:=f.2 t ht;refine⟨qs,stay _ _ h1 htP,h2,λpos cv q=>?_⟩;obtain⟨c2,r1,r2⟩:=h3 pos cv q;exact⟨c2,r1,stay _ _ r2 λz=>by rw[z,hP]at r2;cases r2⟩
def wL {G:GF}{H:Hp}{F:FS}{c:RD}{q:Str}(f:FAt K G H F)(h:H c=some (cdO c q)):c ∉ p9 K G:=λz=>by
 have tb:c∈tabP K->False:=λz=>by obtain⟨t,ht,e⟩:=ML.1 z;obtain⟨ps,h1,_⟩:=f.2 t ht;rw[e,h]at h1;cases h1
 cases G with
 | none=>exact tb z
 | some p =>
  obtain⟨d,c0⟩:=p;simp only[p9,Mi]at z;rcases z with rfl | rfl | z
  .obtain⟨o,e,hn⟩:=Feeds.some1 f.1;rw[h]at e;exact hn.2 _ (Mg e).symm
  .obtain⟨o,e,hn⟩:=Feeds.some2 f.1;rw[h]at e;exact hn.2 _ (Mg e).symm
  .exact tb z
def SitE.lamS {G:GF}{B:List RD}{E:DE}{F F':FS}{O:St}{H H':Hp}{d:My}{v:V}(I:SitE K G B E F O H)(k:Kp (p9 K G) H H')(f:FAt K G H' F')(h:c8 K (hid H' B) d v)(cap:List Nat) :
  SitE K G B (some (.dat d)::cap.map λj=>(E[j]?).join) F' (bT v cap O) H':=by
 have J:=(I.step k f).cap 0 cap;refine⟨f,I.fB,J.bk,by simp[bT],λi x e=>?_⟩;cases i with
 | zero =>have e:some (some (DV.dat d))=some (some x):=e;cases e;exact⟨v,rfl,h⟩
 | succ i=>exact J.loc i x e
def vw {e:RL}{params:Arguments}{body:RL}{scope osc:RI}{p lpos kp:Pos}{c P:RD}{x y:Str}{N:List Str}{cap:List Nat}{ta:TA}{ma:DE->M (List My)}{me:DE->M My}{k:Nat}{fd:RJ}
  (LB:LamB K X.mg X.base x fd c P) (hK:X.K=K) (hm:X.mg "sorted" = none) (hr:Room k X.A) (hc:X.calm=true) (ha:Ea K X [e] ta ma) (hosc:X.env.scope=osc) (L:LamOk X.N osc y N cap scope)
  (hcode:X.env.code = .ref c) (hq:X.env.qual ++ "<lambda>" = lr x)
  (hE:∀cl f c' Y s H,Ev K (cxL X N (lr x) scope cl f c' Y s H) body te me)
  (hdef:defaultsOf params X.env=([],[]):=by rfl)
  (hbind:∀(cl:List (Str×RD)) (pm:RC) (c':RD) (ctv u:RC),bindArgs (PySem.W.kla_fn "<lambda>" (lr x) params body scope cl pm (.ref c') ctv) ⟨[u],[]⟩=pure [(y,u)]:=by intros;rfl)
  (hg:Gl X "sorted":=by rfl) (hs:RO [e] X.env=[(false,eval e X.env)]:=by rfl) :
  Ev K X (.Call (.Name "sorted" p) [e] [⟨some "key",.Lambda params body scope lpos,kp⟩] pos) (tSK K P (lr x) cap ta te) (sSK ma cap me):=by
 subst hK;refine⟨DH hg hm hr hc ha.pa hdef hosc L hcode LB.hd LB.bm hq hbind (λcl f c' Y s H=>(hE cl f c' Y s H).pe) hs,λG B E F O H Q d F' I e q=>?_⟩;obtain⟨⟨as,F1⟩,e1,e⟩:=bS9 e;refine ha.ok G B E F O H _ as F1 I e1 λvs H1 k1 f1 h1=>?_
 dsimp only at e;split at e;case h_2=>cases e
 rename_i ds;split at e;case isFalse=>cases e
 rename_i h64;obtain⟨⟨kds,F2⟩,e2,e⟩:=bS9 e;obtain⟨ns,e3,e⟩:=bS9 e;cases e;obtain⟨hko,hnum,hv⟩:=uy e3;obtain⟨l,xs,rfl,hl,hd⟩:∃l xs,vs=[.ref l]/\hid H1 B l=some (.lst xs)/\b7 X.K (hid H1 B) ds xs:=by simp only[b7]at h1;obtain⟨v,r,rfl,h2,rfl⟩:=h1;simp only[c8]at h2;obtain⟨l,xs,rfl,h3,h4⟩:=h2;exact⟨l,xs,rfl,h3,h4⟩
 have xl:=hd.length;refine⟨l,xs,rfl,SqL.of (f8 _ _ hl),by omega,f1.2 _ LB.mem,λH2 gr hT2 c' hc'=>?_⟩;obtain⟨k2,f2⟩:=yE LB.mem LB.nd f1 gr hT2;have hlB:l ∉ p9 X.K G:=λz=>by rw[G5 (I.fB l z)]at hl;cases hl
 refine⟨λi H'=>∃Fi rest,Kp (p9 X.K G) H2 H'/\FAt X.K G H' Fi/\eU me (cap.map λj=>(E[j]?).join) (ds.drop i) Fi=some (rest,F2)/\kds.drop i=rest,kds.map vOf,by rw[LX,dX e2,xl],hko,
  SqL.of (k2 l _ (f8 _ _ hl) hlB),⟨F1,kds,Kp.refl,f2,e2,rfl⟩,λi H' ⟨Fi,rest,a1,a2,_⟩=>a1 _ _ hc' (wL f2 hc'),λi v H' hx ⟨Fi,rest,a1,a2,a3,a4⟩=>?_,λa H' ys ⟨Fi,rest,a1,a2,a3,a4⟩ Ha o=>?_⟩
 .have hd':=hd.same ((k2.trans a1).hid I.fB);obtain⟨dd,hdd,hdv⟩:=hd'.get hx;have edr:ds.drop i=dd::ds.drop (i+1):=by have hi:=(Mj.1 hdd);obtain⟨hi,e⟩:=hi;rw[MV hi,e]
  rw[edr]at a3;obtain⟨⟨kk,Fk⟩,g1,g⟩:=bS9 a3;obtain⟨⟨kr,Fr'⟩,g2,g⟩:=bS9 g;cases g;have hki:kds[i]? = some kk:=by have:=Nn (λl=>l[0]?) a4;simpa using this
  refine(hE [] 0 0 X.A X.s₀ H').ok G B _ Fi _ H' _ kk Fk (I.lamS ((k1.trans k2).trans a1) a2 hdv cap) g1 λw H3 k3 f3 h3=>?_
  refine⟨?_,Fk,kr,a1.trans k3,f3,g2,?_⟩
  .rw[Mt,hki,hv kk (MU hki) _ _ _ h3];rfl
  .have:=Nn List.tail a4;simpa using this
 .have hend:eU me (cap.map λj=>(E[j]?).join) (ds.drop xs.length) Fi=some ([],Fi):=by rw[xl,Px];rfl
  rw[hend]at a3;cases a3;have ey:=gQ o (by rw[LX,dX e2,xl]);rw[hnum]at ey;subst ey;have bk':=A2 I.bk ((k1.trans k2).trans a1) a2;have hdz:=(kU (ns:=ns) (hd.same ((k2.trans a1).hid I.fB))).sort.dats;exact q _ _ (((k1.trans k2).trans a1).trans (Kp.upd Ha)) (a2.same (l6.upd Ha)) (K7 bk' Ha hdz)
end
end
section
def pR (p:Int):List Int->List Int
 | []=>[p]
 | q::r=>if p<=q then p::q::r else q::pR p r
def lO:List Int->List Int
 | []=>[]
 | p::r=>pR p (lO r)
theorem dS (p:Int):∀l:List Int,(pR p l).Perm (p::l)
 | []=>.refl _
 | q::r=>by
  rw[pR];split
  .exact .refl _
  .exact((dS p r).cons q).trans (.swap p q r)
theorem cb:∀l:List Int,(lO l).Perm l
 | []=>.refl _
 | p::r=>(dS p _).trans ((cb r).cons p)
theorem pX {p:Int}:∀{l:List Int},l.Pairwise (· <= ·)->(pR p l).Pairwise (· <= ·)
 | [],_=>by simp[pR]
 | q::r,h=>by
  rw[MH]at h;rw[pR];split
  .rename_i hle;refine MH.2 ⟨λz hz=>?_,MH.2 h⟩;rcases Mi.1 hz with rfl | hz
   .exact hle
   .have:=h.1 z hz;omega
  .rename_i hgt;refine MH.2 ⟨λz hz=>?_,pX h.2⟩;rcases Mi.1 ((dS p r).mem_iff.mp hz) with rfl | hz
   .omega
   .exact h.1 z hz
theorem gN:∀l:List Int,(lO l).Pairwise (· <= ·)
 | []=>.nil
 | p::r=>pX (gN r)
theorem eO:∀{l₁ l₂:List Int},l₁.Perm l₂->l₁.Pairwise (· <= ·)->l₂.Pairwise (· <= ·)->l₁=l₂
 | [],l₂,p,_,_=>p.nil_eq
 | a::r,[],p,_,_=>by have:=p.length_eq;simp at this
 | a::r,b::t,p,h1,h2=>by
  rw[MH]at h1 h2;have ab:a=b:=by
   rcases Mi.1 (p.mem_iff.1 (Me (a:=a) (l:=r))) with e | e
   .exact e
   .rcases Mi.1 (p.mem_iff.2 (Me (a:=b) (l:=t))) with e2 | e2
    .exact e2.symm
    .have q1:=h2.1 a e;have q2:=h1.1 b e2;omega
  subst ab;rw[eO (p.cons_inv) h1.2 h2.2]
def lB:My->Option Int
 | .tuple (.int n::_)=>some n
 | _=>none
def cM:List My->Option My
 | [.list ds]=>match O4 ds with
  | some ns=>if ns.length<64 then some (.list ((lO ns).map .int)) else none
  | none=>(ds.mapM lB).bind λns=>if ns.Nodup/\ns.length<64 then some (.list ((x6 (ns.zip ds)).map Prod.snd)) else none
 | _=>none
theorem qY {K:Fg}{H H':Hp}(s:l6 H H'):∀{ds:List My} {ns:List Int} {zs:List V},ds.mapM lB=some ns->b7 K H ds zs->nr K H' ns zs
 | [],ns,zs,e,h=>by
  simp at e;subst e;exact OA.1 (by rw[h.length];rfl)
 | d::ds,ns,zs,e,h=>by
  rw[Ob]at e;obtain⟨n,e1,e⟩:=bS9 e;obtain⟨ns',e2,e⟩:=bS9 e;cases e;simp only[b7]at h;obtain⟨z,zs',rfl,h1,h2⟩:=h;unfold lB at e1;split at e1
  .cases e1;obtain⟨t,xs,rfl,hq,hd⟩:=h1.ofTup;simp only[b7]at hd;obtain⟨v,r,rfl,hv,_⟩:=hd;simp only[c8]at hv;subst hv;exact⟨t,r,zs',rfl,hq.same s,qY s e2 h2⟩
  .cases e1
theorem mq {α β:Type}{f:α->Option β}:∀{l:List α} {m:List β},l.mapM f=some m->m.length=l.length
 | [],m,e=>by simp at e;subst e;rfl
 | a::l,m,e=>by rw[Ob]at e;obtain⟨b,_,e⟩:=bS9 e;obtain⟨m',e2,e⟩:=bS9 e;cases e;simp[mq e2]
theorem iP {K:Fg}{H:Hp}:∀ns:List Int,b7 K H (ns.map .int) (ns.map V.int)
 | []=>b7.nil
 | n::ns=>b7.cons c8.int (iP ns)
section
variable [Feeds]{K:Fg}{X:Cx}
def iO (hK:X.K=K):A8 X (.builtin "sorted") (rDN K cM):=by
 walk_at "kg";unfold cM at hf;walk_at "kae"
 split at hf
 .rename_i ns e;split at hf;case isFalse=>cases hf
  rename_i h64;cases hf;cases P3 e;obtain⟨v,rfl,a,xs,rfl,ha,hd⟩:=bS h1 rfl;cases ic hd;refine mv hK vv s O H _ us Q I r ⟨a,ns,rfl,SqL.of (f8 _ _ ha),h64,λp ns' hp pm pw=>?_⟩;cases eO (pm.trans (cb ns).symm) pw (gN ns);exact q _ _ (l6.upd hp) (K7 bk hp (iP _))
 .obtain⟨ns,e,hf⟩:=bS9 hf;split at hf;case isFalse=>cases hf
  rename_i hc;cases hf;obtain⟨v,rfl,a,xs,rfl,ha,hd⟩:=bS h1 rfl;refine ox hK vv s O H _ us Q I r ⟨a,xs,ns,rfl,SqL.of (f8 _ _ ha),qY f8 e hd,hc.1,hc.2,λp ys hp o=>?_⟩;have ey:=gQ o (by rw[LX,mq e,hd.length]);rw[Mq,show(gG ∘ V.int)=id from rfl,List.map_id]at ey;subst ey;exact q _ _ (l6.upd hp) (K7 bk hp (kU (ns:=ns) hd).sort.dats)
end
end
end L3
namespace L2
open PySem PySem.Spec PyProof.Rows
section
variable {P:RF}{w:RG}{K:Fg}{mg:Str->Option RC}{base:RM}
def Fun.okC {x qual:Str}{st:RK}{f:RD}{fd:RJ}{N ps:List Str}{k:Nat}{sp:Sp}(F:Fun K x qual st f fd)(S:FnScope N ps (defScope st))(len:∀vs H Q E,sp vs H Q E->vs.length=ps.length)
  (hbody:∀(Si:RC) (A:RH) (outer:List RQ) (s:RE) (H:Hp) (vs:List V) (Q:VK) (E:XK),fd.code=Si->Room k (A.deeper (envOfC qual (defScope st) s.heap.objs.size f Si))->sp vs H Q E ->
   ∃t,PSs (U1 CX0 P w K mg base N qual (defScope st) f Si A outer s H E).nox (defBody st) t/\t { nx:=λ_ H'=>Q .non H',rt:=Q } (T7 N vs) H):FnOk P w K mg base CX0 (k+1) f fd ps sp:=by
 obtain⟨oc,od,kV,doc,pm,an,Si,ct,osl,rfl,lk,hcd⟩:=F.ex;refine zH lk hcd S len λA outer s H vs Q E hr hsp=>?_
 obtain⟨t,h,q⟩:=hbody Si A outer s H vs Q E rfl hr hsp;exact⟨t,h.nox,q⟩
end
end L2
namespace L3
open PySem PySem.Spec PyProof.Rows L2
section
section
variable [Feeds]{P:RF}{w:RG}{K:Fg}{mg:Str->Option RC}{base:RM}
def qL {x qual:Str}{st:RK}{f:RD}{fd:RJ}{N ps:List Str}{k:Nat}{m:DE->M Out}(Fn:Fun K x qual st f fd)(S:FnScope N ps (defScope st))
  (hbody:∀(Si:RC) (A:RH) (outer:List RQ) (s:RE) (H:Hp) (E:XK),fd.code=Si->Room k (A.deeper (envOfC qual (defScope st) s.heap.objs.size f Si)) ->
   ∃ts,Sss K (U1 CX0 P w K mg base N qual (defScope st) f Si A outer s H E).nox (defBody st) ts m):FnOk P w K mg base CX0 (k+1) f fd ps (spD K ps.length (B9 N m)):=by
 refine Fn.okC S (λvs H Q E h=>?_) (λSi A outer s H vs Q E hcd hr h=>?_)
 .obtain⟨G,B,F,args,d,F',hl,_⟩:=h;exact hl
 .obtain⟨G,B,F,args,d,F',hl,fB,bk,fa,ha,hm,q⟩:=h;obtain⟨ts,hts⟩:=hbody Si A outer s H E hcd hr;refine⟨ts,hts.ps,?_⟩;obtain⟨⟨o,F1⟩,e1,e⟩:=bS9 hm;refine hts.ok G B H (q5 N args) F (L2.T7 N vs) H _ o F1 (iV fB bk fa ha) e1 ?_;cases o with
  | rt d'=>cases e;exact λv H' k1 f1 h1=>q v H' k1 f1 h1
  | nx E'=>cases e;exact λO' H' S'=>q _ H' S'.kp (by obtain⟨B,_,_,I⟩:=S'.ex;exact I.fd) c8.non
  | bk E'=>cases e
  | ct E'=>cases e
end
end
section
abbrev CA :=List (Str×RD×RD)
def Cs (ts:CA)(h:RM):Prop:=∀t∈ts,PySem.W.CodeHd h t.2.1 t.2.2/\h.get? t.2.2=some (PySem.W.tabObj #[])
def rS {P:RF}{w:RG}{K:Fg}{mg mb:Str->Option RC}{CX:CXT}{k:Nat}{fa a:RD}{fd:RJ}{x:Str}{sp:Sp}{s₁:RE}{vs:List RC}{ns:List Int}{ts:CA}
  (KX:K.In s₁.heap) (hns:s₁.heap.Ns RU mg) (hb:s₁.heap.Ns builtinsNs mb) (hbb:∀x:Str,x ≠ "__name__"->mb x=RX x) (hlim:s₁.heap.NoLimit) (hg:s₁.gens = #[])
  (ha:s₁.heap.get? a=some { cls:=.type "list",data:=.seq vs.toArray }) (hi:IntsAre vs ns) (hl:ns.length<=RN) (hr:Room k callerA)
  (hT:Cs ts s₁.heap) (hnt:PySem.W.noTabs K=true) (BM:BMd s₁.heap mg)
  (F:∀base:RM,K.In base->base.Ns RU mg->BMd base mg->(∀t∈ts,PySem.W.CodeHd base t.2.1 t.2.2)->FnOk P w K mg base CX k fa fd [x] sp) (hbind:∀(s:RE) (u:RC),BindsTo s fd ⟨[u],[]⟩ [(x,u)])
  (hsp:∀H:Hp,SqL K H a (ns.map V.int)->T2 ts H->sp [.ref a] H (λv _=>v = .bl true) λ_ _ _=>False)
  (hCX:∀H e s',CX [] H s₁ (λ_ _ _=>False) e s'->False) :
  codeAny (model P w) callerA (.call (.ref fa) ⟨[.ref a],[]⟩) (λr s'=>r = .ok (.ret (.bool true))/\OldK s₁.heap s'.heap/\s'.os=s₁.os/\AllBare s'.gens) s₁:=by
 have rv:=eR hi;have lenV:=hi.length;have aP:∀t∈ts,t.2.2≠a:=λt ht e=>by have:=(hT t ht).2;rw[e,ha]at this;cases this
 have core:∀H:Hp,(∀b,H b=none\/(b=a/\H b=some (.frz { cls:=.type "list",data:=.seq vs.toArray } (.lst (ns.map V.int))))\/(b∈ts.map (·.2.2)/\H b=some (.tbl #[])))->(∀t∈ts,H t.2.2=some (.tbl #[]))->SqL K H a (ns.map V.int)->(H a≠none->K.lookup a=none) ->
   codeAny (model P w) callerA (.call (.ref fa) ⟨[.ref a],[]⟩) (λr s'=>r = .ok (.ret (.bool true))/\OldK s₁.heap s'.heap/\s'.os=s₁.os/\AllBare s'.gens) s₁:=by
  intro H hO hTH hS hK;have tabO:∀{b:RD},b∈ts.map (·.2.2)->s₁.heap.get? b=some (PySem.W.tabObj #[]):=λ{b} hb=>by obtain⟨t,ht,rfl⟩:=ML.1 hb;exact(hT t ht).2
  have hok:HOk P w H s₁.heap:=λb u e=>by
   rcases hO b with z | ⟨rfl,z⟩ | ⟨hb,z⟩
   .rw[z]at e;cases e
   .rw[z]at e;cases e;exact⟨ha,by rw[LX];exact hl,vs,_,rv,ha⟩
   .rw[z]at e;cases e;exact tabO hb
  have base_of:∀{b:RD} {o:RP},s₁.heap.get? b=some o->H b=none->(il s₁.heap H).get? b=some o:=λe n=>ug e n
  have other:∀{b:RD} {o:RP},s₁.heap.get? b=some o->o≠{ cls:=.type "list",data:=.seq vs.toArray }->o≠PySem.W.tabObj #[]->H b=none:=λ{b o} e h1 h2=>by
   rcases hO b with z | ⟨rfl,z⟩ | ⟨hb,z⟩
   .exact z
   .rw[ha]at e;exact absurd (Mg e).symm h1
   .rw[tabO hb]at e;exact absurd (Mg e).symm h2
  have nsK:∀{b:RD} {m:Str->Option RC},s₁.heap.Ns b m->(il s₁.heap H).Ns b m:=λ{b m} ⟨o,es,ep,e,d,r⟩=>⟨o,es,ep,base_of e (other e (λz=>by rw[z]at d;cases d) λz=>by rw[z]at d;cases d),d,r⟩
  have hKb:K.In (il s₁.heap H):=λb o e=>base_of (KX b o e) (by
   rcases hO b with z | ⟨rfl,z⟩ | ⟨hb,z⟩
   .exact z
   .rw[hK (by rw[z];simp)]at e;cases e
   .have e2:=KX b o e;rw[tabO hb]at e2;cases e2;have h2:=Pr.1 hnt _ (PySem.W.mem_of_lookupK e);exact absurd (show false=true from h2) Mz)
  have hM:Mod K mg (il s₁.heap H):=⟨hKb,nsK hns,⟨mb,nsK hb,hbb⟩,let ⟨mc,h1,h2⟩:=hlim;⟨mc,nsK h1,h2⟩⟩;have hBM:BMd (il s₁.heap H) mg:=by obtain⟨bm,ob,b1,b2,b3,b4,b5,b6⟩:=BM;exact⟨bm,ob,b1,b2,base_of b3 (other b3 (λz=>by rw[z]at b4;have b4:RC.type "list" = RC.type "module":=b4;exact absurd b4 (by decide)) λz=>by rw[z]at b4;have b4:RC.none=RC.type "module":=b4;exact absurd b4 (by decide)),b4,b5,b6⟩
  have hCd:∀t∈ts,PySem.W.CodeHd (il s₁.heap H) t.2.1 t.2.2:=λt ht=>by obtain⟨o,vs',file,tf,flags,tg,inF,text,tt,e1,r1,r2⟩:=(hT t ht).1;exact⟨o,vs',file,tf,flags,tg,inF,text,tt,base_of e1 (other e1 (λz=>by rw[z]at r1;have r1:RC.type "list" = RC.type "code":=r1;exact absurd r1 (by decide)) λz=>by rw[z]at r1;have r1:RC.none=RC.type "code":=r1;exact absurd r1 (by decide)),r1,r2⟩
  have e0:Env0 P w K mg (il s₁.heap H) callerA [] s₁ H:=⟨rfl,hM,λb o e=>zw e,Nat.le_of_eq (rj _ _),trivial,λb hb=>absurd (show b∈([]:List RD) from hb) (by simp),hok,.of_eq hg⟩;have hTO:T2 ts H:=λt ht=>⟨#[],hTH t ht,trivial,λpos cv e=>by cases e⟩
  refine codeAny_mono ((F _ hKb (nsK hns) hBM hCd).run callerA [] s₁ H ⟨[.ref a],[]⟩ [.ref a] [.ref a] _ _ hr e0 (hbind s₁ (.ref a)) (.cons rfl .nil) (hsp H hS hTO)) λr s' h=>?_
  cases r with
  | error e=>exact(hCX H e s' h).elim
  | ok fl =>
   cases fl with
   | next=>exact False.elim h
   | brk=>exact False.elim h
   | cont=>exact False.elim h
   | ret u =>
    obtain⟨v,H',os,bare,un,hok',r',q⟩:=h;have q':v = .bl true:=q;subst q';obtain rfl:u=RC.bool true:=r';have kept:∀b o,s₁.heap.get? b=some o->H b=none->s'.heap.get? b=some o:=λb o e q=>un.keep b o e q (by intro z;exact absurd (show b∈([]:List RD) from z) (by simp)) (by simp)
    have scr:∀b o,s₁.heap.get? b=some o->b=a->H b=some (.frz { cls:=.type "list",data:=.seq vs.toArray } (.lst (ns.map V.int)))->s'.heap.get? b=some o:=λb o e hb z=>by have z2:=un.frzs b _ _ z;obtain⟨e1,_⟩:=hok b _ z;obtain⟨e2,_⟩:=hok' b _ z2;rw[e]at e1;cases e1;exact e2
    have tab:∀b,H b=some (.tbl #[])->∃more,s'.heap.get? b=some (PySem.W.tabObj more):=λb z=>by obtain⟨more,z2⟩:=un.tbls b _ z;exact⟨_,hok' b _ z2⟩
    refine⟨rfl,⟨λb o e=>?_,λb o e=>?_⟩,os,bare⟩
    .rcases hO b with z | ⟨hb,z⟩ | ⟨hb,z⟩
     .exact .inl (kept b o e z)
     .exact .inl (scr b o e hb z)
     .obtain⟨more,e2⟩:=tab b z;have e3:=tabO hb;rw[e]at e3;cases e3;obtain⟨t,ht,rfl⟩:=ML.1 hb;refine .inr (.inl ⟨((hT t ht).1.tab (hT t ht).2).isCodeTable,rfl,#[],more,rfl,by rw[Array.empty_append];exact e2⟩)
    .rcases hO b with z | ⟨hb,z⟩ | ⟨hb,z⟩
     .exact⟨o,kept b o e z⟩
     .exact⟨o,scr b o e hb z⟩
     .obtain⟨more,e2⟩:=tab b z;exact⟨_,e2⟩
 cases hk:K.lookup a with
 | some o =>
  have e:=KX a o hk;rw[ha]at e;cases e;have haT:a ∉ ts.map (·.2.2):=λz=>by obtain⟨t,ht,e⟩:=ML.1 z;exact aP t ht e
  refine core (λb=>if b∈ts.map (·.2.2) then some (.tbl #[]) else none) (λb=>?_) (λt ht=>Mb (NW ht)) (.inr ⟨_,vs.toArray,_,hk,rfl,rfl,rfl,by rw[Mr,lenV];exact hl,by simpa using rv⟩) λz=>absurd (Md haT) z
  by_cases hb:b∈ts.map (·.2.2)
  .exact .inr (.inr ⟨hb,Mb hb⟩)
  .exact .inl (Md hb)
 | none =>
  refine core (λb=>if b=a then some (.frz { cls:=.type "list",data:=.seq vs.toArray } (.lst (ns.map V.int))) else if b∈ts.map (·.2.2) then some (.tbl #[]) else none) (λb=>?_) (λt ht=>?_) (.inl (.inr ⟨{ cls:=.type "list",data:=.seq vs.toArray },Mb rfl⟩)) λ_=>hk
  .by_cases hb:b=a
   .exact .inr (.inl ⟨hb,Mb hb⟩)
   .by_cases hb2:b∈ts.map (·.2.2)
    .exact .inr (.inr ⟨hb2,by rw[Md hb,Mb hb2]⟩)
    .exact .inl (by rw[Md hb,Md hb2])
  .rw[Md (aP t ht)];exact Mb (NW (f:=λt:Str×RD×RD=>t.2.2) ht)
def walk_ofT {l:PySem.W.OpenLaw}{n k:Nat}{q:RF}{loose:List Str}{XP:(Str->Option RC)->RM->Prop}{YP:RG->RM->Prop}{d:DefRec}{K:Params->Fg}{CX:RG->CXT}{sp:RG->Sp}{x:Str}(lam:List Str)
  (hn:l.most=some n) (hn2:n<=RN) (hdf:d.params.defaults=[]) (hr:Room k callerA)
  (hrec:(lam.all λx=>((recsOf q).find? λe=>e.name == x).isSome)=true) (hnt:∀w:RG,PySem.W.noTabs (K w.params)=true)
  (hY:∀(w:RG) (h:RM),YP w h->(K w.params).In h)
  (F:∀(w:RG) (mg:Str->Option RC) (fa:RD) (h:RM),(K w.params).In h->h.Ns RU mg->mg d.name=some (.ref fa) ->
   ∃fd:RJ,(∀(s:RE) (u:RC),BindsTo s fd ⟨[u],[]⟩ [(x,u)]) /\
    ∀base:RM,(K w.params).In base->base.Ns RU mg->BMd base mg->(∀t∈tabsK lam (K w.params),PySem.W.CodeHd base t.2.1 t.2.2)->FnOk l.prog w (K w.params) mg base (CX w) k fa fd [x] (sp w))
  (hsp:∀(w:RG) (H:Hp) (a:RD) (ns:List Int),ns.length<=n->SqL (K w.params) H a (ns.map V.int)->T2 (tabsK lam (K w.params)) H->sp w [.ref a] H (λv _=>v = .bl true) λ_ _ _=>False)
  (hCX:∀(w:RG) (H:Hp) (s:RE) (e:RC) (s':RE),CX w [] H s (λ_ _ _=>False) e s'->False) :
  PySem.W.WalkO q loose XP YP l.row.toRowW d [] (λf vs=>PySem.call f vs):=by
 refine Att.attach_call hn hdf λw s₀ s₁ mg mb fa o pm cd doc a vs ns G Y ho hd hcd hmg hobj hints hlen hg=>?_
 have KX:=hY w _ Y;obtain⟨fd,hb,hF⟩:=F w mg fa _ KX G.T.g hmg;refine rS (ts:=tabsK lam (K w.params)) KX G.T.g G.T.b G.T.builtins G.T.nolimit hg hobj hints (MK hlen hn2) hr (λt ht=>?_) (hnt w) G.T.bmain hF hb (λH hS hT=>hsp w H a ns hlen hS hT) λH e s'=>hCX w H s₁ e s'
 obtain⟨x,hx,e⟩:=PJ.1 ht;obtain⟨⟨c,P⟩,e1,e2⟩:=Ms.1 e;cases e2;obtain⟨dr,hdr⟩:=Np.1 (Pr.1 hrec x hx);exact PySem.W.tab_of G.T KX hdr e1
def lamB_mk [Feeds]{K:Fg}{mg:Str->Option RC}{base:RM}{x:Str}{f:RD}{oc:RC}{od:Option RD}{fd:RJ}{osl:Array (Option RC)}(ga:PySem.W.nsIn K RU x=some (some (.ref f)))(gl:K.lookup f=some ⟨oc,od,.func fd,osl⟩)
  (hx:x∈(Feeds.lam:List Str)) (hs:(PySem.W.tabIn K x).isSome=true) (nd:(tabP K).Nodup) (BM:BMd base mg) (hC:∀t∈tabsK Feeds.lam K,PySem.W.CodeHd base t.2.1 t.2.2):∃c P,LamB K mg base x fd c P:=by
 obtain⟨⟨c,P⟩,e⟩:=Np.1 hs;have hm:(x,c,P)∈tabsK Feeds.lam K:=PJ.2 ⟨x,hx,by rw[e];rfl⟩;refine⟨c,P,hm,?_,hC _ hm,BM,nd⟩;unfold PySem.W.tabIn at e;rw[ga]at e;simp only[gl]at e;split at e
 .rename_i c2 hc;split at e
  .split at e
   .cases e;exact hc
   .cases e
  .cases e
 .cases e
end
variable {te:TE}{pos:Pos}
section
section
variable [Feeds]{K:Fg}{X:Cx}{e a b c:RL}
def uM (K:Fg)(B:List RD)(H H':Hp):DV->V->Prop
 | .dat d,v=>c8 K (hid H' B) d v
 | .own ds,v=>∃a vs,v = .ref a/\H a=none/\H' a=some (.lst vs)/\b7 K (hid H' (a::B)) ds vs
 | .feed,_=>False
 | .fn _,_=>False
 | .adr _,_=>False
 | .dic w c ps,v=>w=true/\∃a xs,v = .ref a/\H a=none/\H' a=some (.ext (NDi (A4 c) a xs))/\(∃h,NDi (A4 c) a xs h)/\KVs K (hid H' (a::B)) c ps xs
def iw (B:List RD):DV->V->List RD
 | .own _,.ref a=>a::B
 | .dic _ _ _,.ref a=>a::B
 | _,_=>B
def TCd (K:Fg)(te:TE)(mc:DE->M DV):Prop:=∀(G:GF) (B:List RD) (E:DE) (F:FS) (O:St) (H:Hp) (Q:VK) (dv:DV) (F':FS),SitE K G B E F O H->mc E F=some (dv,F') ->
 (∀v H',Kp (p9 K G) H H'->FAt K G H' F'->uM K B H H' dv v->Q v H')->te O H Q
structure Ec (K:Fg) (X:Cx) (e:RL) (te:TE) (m:DE->M DV):Prop where
 pe:PE X e te
 ok:TCd K te m
def cO (m:DE->M (List My)):DE->M DV:=λE F=>(m E F).bind λp=>some (.own p.1,p.2)
def Eh {m:DE->M (List My)}(h:Ef K X e te m):Ec K X e te (cO m):=⟨h.pe,λG B E F O H Q dv F' I e q=>by obtain⟨⟨d,F1⟩,e1,e⟩:=bS9 e;cases e;exact h.ok G B E F O H _ d F1 I e1 λa vs H' h1 h2 k f r=>q _ H' k f ⟨a,vs,rfl,h1,h2,r⟩⟩
section
variable {G:GF}{B B0:List RD}{E:DE}{F F1:FS}{O:St}{H H1 H0:Hp}{dv:DV}{v:V}{i:Nat}
def BW (I:SitE K G B E F O H)(k1:Kp (p9 K G) H H1)(r:uM K B H H1 dv v):l6 (hid H B) (hid H1 (iw B dv v)):=by
 cases dv with
 | dat d=>exact k1.hid I.fB
 | feed=>exact r.elim
 | fn _=>exact r.elim
 | adr _=>exact r.elim
 | own ds =>
  obtain⟨a,vs,rfl,hn,ha,h1⟩:=r;intro b o eb;by_cases hb:b∈B
  .rw[G5 hb]at eb;cases eb
  .rw[u3 hb]at eb;have hne:=m6 eb hn;show hid H1 (a::B) b=some o;rw[u3 (by simp[hne,hb])];exact k1 b o eb λz=>hb (I.fB b z)
 | dic w c ps =>
  obtain⟨_,a,vs,rfl,hn,ha,_,h1⟩:=r;intro b o eb;by_cases hb:b∈B
  .rw[G5 hb]at eb;cases eb
  .rw[u3 hb]at eb;have hne:=m6 eb hn;show hid H1 (a::B) b=some o;rw[u3 (by simp[hne,hb])];exact k1 b o eb λz=>hb (I.fB b z)
def cX :∀b∈B,b∈iw B dv v:=λb hb=>by cases dv <;> cases v <;> first | exact hb | exact Mc _ hb
def SitE.moreC (I:SitE K G B E F O H)(k1:Kp (p9 K G) H H1)(f1:FAt K G H1 F1)(r:uM K B H H1 dv v):SitE K G (iw B dv v) E F1 O H1:=by
 have sm:=BW I k1 r;refine⟨f1,λb hb=>cX b (I.fB b hb),λb hb=>?_,I.ln,λj x ej=>?_⟩
 .have old:b∈B->∃o,H1 b=some o:=λhb=>(I.step k1 f1).bk b hb
  cases dv with
  | dat d=>cases v <;> exact old hb
  | feed=>exact r.elim
  | fn _=>exact r.elim
  | adr _=>exact r.elim
  | own ds =>
   obtain⟨a,vs,rfl,hn,ha,h1⟩:=r;rcases Mi.1 hb with rfl | hb
   .exact⟨_,ha⟩
   .exact old hb
  | dic w c ps =>
   obtain⟨_,a,vs,rfl,hn,ha,h1⟩:=r;rcases Mi.1 hb with rfl | hb
   .exact⟨_,ha⟩
   .exact old hb
 .obtain⟨w,v1,v2⟩:=I.loc j x ej;refine⟨w,v1,?_⟩;cases x with
  | dat d=>exact c8.same (show c8 K (hid H B) d w from v2) sm
  | feed=>exact v2
  | fn _=>exact v2
  | adr _=>exact v2
  | own es =>obtain⟨a',xs',rfl,hB',hf',ha',hd'⟩:=v2;exact⟨a',xs',rfl,cX _ hB',hf',k1 _ _ ha' hf',hd'.same sm⟩
  | dic w c ps =>obtain⟨a',xs',rfl,hB',hf',ha',hn',hd'⟩:=v2;exact⟨a',xs',rfl,cX _ hB',hf',k1 _ _ ha' hf',hn',hd'.same sm⟩
def Sit.putC (S:Sit K G B0 H0 E F O H)(s:∀b∈B0,b∈B)(sn:∀b∈B,b∈B0\/H0 b=none)(I:SitE K G B E F O H)(k1:Kp (p9 K G) H H1)(f1:FAt K G H1 F1)(r:uM K B H H1 dv v)(hl:i<E.length) :
  Sit K G B0 H0 (E.set i (some dv)) F1 (O.set i (some v)) H1/\(∀b∈B0,b∈iw B dv v)/\(∀b∈iw B dv v,b∈B0\/H0 b=none)/\SitE K G (iw B dv v) (E.set i (some dv)) F1 (O.set i (some v)) H1:=by
 have hsl:i < O.length:=by rw[<-I.ln];exact hl
 have s':∀b∈B0,b∈iw B dv v:=λb hb=>cX b (s b hb)
 have newB:∀ds,dv = .own ds->∃a vs,v = .ref a/\H1 a=some (.lst vs)/\b7 K (hid H1 (a::B)) ds vs/\a ∉ B/\a ∉ p9 K G/\H0 a=none:=λds e=>by
  subst e;obtain⟨a,vs,rfl,hn,ha,h1⟩:=r;have haB:a ∉ B:=I.bk.nin hn;have haf:a ∉ p9 K G:=λz=>haB (I.fB a z)
  exact⟨a,vs,rfl,ha,h1,haB,haf,S.kp.none hn haf⟩
 have newD:∀w c ps,dv = .dic w c ps->∃a xs,v = .ref a/\H1 a=some (.ext (NDi (A4 c) a xs))/\(∃h,NDi (A4 c) a xs h)/\KVs K (hid H1 (a::B)) c ps xs/\a ∉ B/\a ∉ p9 K G/\H0 a=none:=λw c ps e=>by
  subst e;obtain⟨_,a,vs,rfl,hn,ha,hs,h1⟩:=r;have haB:a ∉ B:=I.bk.nin hn;have haf:a ∉ p9 K G:=λz=>haB (I.fB a z)
  exact⟨a,vs,rfl,ha,hs,h1,haB,haf,S.kp.none hn haf⟩
 have sn':∀b∈iw B dv v,b∈B0\/H0 b=none:=λb hb=>by
  cases dv with
  | dat d=>cases v <;> exact sn b hb
  | feed=>exact r.elim
  | fn _=>exact r.elim
  | adr _=>exact r.elim
  | own ds =>
   obtain⟨a,vs,rfl,ha,h1,haB,haf,h0⟩:=newB ds rfl;rcases Mi.1 hb with rfl | hb
   .exact .inr h0
   .exact sn b hb
  | dic w c ps =>
   obtain⟨a,vs,rfl,ha,hs,h1,haB,haf,h0⟩:=newD w c ps rfl;rcases Mi.1 hb with rfl | hb
   .exact .inr h0
   .exact sn b hb
 have IC:=I.moreC k1 f1 r;have I':SitE K G (iw B dv v) (E.set i (some dv)) F1 (O.set i (some v)) H1:=by
  refine⟨IC.fd,IC.fB,IC.bk,by rw[ND,ND];exact I.ln,λj x ej=>?_⟩;by_cases hj:i=j
  .subst hj;rw[Mo hl]at ej;cases ej;refine⟨v,by rw[Mo hsl],?_⟩;cases dv with
   | dat d=>cases v <;> exact r
   | feed=>exact r.elim
   | fn _=>exact r.elim
   | adr _=>exact r.elim
   | own ds =>obtain⟨a,vs,rfl,ha,h1,haB,haf,h0⟩:=newB ds rfl;exact⟨a,vs,rfl,Me,haf,ha,h1⟩
   | dic w c ps =>obtain⟨a,vs,rfl,ha,hs,h1,haB,haf,h0⟩:=newD w c ps rfl;exact⟨a,vs,rfl,Me,haf,ha,hs,h1⟩
  .rw[Mn hj]at ej;obtain⟨w,v1,v2⟩:=IC.loc j x ej;exact⟨w,by rw[Mn hj];exact v1,v2⟩
 have other:∀(ds:List My) (j:Nat) (es:List My) (a:RD),dv = .own ds->v = .ref a->E[j]? = some (some (DV.own es))->O[j]? ≠ some (some (V.ref a)):=λds j es a e ev ej z=>by obtain⟨a1,vs,ev1,ha,h1,haB,haf,h0⟩:=newB ds e;rw[ev]at ev1;cases ev1;obtain⟨w,v1,a',xs',rfl,hB',_⟩:=I.loc j _ ej;rw[v1]at z;cases z;exact haB hB'
 refine⟨⟨⟨iw B dv v,s',sn',I'⟩,S.fB,S.kp.trans k1,λj es a' ej sj=>?_,λj k es es' a' ej ek sj sk=>?_,λj c ps a' ej sj=>?_⟩,s',sn',I'⟩;rotate_left 2
 .have otherD:∀(k:Nat) (w:Bool) (c:Nat) (ps:List (My×My)),E[k]? = some (some (DV.dic w c ps))->O[k]? = some (some (V.ref a'))->a'∈B:=λk w c ps ek sk=>by obtain⟨v9,w1,a9,xs9,rfl,hB9,_⟩:=I.loc k _ ek;rw[w1]at sk;cases sk;exact hB9
  by_cases hj:i=j
  .subst hj;rw[Mo hl]at ej;rw[Mo hsl]at sj;have e1:dv = .dic true c ps:=Mg (Mg ej);have e2:v = .ref a':=Mg (Mg sj);obtain⟨a,vs,ev,ha,hs,h1,haB,haf,h0⟩:=newD _ _ _ e1;rw[e2]at ev;cases ev;refine⟨⟨h0,λz=>haB (s _ z)⟩,λk w' c' ps' ek sk=>?_⟩;by_cases hk:i=k
   .exact hk
   .rw[Mn hk]at ek sk;exact absurd (otherD k w' c' ps' ek sk) haB
  .rw[Mn hj]at ej sj;obtain⟨h1,h2⟩:=S.dic j c ps a' ej sj;refine⟨h1,λk w' c' ps' ek sk=>?_⟩;by_cases hk:i=k
   .subst hk;rw[Mo hl]at ek;rw[Mo hsl]at sk;have e1:dv = .dic w' c' ps':=Mg (Mg ek);have e2:v = .ref a':=Mg (Mg sk);obtain⟨a,vs,ev,ha,hs,h3,haB,haf,h0⟩:=newD _ _ _ e1;rw[e2]at ev;cases ev;exact absurd (otherD j true c ps ej sj) haB
   .rw[Mn hk]at ek sk;exact h2 k w' c' ps' ek sk
 .by_cases hj:i=j
  .subst hj;rw[Mo hl]at ej;rw[Mo hsl]at sj;have e1:dv = .own es:=Mg (Mg ej);have e2:v = .ref a':=Mg (Mg sj);obtain⟨a,vs,ev,ha,h1,haB,haf,h0⟩:=newB es e1;rw[e2]at ev;cases ev;exact⟨h0,λz=>haB (s _ z)⟩
  .rw[Mn hj]at ej sj;exact S.own j es a' ej sj
 .by_cases hj:i=j
  .by_cases hk:i=k
   .rw[<-hj,<-hk]
   .subst hj;rw[Mo hl]at ej;rw[Mo hsl]at sj;rw[Mn hk]at ek sk;have e1:dv = .own es:=Mg (Mg ej);have e2:v = .ref a':=Mg (Mg sj);exact absurd sk (other es k es' a' e1 e2 ek)
  .by_cases hk:i=k
   .subst hk;rw[Mo hl]at ek;rw[Mo hsl]at sk;rw[Mn hj]at ej sj;have e1:dv = .own es':=Mg (Mg ek);have e2:v = .ref a':=Mg (Mg sk);exact absurd sj (other es' j es a' e1 e2 ej)
   .rw[Mn hj]at ej sj;rw[Mn hk]at ek sk;exact S.inj j k es es' a' ej ek sj sk
end
def qN (i j:Nat)(c1 c2:DE->M DV):DE->M Out:=λE F=>(c1 E F).bind λp=>(c2 E p.2).bind λq=>if i<E.length/\j<E.length then some (.nx ((E.set i (some p.1)).set j (some q.1)),q.2) else none
def zr (i j:Nat){x y:Str}{t1 t2:TE}{c1 c2:DE->M DV}{px py pt:Pos}{kt k2 pt2}(hc:X.calm=true)(hN:X.N.Nodup)(h1:Ec K X a t1 c1)(h2:Ec K X b t2 c2)(hi:X.N[i]? = some x:=by rfl)(hj:X.N[j]? = some y:=by rfl)(hij:i≠j:=by decide)
  (hx:X.env.scope.names.lookup x=some .local:=by rfl) (hy:X.env.scope.names.lookup y=some .local:=by rfl)
  (hw:swappedStores [.Tuple [.Name x px,.Name y py] kt pt] (.Tuple [a,b] k2 pt2) X.env=pure (some [x,y]):=by rfl)
  (hs:swapsWithSole [.Tuple [.Name x px,.Name y py] kt pt] (.Tuple [a,b] k2 pt2) pos.line X.env=pure false:=by rfl)
  (hs1:RO [a,b] X.env=(false,eval a X.env)::RO [b] X.env:=by rfl) (hs2:RO [b] X.env=(false,eval b X.env)::RO [] X.env:=by rfl) :
  Ss K X (.Assign [.Tuple [.Name x px,.Name y py] kt pt] (.Tuple [a,b] k2 pt2) pos) (AZ i j (N8 t1 (N8 t2 bY))) (qN i j c1 c2):=⟨vX hc hN hi hj hij hx hy (A3 h1.pe (A3 h2.pe J6 hs2) hs1) hw hs,λG B0 H0 E F O H D r F' S e q=>by
 obtain⟨⟨d1,F1⟩,e1,e⟩:=bS9 e;obtain⟨⟨d2,F2⟩,e2,e⟩:=bS9 e;split at e;case isFalse=>cases e
 rename_i hl;cases e;obtain⟨B,s,sn,I⟩:=S.ex;refine h1.ok G B E F O H _ d1 F1 I e1 λv H1 k1 f1 r1=>?_
 obtain⟨S1,s1,sn1,I1⟩:=S.putC s sn I k1 f1 r1 hl.1;refine h2.ok G _ E F1 O H1 _ d2 F2 (I.moreC k1 f1 r1) e2 λw H2 k2' f2 r2=>?_
 obtain⟨S2,_⟩:=S1.putC s1 sn1 I1 k2' f2 r2 (i:=j) (by rw[ND];exact hl.2);exact⟨v,w,rfl,q _ _ S2⟩⟩
end
end
section
section
variable {K:Fg}{X0:Cx}{tg iter:RL}
end
section
variable {K:Fg}{X:Cx}[Feeds]
end
end
section
end
section
section
variable {K:Fg}{X:Cx}[Feeds]
end
end
section
section
variable {M:Lang}{A:RH}{E:RC->RE->Prop}{s:RE}
end
section
variable {prog:RF}{w:RG}{A:RH}{E:RC->RE->Prop}{s:RE}
end
section
variable {K:Fg}{X:Cx}[Feeds]
variable {e:RL}{m:DE->M My}
variable {a b:RL}
end
end
variable {es:List RL}
section
section
variable [Feeds]
variable {K:Fg}{X:Cx}{e i v1 v2 v3:RL}{t1 t2 t3 ti:TE}{m1 m2 m3 mi:DE->M My}{p p1 p2 p3:Pos}
variable {P:RF}{w:RG}{mg:Str->Option RC}{base:RM}
end
end
section
section
variable {prog:RF}{w:RG}{A:RH}{E:RC->RE->Prop}{s:RE}
def kP {b:Bool}{it l:RD}{i:Nat}{items:Array RC}{x:RC}{Q:RC->RE->Prop}(hi:K6 b s.heap it l i)(hl:Y8 b s.heap l items)(hx:items[i]? = some x)
  (q:∀h',K6 b h' it l (i+1)->RM.SameBut it s.heap h'->Q x { s with heap:=h' }):RT (model prog w) A (Builtin.SmallTypes.nextOf (.ref it)) Q E s:=by
 cases b
 .exact U5 (show s.heap.IsTupleIter it l i from hi) (show s.heap.IsTuple l items from hl) hx λh' a b=>q h' a b
 .exact wpAny_nextOf_list_item (show s.heap.IsListIter it l i from hi) (show s.heap.IsList l items from hl) hx λh' a b=>q h' a b
def vP {b:Bool}{it l:RD}{i:Nat}{items:Array RC}{Q:RC->RE->Prop}(hh:A.handled=none)(hi:K6 b s.heap it l i)(hl:Y8 b s.heap l items)(hx:items[i]? = none)
  (q:∀h' e,RM.ExtBut it s.heap h'->(∃o,h'.get? e=some o/\o.cls = .type "StopIteration")->E (.ref e) { s with heap:=h' }):RT (model prog w) A (Builtin.SmallTypes.nextOf (.ref it)) Q E s:=by
 cases b
 .exact W7 hh (show s.heap.IsTupleIter it l i from hi) (show s.heap.IsTuple l items from hl) hx q
 .exact wpAny_nextOf_list_end hh (show s.heap.IsListIter it l i from hi) (show s.heap.IsList l items from hl) hx q
def K6.but {b:Bool}{h h':RM}{it l c:RD}{i:Nat}(x:K6 b h it l i)(k:RM.ExtBut c h h')(n:it≠c):K6 b h' it l i:=x.at λo e=>k it o n e
def Y8.but {b:Bool}{h h':RM}{l c:RD}{items:Array RC}(x:Y8 b h l items)(k:RM.ExtBut c h h')(n:l≠c):Y8 b h' l items:=x.at λo e=>k l o n e
variable {b1 b2:Bool}{z TI TO i1 i2 l1 l2:RD}{k:Nat}{xs ys:Array RC}{x y a b:RC}
def xT {Q:RC->RE->Prop}(D:ZipApart z TI TO i1 i2 l1 l2)(hz:IsZip s.heap z TI TO .none)(hTI:IsPair s.heap TI (.ref i1) (.ref i2))(hTO:IsPair s.heap TO a b)
  (h1:K6 b1 s.heap i1 l1 k) (h2:K6 b2 s.heap i2 l2 k) (hl1:Y8 b1 s.heap l1 xs) (hl2:Y8 b2 s.heap l2 ys) (hx:xs[k]? = some x) (hy:ys[k]? = some y)
  (q:∀h',IsZip h' z TI TO (rawInt s.heap.objs.size)->IsPair h' TO x y->K6 b1 h' i1 l1 (k+1)->K6 b2 h' i2 l2 (k+1)->IsPair h' s.heap.objs.size x y->h'.objs.size=s.heap.objs.size+1 ->
   (∀c o,c≠z->c≠TO->c≠i1->c≠i2->s.heap.get? c=some o->h'.get? c=some o)->Q (.ref s.heap.objs.size) { s with heap:=h' }) :
  RT (model prog w) A (Builtin.«zip.__next__» ⟨[.ref z],[]⟩) (λfin s'=>∃v,fin = .done (.ret v)/\Q v s') E s:=by
 show RT _ _ (field (.ref z) 2 >>= _) _ _ _;refine LV (Nz hz rfl (x:=.bool false) rfl ?_);show RT _ _ (field (.ref z) 3 >>= _) _ _ _;refine LV (Nz hz rfl (x:=.ref TI) rfl ?_);refine LV (Ot hTI rfl ?_);show RT _ _ (Builtin.SmallTypes.ownedTupleIsFree (.ref z) >>= _) _ _ _;refine LV ?_;unfold Builtin.SmallTypes.ownedTupleIsFree;refine LV (Nz hz rfl (x:=.none) rfl (LY ?_));simp only[Nk];refine LV (Oi ?_);refine LV (Nz hz rfl (x:=.ref TO) rfl ?_);refine LV (OL hz (by simp) λg1 z1 s1=>?_);replace z1:IsZip g1 z TI TO .ellipsis:=z1;refine LV ?_;simp only[List.zipIdx_cons,List.zipIdx_nil,Rz,List.forIn_nil];refine LV (LV (Rk ?_));show RT _ _ (Builtin.SmallTypes.nextOf (.ref i1) >>= _) _ _ _;refine LV (kP (h1.but s1.extBut D.i1z) (hl1.but s1.extBut D.l1z) hx λg2 a2 s2=>LY ?_);have p2:IsPair g2 TO a b:=s2.extBut _ _ D.TOi1 (s1.extBut _ _ D.TOz hTO);refine LV (Ot p2 rfl ?_);refine LV (QR p2 λg3 p3 s3=>?_);replace p3:IsPair g3 TO x b:=p3;refine LV (wpAny_letGo (LY ?_));refine LV (LV (Rk ?_));show RT _ _ (Builtin.SmallTypes.nextOf (.ref i2) >>= _) _ _ _;refine LV (kP (((h2.but s1.extBut D.i2z).but s2.extBut D.i12.symm).but s3.extBut D.TOi2.symm) (((hl2.but s1.extBut D.l2z).but s2.extBut D.l2i1).but s3.extBut D.l2TO) hy λg4 a4 s4=>LY ?_);have p4:IsPair g4 TO x b:=s4.extBut _ _ D.TOi2 p3;refine LV (Ot p4 rfl ?_);refine LV (QR p4 λg5 p5 s5=>?_);replace p5:IsPair g5 TO x y:=p5;refine LV (wpAny_letGo (LY (LY ?_)));refine LV (Ot p5 rfl ?_);refine LV (wpAny_newTuple ?_);have hsz:g5.objs.size=s.heap.objs.size:=by rw[s5.1,s4.1,s3.1,s2.1,s1.1]
 have z5:IsZip g5 z TI TO .ellipsis:=s5.extBut _ _ D.TOz.symm (s4.extBut _ _ D.i2z.symm (s3.extBut _ _ D.TOz.symm (s2.extBut _ _ D.i1z.symm z1)));have k5:∀c o,c≠z->c≠TO->c≠i1->c≠i2->s.heap.get? c=some o->g5.get? c=some o:=λc o c1 c2 c3 c4 e=>s5.extBut _ _ c2 (s4.extBut _ _ c4 (s3.extBut _ _ c2 (s2.extBut _ _ c3 (s1.extBut _ _ c1 e))))
 have a5:K6 b1 g5 i1 l1 (k+1):=((a2.but s3.extBut D.TOi1.symm).but s4.extBut D.i12).but s5.extBut D.TOi1.symm;have c5:K6 b2 g5 i2 l2 (k+1):=a4.but s5.extBut D.TOi2.symm;have zlt:z<g5.objs.size:=Mm z5;show RT _ _ (Builtin.SmallTypes.ownedTupleHandOut (.ref z) (.ref g5.objs.size) >>= _) _ _ _;refine LV ?_;unfold Builtin.SmallTypes.ownedTupleHandOut;have z6:IsZip (g5.push { cls:=.type "tuple",data:=.seq #[x,y] }) z TI TO .ellipsis:=LZ _ z5;refine LV (OL z6 (by simp) λg7 z7 s7=>?_);replace z7:IsZip g7 z TI TO (rawInt g5.objs.size):=z7;refine OL z7 (by simp) λg8 z8 s8=>?_
 replace z8:IsZip g8 z TI TO (rawInt g5.objs.size):=z8;have up:∀c o,c≠z->g5.get? c=some o->g8.get? c=some o:=λc o c1 e=>s8.extBut _ _ c1 (s7.extBut _ _ c1 (LZ _ e))
 have t8:IsPair g8 g5.objs.size x y:=s8.extBut _ _ (Pl zlt) (s7.extBut _ _ (Pl zlt) (Mp _ rfl));have n8:g8.objs.size=g5.objs.size+1:=by rw[s8.1,s7.1,NB]
 rw[hsz]at z8 t8 n8;refine LY ⟨_,rfl,?_⟩;show Q (.ref g5.objs.size) _;rw[hsz];exact q g8 z8 (up _ _ D.TOz p5) (a5.at λo e=>up _ o D.i1z e) (c5.at λo e=>up _ o D.i2z e) t8 n8 λc o c1 c2 c3 c4 e=>up c o c1 (k5 c o c1 c2 c3 c4 e)
def Ck {Q:Fin->RE->Prop}(hh:A.handled=none)(D:ZipApart z TI TO i1 i2 l1 l2)(hz:IsZip s.heap z TI TO .none)(hTI:IsPair s.heap TI (.ref i1) (.ref i2))(hTO:IsPair s.heap TO a b)
  (h1:K6 b1 s.heap i1 l1 k) (h2:K6 b2 s.heap i2 l2 k) (hl1:Y8 b1 s.heap l1 xs) (hl2:Y8 b2 s.heap l2 ys) (he:xs[k]? = none\/ys[k]? = none)
  (q:∀h' e,(∀c o,c≠z->c≠TO->c≠i1->c≠i2->s.heap.get? c=some o->h'.get? c=some o)->(∃o,h'.get? e=some o/\o.cls = .type "StopIteration")->E (.ref e) { s with heap:=h' }) :
  RT (model prog w) A (Builtin.«zip.__next__» ⟨[.ref z],[]⟩) Q E s:=by
 show RT _ _ (field (.ref z) 2 >>= _) _ _ _;refine LV (Nz hz rfl (x:=.bool false) rfl ?_);show RT _ _ (field (.ref z) 3 >>= _) _ _ _;refine LV (Nz hz rfl (x:=.ref TI) rfl ?_);refine LV (Ot hTI rfl ?_);show RT _ _ (Builtin.SmallTypes.ownedTupleIsFree (.ref z) >>= _) _ _ _;refine LV ?_;unfold Builtin.SmallTypes.ownedTupleIsFree;refine LV (Nz hz rfl (x:=.none) rfl (LY ?_));simp only[Nk];refine LV (Oi ?_);refine LV (Nz hz rfl (x:=.ref TO) rfl ?_);refine LV (OL hz (by simp) λg1 z1 s1=>?_);replace z1:IsZip g1 z TI TO .ellipsis:=z1;refine LV ?_;simp only[List.zipIdx_cons,List.zipIdx_nil,Rz,List.forIn_nil];refine LV (LV (Rk ?_));show RT _ _ (Builtin.SmallTypes.nextOf (.ref i1) >>= _) _ _ _;cases hx:xs[k]? with
 | none =>
  refine LV (vP hh (h1.but s1.extBut D.i1z) (hl1.but s1.extBut D.l1z) hx λg2 e s2 ⟨oe,ho,hc⟩=>?_);have z2:IsZip g2 z TI TO .ellipsis:=s2 _ _ D.i1z.symm z1;have ez:e≠z:=λx=>by subst x;rw[z2]at ho;cases ho;simp at hc
  exact OL z2 (by simp) λg3 _ s3=>q g3 e (λc o c1 _ c3 _ x=>s3.extBut _ _ c1 (s2 _ _ c3 (s1.extBut _ _ c1 x))) ⟨oe,s3.extBut _ _ ez ho,hc⟩
 | some x =>
  have hy:ys[k]? = none:=by rcases he with h | h;rw[hx]at h;cases h;exact h
  refine LV (kP (h1.but s1.extBut D.i1z) (hl1.but s1.extBut D.l1z) hx λg2 a2 s2=>LY ?_);have p2:IsPair g2 TO a b:=s2.extBut _ _ D.TOi1 (s1.extBut _ _ D.TOz hTO);refine LV (Ot p2 rfl ?_);refine LV (QR p2 λg3 p3 s3=>?_);refine LV (wpAny_letGo (LY ?_));refine LV (LV (Rk ?_));show RT _ _ (Builtin.SmallTypes.nextOf (.ref i2) >>= _) _ _ _;refine LV (vP hh (((h2.but s1.extBut D.i2z).but s2.extBut D.i12.symm).but s3.extBut D.TOi2.symm) (((hl2.but s1.extBut D.l2z).but s2.extBut D.l2i1).but s3.extBut D.l2TO) hy λg4 e s4 ⟨oe,ho,hc⟩=>?_);have z4:IsZip g4 z TI TO .ellipsis:=s4 _ _ D.i2z.symm (s3.extBut _ _ D.TOz.symm (s2.extBut _ _ D.i1z.symm z1));have ez:e≠z:=λx=>by subst x;rw[z4]at ho;cases ho;simp at hc
  exact OL z4 (by simp) λg5 _ s5=>q g5 e (λc o c1 c2 c3 c4 x=>s5.extBut _ _ c1 (s4 _ _ c4 (s3.extBut _ _ c2 (s2.extBut _ _ c3 (s1.extBut _ _ c1 x))))) ⟨oe,s5.extBut _ _ ez ho,hc⟩
def zj {Q:Option RC->RE->Prop}(D:ZipApart z TI TO i1 i2 l1 l2)(hz:IsZip s.heap z TI TO .none)(hTI:IsPair s.heap TI (.ref i1) (.ref i2))(hTO:IsPair s.heap TO a b)
  (h1:K6 b1 s.heap i1 l1 k) (h2:K6 b2 s.heap i2 l2 k) (hl1:Y8 b1 s.heap l1 xs) (hl2:Y8 b2 s.heap l2 ys) (hx:xs[k]? = some x) (hy:ys[k]? = some y)
  (q:∀h',IsZip h' z TI TO (rawInt s.heap.objs.size)->IsPair h' TO x y->K6 b1 h' i1 l1 (k+1)->K6 b2 h' i2 l2 (k+1)->IsPair h' s.heap.objs.size x y->h'.objs.size=s.heap.objs.size+1 ->
   (∀c o,c≠z->c≠TO->c≠i1->c≠i2->s.heap.get? c=some o->h'.get? c=some o)->Q (some (.ref s.heap.objs.size)) { s with heap:=h' }):RT (model prog w) A (pyNext (.ref z)) Q E s:=by
 have hT:s.TypeIs (.ref z) "zip":=⟨_,hz,rfl⟩;unfold pyNext;exact LV (PB (Nx (name:=Str.ofString "__next__") hT Po (Ng Po hT PySem.F.entry_zip_next
  (xT D hz hTI hTO h1 h2 hl1 hl2 hx hy λh' a1 a2 a3 a4 a5 a6 a7=>LY (q h' a1 a2 a3 a4 a5 a6 a7)) (PySem.F.args_zip_next_1 _))))
def BH {Q:Option RC->RE->Prop}(hh:A.handled=none)(D:ZipApart z TI TO i1 i2 l1 l2)(hz:IsZip s.heap z TI TO .none)(hTI:IsPair s.heap TI (.ref i1) (.ref i2))(hTO:IsPair s.heap TO a b)
  (h1:K6 b1 s.heap i1 l1 k) (h2:K6 b2 s.heap i2 l2 k) (hl1:Y8 b1 s.heap l1 xs) (hl2:Y8 b2 s.heap l2 ys) (he:xs[k]? = none\/ys[k]? = none)
  (q:∀h',(∀c o,c≠z->c≠TO->c≠i1->c≠i2->s.heap.get? c=some o->h'.get? c=some o)->Q none { s with heap:=h' }):RT (model prog w) A (pyNext (.ref z)) Q E s:=by have hT:s.TypeIs (.ref z) "zip":=⟨_,hz,rfl⟩;unfold pyNext;refine LV (PB (Nx (name:=Str.ofString "__next__") hT Po (Ng Po hT PySem.F.entry_zip_next (Ck hh D hz hTI hTO h1 h2 hl1 hl2 he λh' e hk ⟨o,ho,hc⟩=>?_) (PySem.F.args_zip_next_1 _))));exact LV (QA (T:="StopIteration") (b:=true) ⟨o,ho,hc⟩ isSubtype_stop (LY (q _ hk)))
end
end
section
abbrev itO (b:Bool)(l:RD):RP:={ cls:=.type (if b then "list_iterator" else "tuple_iterator"),data:=.fields #[.ref l,.int 0 0] }
abbrev zg1 (h:RM)(b1:Bool)(l1:RD):RM:=h.push (itO b1 l1)
abbrev zg2 (h:RM)(b1 b2:Bool)(l1 l2:RD):RM:=(zg1 h b1 l1).push (itO b2 l2)
abbrev zg3 (h:RM)(b1 b2:Bool)(l1 l2:RD):RM:=(zg2 h b1 b2 l1 l2).push { cls:=.type "tuple",data:=.seq #[.ref h.objs.size,.ref (zg1 h b1 l1).objs.size] }
abbrev zg4 (h:RM)(b1 b2:Bool)(l1 l2:RD):RM:=(zg3 h b1 b2 l1 l2).push { cls:=.type "tuple",data:=.seq #[.none,.none] }
abbrev zg5 (h:RM)(b1 b2:Bool)(l1 l2:RD):RM:=(zg4 h b1 b2 l1 l2).push { cls:=.type "zip",data:=.fields #[.none,.bool false,.bool false,.ref (zg2 h b1 b2 l1 l2).objs.size,.ref (zg3 h b1 b2 l1 l2).objs.size] }
section
variable {prog:RF}{w:RG}{A:RH}{E:RC->RE->Prop}{s:RE}
end
def BP {N a1 a2:Nat}(l1:a1<N)(l2:a2<N):ZipApart (N+4) (N+2) (N+3) N (N+1) a1 a2:=by constructor <;> show @Ne Nat _ _ <;> omega
def Itz (b1 b2:Bool)(K:Fg)(a1 a2:RD):It :=
 ⟨λi H=>∃xs ys x y,SqA b1 K H a1 xs/\SqA b2 K H a2 ys/\xs[i]? = some x/\ys[i]? = some y,λi H v H'=>∃t x y,v = .ref t/\H t=none/\H'=upd H t (.tup [x,y])/\(∀xs,SqA b1 K H a1 xs->xs[i]? = some x)/\∀ys,SqA b2 K H a2 ys->ys[i]? = some y,
  λi H=>∃xs ys,SqA b1 K H a1 xs/\SqA b2 K H a2 ys/\(xs[i]? = none\/ys[i]? = none)⟩
def wF {P:RF}{w:RG}{K:Fg}{k:Nat}(b1 b2:Bool)(a1 a2 z TI TO i1 i2:RD):Turn P w K (.Tuple es k pos) (Itz b1 b2 K a1 a2) [z,TI,TO,i1,i2] z
  (λi h=>ZipApart z TI TO i1 i2 a1 a2/\IsZip h z TI TO .none/\IsPair h TI (.ref i1) (.ref i2)/\(∃a b,IsPair h TO a b)/\K6 b1 h i1 a1 i/\K6 b2 h i2 a2 i) where
 mem:=by simp
 obj:=λi h st c hb=>by
  obtain⟨_,hz,hTI,⟨a,b,hTO⟩,h1,h2⟩:=st;simp only[Mi,Oo,QC]at hb;rcases hb with rfl | rfl | rfl | rfl | rfl
  .exact⟨_,hz,λv z=>by cases(show Data.fields _=Data.cell v from z)⟩
  .exact⟨_,hTI,λv z=>by cases(show Data.seq _ _=Data.cell v from z)⟩
  .exact⟨_,hTO,λv z=>by cases(show Data.seq _ _=Data.cell v from z)⟩
  .exact h1.obj
  .exact h2.obj
 keep:=λi h h' st kk=>by obtain⟨D,hz,hTI,⟨a,b,hTO⟩,h1,h2⟩:=st;exact⟨D,kk z (by simp) _ hz,kk TI (by simp) _ hTI,⟨a,b,kk TO (by simp) _ hTO⟩,h1.at λo e=>kk i1 (by simp) o e,h2.at λo e=>kk i2 (by simp) o e⟩
 item:=by
  intro X hP hw hK hc i vv s O H E I hf st hg;subst hP hw hK;obtain⟨D,hz,hTI,⟨a,b,hTO⟩,h1,h2⟩:=st;obtain⟨xs,ys,x,y,hq1,hq2,hx,hy⟩:=hg;obtain⟨its1,rv1,p1⟩:=SqA.get I hq1;obtain⟨its2,rv2,p2⟩:=SqA.get I hq2;obtain⟨u1,hu1,ru1⟩:=rv1.get hx;obtain⟨u2,hu2,ru2⟩:=rv2.get hy;have hfl:∀c∈[z,TI,TO,i1,i2],c<s.heap.objs.size:=λc hb=>by
   simp only[Mi,Oo,QC]at hb;rcases hb with rfl | rfl | rfl | rfl | rfl
   .exact Mm hz
   .exact Mm hTI
   .exact Mm hTO
   .obtain⟨o,e,_⟩:=h1.obj;exact Mm e
   .obtain⟨o,e,_⟩:=h2.obj;exact Mm e
  refine zj D hz hTI hTO h1 h2 p1 p2 (by rw[OO];exact hu1) (by rw[OO];exact hu2) λg g1 g2 g3 g4 g5 g6 gk=>?_
  refine⟨_,rfl,wpAny_letOwnedTupleGo_zip g1 λh2' z2 s2=>?_⟩;have s2:RM.SameBut z g h2':=s2;have zl:z<s.heap.objs.size:=hfl z (by simp);have hf0:H s.heap.objs.size=none:=I.hok.fresh (Mh _);have I1:Inv X vv O (upd H s.heap.objs.size (.tup [x,y])) { s with heap:=s.heap.push { cls:=.type "tuple",data:=.seq #[u1,u2] } }:=by refine I.laid (t':=s.toks) (λb u e=>LZ _ e) (Mh _) ?_;exact⟨MK (show 2<=10000 by decide) (by rw[MQ];decide),[u1,u2],.cons ru1 (.cons ru2 .nil),⟨_,Mp _ rfl,rfl,_,rfl⟩⟩
  have hfp:∀c∈[z,TI,TO,i1,i2],cE X vv (upd H s.heap.objs.size (.tup [x,y])) c:=λc hcm=>by obtain⟨f0,f⟩:=hf c hcm;exact⟨by rw[i3 (MC (hfl c hcm))];exact f0,f⟩
  have hT2:h2'.get? s.heap.objs.size=some { cls:=.type "tuple",data:=.seq #[u1,u2] }:=s2.extBut _ _ (Pl zl) g5;have I2:Inv X vv O (upd H s.heap.objs.size (.tup [x,y])) { s with heap:=h2' }:=by
   refine Y3 (s:={ s with heap:=s.heap.push { cls:=.type "tuple",data:=.seq #[u1,u2] } }) (t':=s.toks) I1 hfp λc o hcn ec=>?_
   have c1:c≠z:=λz=>hcn (by simp[z])
   have c2:c≠TO:=λz=>hcn (by simp[z])
   have c3:c≠i1:=λz=>hcn (by simp[z])
   have c4:c≠i2:=λz=>hcn (by simp[z])
   have ec:(s.heap.push { cls:=.type "tuple",data:=.seq #[u1,u2] }).get? c=some o:=ec;by_cases hcT:c=s.heap.objs.size
   .subst hcT;rw[Mp _ rfl]at ec;rw[hT2];exact ec
   .have hlc:c<s.heap.objs.size:=by have h1:c<(s.heap.push { cls:=.type "tuple",data:=.seq #[u1,u2] }).objs.size:=Mm ec;rw[NB]at h1;exact Nat.lt_of_le_of_ne (Nat.le_of_lt_succ h1) hcT
    exact s2.extBut c o c1 (gk c o c1 c2 c3 c4 (mw hlc ec))
  refine⟨.ref s.heap.objs.size,upd H s.heap.objs.size (.tup [x,y]),I2,rfl,⟨_,x,y,rfl,hf0,rfl,λzs hy=>by rw[SqA.inj I hq1 hy];exact hx,λzs hz=>by rw[SqA.inj I hq2 hz];exact hy⟩,⟨D,z2,s2.extBut _ _ D.TIz (gk _ _ D.TIz D.TITO D.TIi1 D.TIi2 hTI),⟨_,_,s2.extBut _ _ D.TOz g2⟩,g3.but s2.extBut D.i1z,g4.but s2.extBut D.i2z⟩,λc hcm=>(hfp c hcm).1⟩
 done:=by
  intro X hP hw hK hc i vv s O H E I hf st hg;subst hP hw hK;obtain⟨D,hz,hTI,⟨a,b,hTO⟩,h1,h2⟩:=st;obtain⟨xs,ys,hq1,hq2,he⟩:=hg;obtain⟨its1,rv1,p1⟩:=SqA.get I hq1;obtain⟨its2,rv2,p2⟩:=SqA.get I hq2;have he':its1.toArray[i]? = none\/its2.toArray[i]? = none:=by
   rcases he with he | he
   .left;rw[OO,Ny,<-rv1.length];exact Ny.1 he
   .right;rw[OO,Ny,<-rv2.length];exact Ny.1 he
  refine BH (I.ok.hd hc) D hz hTI hTO h1 h2 p1 p2 he' λh' eb=>⟨rfl,Y3 (t':=s.toks) I hf λc o hc ec=>eb c o (λz=>hc (by simp[z])) (λz=>hc (by simp[z])) (λz=>hc (by simp[z])) (λz=>hc (by simp[z])) ec⟩
 self:=λ_ _ _ _ _ st h=>wpAny_pyIter_zip st.2.1 h
section
variable [Feeds]{K:Fg}{X:Cx}{tg e1 e2:RL}{te1 te2:TE}{m1 m2:DE->M My}{p tp:Pos}{tk:Nat}
def jv (a b:List My):List My:=List.zipWith (λx y=>.tuple [x,y]) a b
def uY {a b:List My}{i:Nat}{z:My}(h:(jv a b)[i]? = some z):∃x y,a[i]? = some x/\b[i]? = some y/\z = .tuple [x,y]:=by
 unfold jv at h;rw[List.getElem?_zipWith]at h;cases e1:a[i]? with
 | none=>rw[e1]at h;cases h
 | some x =>
  cases e2:b[i]? with
  | none=>rw[e1,e2]at h;cases h
  | some y=>rw[e1,e2]at h;exact⟨x,y,rfl,rfl,(Mg h).symm⟩
def AY {P:Hp->List RD->Prop}{b1 b2:Bool}{a1 a2:RD}{ds es:List My}{xs ys:List V}(h:∀H B,P H B->(SqA b1 K H a1 xs/\b7 K (hid H B) ds xs)/\SqA b2 K H a2 ys/\b7 K (hid H B) es ys):cu K P (Itz b1 b2 K a1 a2) (jv ds es):=λH B hp=>by
 obtain⟨⟨h1,h2⟩,h3,h4⟩:=h H B hp;refine⟨λi d e=>?_,⟨xs,ys,h1,h3,?_⟩⟩
 .obtain⟨x,y,hx,hy,rfl⟩:=uY e;obtain⟨v,e1,e2⟩:=b7.item h2 hx;obtain⟨u,e3,e4⟩:=b7.item h4 hy;refine⟨⟨xs,ys,v,u,h1,h3,e1,e3⟩,λx' H2 yy=>?_⟩;obtain⟨t,x1,y1,rfl,ht,rfl,y2,y3⟩:=yy;have z1:=y2 xs h1;have z2:=y3 ys h3;rw[e1]at z1;cases z1;rw[e3]at z2;cases z2;exact⟨l6.upd ht,λbk=>R4 bk ht ⟨_,_,rfl,e2,_,_,rfl,e4,rfl⟩⟩
 .have el:(jv ds es).length=min ds.length es.length:=by unfold jv;rw[List.length_zipWith]
  rw[el,Ny,Ny,h2.length,h4.length];omega
end
end
end L3
namespace L2
open PySem PySem.Spec PyProof.Rows
variable {elt iter:RL}{scope:RI}{pos:Pos}{ifs ifs1:List RL}
section
def tE (target iter:RL)(ifs:List RL)(it:RC)(env:RQ)(act:Sem Unit)(more:Sem Fin):Sem Fin:=do
 standAt iter.pos
 match <-pyNext it with
 | none=>pure (.done .next)
 | some v =>
  letOwnedTupleGo target it v
  assign target env v
  let mut ok:=true
  for c in ifs do
   if ok then ok <-isTrue c env (eval c env)
  if ok then act
  more
def qF (e:RL)(iter1:RL)(acc:RC)(env:RQ)(k:Sem Fin):Sem Fin:=do
 let x <-eval iter1 env
 standAt iter1.pos
 let x <-RY iter1 env x
 let _ <-runOwn (.compStart e 1 (<-holding [x] (pyIter x)) acc env) env
 k
def wy (elt tg iter tg1 iter1:RL)(ifs ifs1:List RL)(scope:RI)(pos:Pos)(it acc:RC)(env:RQ) :
  compTurn (.ListComp elt [⟨tg,iter,ifs,0⟩,⟨tg1,iter1,ifs1,0⟩] scope pos) 0 it acc env=pW tg iter ifs it env (qF (.ListComp elt [⟨tg,iter,ifs,0⟩,⟨tg1,iter1,ifs1,0⟩] scope pos) iter1 acc env) (again (.compLoop (.ListComp elt [⟨tg,iter,ifs,0⟩,⟨tg1,iter1,ifs1,0⟩] scope pos) 0 it acc env)):=by rfl
def yK (elt tg iter tg1 iter1:RL)(ifs ifs1:List RL)(scope:RI)(pos:Pos)(it acc:RC)(env:RQ) :
  compTurn (.ListComp elt [⟨tg,iter,ifs,0⟩,⟨tg1,iter1,ifs1,0⟩] scope pos) 1 it acc env=tE tg1 iter1 ifs1 it env (lM elt acc env) (again (.compLoop (.ListComp elt [⟨tg,iter,ifs,0⟩,⟨tg1,iter1,ifs1,0⟩] scope pos) 1 it acc env)):=by rfl
section
variable {prog:RF}{w:RG}{A:RH}{R:Result->RE->Prop}{s:RE}
def CO {gens:List Comprehension}{d:Nat}{it acc:RC}{env:RQ}{target:RL}{act:Sem Unit}(I:Nat->RE->Prop)
  (ht:compTurn (.ListComp elt gens scope pos) d it acc env=tE target iter ifs it env act (again (.compLoop (.ListComp elt gens scope pos) d it acc env)))
  (turn:∀n s,I n s->RT (model prog w) A (pyNext it) (λr s₁=>match r with
   | none=>R (.ok .next) s₁
   | some v=>RT (model prog w) A (letOwnedTupleGo target it v) (λ_ s₀=>RT (model prog w) A (assign target env v) (λ_ s₂ =>
     RT (model prog w) A (forIn ifs true λc r=>if r=true then do let ok <-isTrue c env (eval c env);pure (ForInStep.yield ok) else pure (ForInStep.yield r)) (λok s₃ =>
      if ok=true then RT (model prog w) A act (λ_ s₅=>∃m,m<n/\I m s₅) (λ_ _=>False) s₃
      else ∃m,m<n/\I m s₃) (λ_ _=>False) s₂) (λ_ _=>False) s₀) (λ_ _=>False) s₁) (λ_ _=>False) s)
  (n:Nat) (h:I n s):codeAny (model prog w) A (.compLoop (.ListComp elt gens scope pos) d it acc env) R s:=by
 refine codeAny_loop rfl I (λn s hI=>?_) n h;show RT _ A ((compTurn (.ListComp elt gens scope pos) d it acc env).onRaise (λx=>do noteFrame x env;theTreesLotGoes x)) _ _ s;refine wpAny_noted ?_;rw[ht];unfold tE;refine LV (Pb (LV (MR (turn n s hI) (λr s₁ h₁=>?_) λ_ _ h'=>h'.elim)));cases r with
 | none=>exact LY h₁
 | some v =>
  refine LV (MR h₁ (λ_ s₀ h₀=>?_) λ_ _ h'=>h'.elim);refine LV (MR h₀ (λ_ s₂ h₂=>LV (MR h₂ (λok s₃ h₃=>?_) λ_ _ h'=>h'.elim)) λ_ _ h'=>h'.elim);cases ok with
  | false=>exact LY ⟨rfl,h₃⟩
  | true=>exact LV (MR h₃ (λ_ s₅ h₅=>LY ⟨rfl,h₅⟩) λ_ _ h'=>h'.elim)
def vi {g0:Comprehension}{target:RL}{rest:List Comprehension}{it acc:RC}{env:RQ}
  (h0:codeAny (model prog w) A (.compLoop (.ListComp elt (g0::⟨target,iter,ifs,0⟩::rest) scope pos) 1 it acc env) R s)
  (h:RT (model prog w) A (pyIter it) (λit' s'=>codeAny (model prog w) A (.compLoop (.ListComp elt (g0::⟨target,iter,ifs,0⟩::rest) scope pos) 1 it' acc env) R s') (notedBy (model prog w) A env λx s'=>R (.error x) s') s) :
  codeAny (model prog w) A (.compStart (.ListComp elt (g0::⟨target,iter,ifs,0⟩::rest) scope pos) 1 it acc env) R s:=by
 refine codeAny_of_tree ?_;show RT _ _ ((compStart (.ListComp elt (g0::⟨target,iter,ifs,0⟩::rest) scope pos) 1 it acc env).onRaise (λx=>do noteFrame x env;standAt theWindowsPlace)) _ _ s;refine wpAny_notedAt ?_;unfold compStart;show RT _ _ (ask >>= _) _ _ s;refine LV (wpAny_askSetting (wpAny_ite ?_));split
 .first | exact LV (LY (LY (And.intro rfl h0))) | exact LY (And.intro rfl h0)
 .first | exact LV (Oi (LV (Pb (LV (MR h (λit' s' h'=>LY (And.intro rfl h')) λ_ _ x=>x))))) | (refine LV (Oi ?_);show RT _ _ (standAt iter.pos >>= _) _ _ s;exact LV (Pb (LV (MR h (λit' s' h'=>LY (And.intro rfl h')) λ_ _ x=>x))))
end
def tIn (wi:TI)(g:TG)(tt:TT)(te:TE)(D:RD):TM:=λO H Q=>wi O H λJ H1 =>
 ∃W:Nat->Nat->St->List V->Hp->Prop,(∃m acc,H1 D=some (.lst acc)/\W 0 m O acc H1)/\∀i m O' acc H',W i m O' acc H' ->
  (J.stop i H'/\Q O' H') \/
  (J.go i H'/\∀x H2,J.yld i H' x H2->g x O' H2 λσ2 H3=>tt σ2 H3 λok H4=>if ok=true then te σ2 H4 λy H5=>H5 D=some (.lst acc)/\acc.length<RN/\∃m',m'<m/\W (i+1) m' σ2 (acc++[y]) (upd H5 D (.lst (acc++[y])))
   else H4 D=some (.lst acc)/\∃m',m'<m/\W (i+1) m' σ2 acc H4)
def DG {Y:Cx}{tg tg1 iter1:RL}{wi:TI}{g:TG}{tt:TT}{te:TE}{D:RD}(hx:Y.xe = λ_ _=>False)(hc:Y.calm=true)(hi:PI Y tg1 iter1 wi)(hg:PG Y tg1 g)(ht:PTs Y ifs1 tt)(he:PE Y elt te)
  (hs:∀x,RY iter1 Y.env x=pure x):PM Y (qF (.ListComp elt [⟨tg,iter,ifs,0⟩,⟨tg1,iter1,ifs1,0⟩] scope pos) iter1 (.ref D) Y.env) (tIn wi g tt te D):=by
 intro vv s O H Q I h k R E hk;unfold qF;have hxe:∀{a b},Y.xe a b->False:=λ{a b} z=>by rw[hx]at z;exact z
 refine LV (MR (hi vv s O H _ I h) (λv s1 h1=>LV (Pb ?_)) λ_ _ z=>(hxe z).elim);rw[hs];refine LV (LY (LV (Ol (MR h1 (λitv s2 h2=>?_) λ_ _ z=>(hxe z).elim))));obtain⟨it,fp,tn,J,H2,e,I2,T,st2,f2,W,⟨m0,acc0,hD0,w0⟩,turn⟩:=h2;subst e;have stat:∀{H':Hp},(∀b∈fp,H' b=none)->∀b∈fp,cE Y vv H' b:=λhn b hb=>⟨hn b hb,(f2 b hb).2⟩
 refine LV (wpAny_runOwn ?_);have loop:codeAny (model Y.prog Y.w) (Y.A.mark none) (.compLoop (.ListComp elt [⟨tg,iter,ifs,0⟩,⟨tg1,iter1,ifs1,0⟩] scope pos) 1 (.ref it) (.ref D) Y.env) (λr s'=>match r with | .ok f=>RT (model Y.prog Y.w) Y.A k R E s' | .error e=>cameBackBy (model Y.prog Y.w) Y.A Y.env E e s') s2:=by
  refine CO (A:=Y.A) (λn s'=>∃i O' acc H',Inv Y vv O' H' s'/\tn i s'.heap/\(∀b∈fp,H' b=none)/\H' D=some (.lst acc)/\W i n O' acc H') (yK ..) ?_ m0 ⟨0,O,acc0,H2,I2,st2,λb hb=>(f2 b hb).1,hD0,w0⟩;rintro n s5 ⟨i,σ5,acc,H5,I5,st5,fr5,hD5,w5⟩;rcases turn i n σ5 acc H5 w5 with ⟨stop,q⟩ | ⟨go,step⟩
  .refine MR (T.done Y rfl rfl rfl hc i vv s5 σ5 H5 _ I5 (stat fr5) st5 stop) (λr s6 ⟨hr,I6⟩=>?_) λ_ _ z=>z
   subst hr;exact hk s6 σ5 H5 I6 q
  .refine MR (T.item Y rfl rfl rfl hc i vv s5 σ5 H5 _ I5 (stat fr5) st5 go) (λr s6 ⟨u,hr,h6⟩=>?_) λ_ _ z=>z
   subst hr;refine MR h6 (λ_ s7 ⟨x,H7,I7,r7,y7,st7,fr7⟩=>?_) λ_ _ z=>z
   have I7':=I7.pinned (stat fr7) (T.obj _ _ st7);have keepI:∀{s':RE} {O':St} {H':Hp},Inv Y (vv++dN fp s7.heap) O' H' s'->tn (i+1) s'.heap/\∀b∈fp,H' b=none:=λ{s' O' H'} I'=>by refine⟨T.keep _ _ _ st7 λb hb o e=>(I'.pin (b,o) (Mu _ (Mu _ (O2 hb e)))).1,λb hb=>?_⟩;obtain⟨o,e,d⟩:=T.obj _ _ st7 b hb;exact(I'.pin (b,o) (Mu _ (Mu _ (O2 hb e)))).2.1
   refine MR (hg _ s7 σ5 H7 x u _ I7' r7 (step x H7 y7)) (λ_ s8 ⟨σ8,H8,I8,q8⟩=>?_) λ_ _ z=>hxe z
   refine MR (ht _ s8 σ8 H8 _ I8 q8) (λok s9 ⟨H9,I9,q9⟩=>?_) λ_ _ z=>hxe z
   cases ok with
   | false =>have q9:H9 D=some (.lst acc)/\∃m',m'<n/\W (i+1) m' σ8 acc H9:=q9;obtain⟨hD9,m',hm,w9⟩:=q9;obtain⟨k1,k2⟩:=keepI I9;exact⟨m',hm,i+1,σ8,acc,H9,I9.unpinned,k1,k2,hD9,w9⟩
   | true =>show RT _ _ (lM elt (.ref D) Y.env) _ _ _;unfold lM;refine LV (MR (he _ s9 σ8 H9 _ I9 q9) (λyv s10 ⟨y,H10,I10,r10,hD10,hz,m',hm,w10⟩=>?_) λ_ _ z=>hxe z);refine LV (MR (bz (X:=Y) _ s10 σ8 H10 (.ref D) [y] (.ref D) [yv] (λ_ H'=>H'=upd H10 D (.lst (acc++[y]))) I10 rfl (.cons r10 .nil) ⟨D,acc,y,rfl,rfl,hD10,hz,rfl⟩) (λ_ s11 ⟨_,H11,I11,_,e11⟩=>LY ?_) λ_ _ z=>hxe z);subst e11;obtain⟨k1,k2⟩:=keepI I11;exact⟨m',hm,i+1,σ8,acc++[y],_,I11.unpinned,k1,k2,k8,w10⟩
 exact vi loop (T.self _ 0 _ _ _ st2 loop)
end
section
def rM {X:Cx}{tg tg1 iter1:RL}{osc:RI}{N:List Str}{k:Nat}{cap:List Nat}{g:TG}{tt:TT}{tm:TM}{cl:List (Str×RD)}
  {vv:List (RD×RP)} {O:St} {H3:Hp} {s3:RE} {D it:RD} {fp:List RD} {tn:Nat->RM->Prop} {J:It} {Q:VK} {W:Nat->Nat->St->Hp->Prop} {m0:Nat}
  (hc:X.calm=true) (hosc:X.env.scope=osc) (hcap:Caps X.N osc N k cap scope)
  (hcl:∀{x:Str} {c:RD},cl.lookup x=some c->X.env.cells.lookup x=some c) (hhas:∀x,(x,Sd.free)∈scope.names->∃c,cl.lookup x=some c)
  (hg:∀cl C ex vv s H,PG (cxC X N scope cl C ex vv s H) tg g)
  (ht:∀cl C ex vv s H,PTs (cxC X N scope cl C ex vv s H) ifs tt)
  (he:∀cl C ex vv s H,PM (cxC X N scope cl C ex vv s H) (qF (.ListComp elt [⟨tg,iter,ifs,0⟩,⟨tg1,iter1,ifs1,0⟩] scope pos) iter1 (.ref D) (cxC X N scope cl C ex vv s H).env) tm)
  (I3:Inv X vv O H3 s3) (T:Turn X.prog X.w X.K tg J fp it tn) (st:tn 0 s3.heap) (f3:∀b∈fp,cE X vv H3 b) (w0:W 0 m0 (cf k cap O) H3)
  (turn:∀i m O' H',W i m O' H'->(J.stop i H'/\Q (.ref D) H') \/
   (J.go i H'/\∀x H2,J.yld i H' x H2->g x O' H2 λσ2 H3=>tt σ2 H3 λok H4=>if ok=true then tm σ2 H4 λσ3 H5=>∃m',m'<m/\W (i+1) m' σ3 H5 else ∃m',m'<m/\W (i+1) m' σ2 H4)) :
  RT (model X.prog X.w) X.A (newFunctionEnv scope X.env.globals cl [] X.env.qual none .none (some X.env)) (λcenv s₄ =>
   codeAny (model X.prog X.w) X.A (.compStart (.ListComp elt [⟨tg,iter,ifs,0⟩,⟨tg1,iter1,ifs1,0⟩] scope pos) 0 (.ref it) (.ref D) { cenv with scope:=relabel scope X.env }) (compPost (model X.prog X.w) X.A X.xe none (EP X vv O Q) (.ref D) cenv.locals) s₄) X.xe s3:=by
 refine lp (P:=λC=>compPost (model X.prog X.w) X.A X.xe none (EP X vv O Q) (.ref D) C) (Qs:=Q (.ref D)) (W:=W) (λenv=>wy ..) hc hosc hcap hcl hhas hg ht I3 T st f3 w0 (λs6 σ5 H5 I6 I7 q=>?_) λi m O' H' w=>?_
 .obtain⟨m,hn,_⟩:=id I6.loc;refine⟨m,hn,λh' hsb=>?_⟩;obtain⟨g0,g1,g2,g3,g4,g5⟩:=I3.fpOk (H':=H5) (b:=s3.heap.objs.size) (Mh _) I6.free;exact⟨.ref D,H5,I7.turned (t':=s6.toks) (λb o hb e=>(hsb.2 b hb).trans e) g0 g1 g3 g4 g5,rfl,q⟩
 .rcases turn i m O' H' w with h | ⟨go,step⟩
  .exact .inl h
  .exact .inr ⟨go,_,step,λσ2 H4 h=>h,λpins' s σ2 H4 I h k R E hk=>he _ _ _ _ _ _ _ s σ2 H4 _ I h k R E hk⟩
def BL (wi:TI)(k:Nat)(cap:List Nat)(g:TG)(tt:TT)(wi1:TI)(g1:TG)(tt1:TT)(te:TE):TE:=λO H Q=>wi O H λJ H1=>∀D,H1 D=none ->
 ∃W:Nat->Nat->St->Hp->Prop,(∃m,W 0 m (cf k cap O) (upd H1 D (.lst [])))/\∀i m O' H',W i m O' H' ->
  (J.stop i H'/\Q (.ref D) H') \/
  (J.go i H'/\∀x H2,J.yld i H' x H2->g x O' H2 λσ2 H3=>tt σ2 H3 λok H4=>if ok=true then tIn wi1 g1 tt1 te D σ2 H4 λσ3 H5=>∃m',m'<m/\W (i+1) m' σ3 H5 else ∃m',m'<m/\W (i+1) m' σ2 H4)
def AW {X:Cx}{tg tg1 iter1:RL}{osc:RI}{N:List Str}{k:Nat}{cap:List Nat}{wi:TI}{g:TG}{tt:TT}{wi1:TI}{g1:TG}{tt1:TT}{te:TE}
  (hc:X.calm=true) (hosc:X.env.scope=osc) (hcap:Caps X.N osc N k cap scope) (hi:PI X tg iter wi)
  (hg:∀cl C ex vv s H,PG (cxC X N scope cl C ex vv s H) tg g)
  (ht:∀cl C ex vv s H,PTs (cxC X N scope cl C ex vv s H) ifs tt)
  (hi1:∀cl C ex vv s H,PI (cxC X N scope cl C ex vv s H) tg1 iter1 wi1)
  (hg1:∀cl C ex vv s H,PG (cxC X N scope cl C ex vv s H) tg1 g1)
  (ht1:∀cl C ex vv s H,PTs (cxC X N scope cl C ex vv s H) ifs1 tt1)
  (he:∀cl C ex vv s H,PE (cxC X N scope cl C ex vv s H) elt te)
  (hs1:∀cl C ex vv s H x,RY iter1 (cxC X N scope cl C ex vv s H).env x=pure x:=by intros;rfl)
  (hs:∀x,RY iter X.env x=pure x:=by intro _;rfl) :
  PE X (.ListComp elt [⟨tg,iter,ifs,0⟩,⟨tg1,iter1,ifs1,0⟩] scope pos) (BL wi k cap g tt wi1 g1 tt1 te):=by
 walk_at "kc"
 exact rM hc hosc hcap hcl hhas hg ht (λcl C ex vv s H=>DG (Y:=cxC X N scope cl C ex vv s H) rfl hc (hi1 cl C ex vv s H) (hg1 cl C ex vv s H) (ht1 cl C ex vv s H) (he cl C ex vv s H) (hs1 cl C ex vv s H)) I3 T (T.keep _ _ (s2.heap.push { cls:=.type "list",data:=.seq ([]:List RC).toArray }) st2 λb _ o e=>LZ _ e) (λb hb=>⟨by rw[i3 (lt2 b hb)];exact(f2 b hb).1,(f2 b hb).2⟩) w0 turn
end
end L2
namespace L3
open PySem PySem.Spec PyProof.Rows L2
variable {bd1:My->DE->Option DE}
section
section
variable [Feeds]
variable {K:Fg}{X:Cx}{tg iter tg1 iter1 elt:RL}{te:TE}{pos:Pos}
def lh (bd:My->DE->Option DE)(mt:DE->M Bool)(me:DE->M My):List My->DE->M (List My×DE)
 | [],E,F=>some (([],E),F)
 | d::r,E,F=>(bd d E).bind λE1=>(mt E1 F).bind λp=>if p.1=true then(me E1 p.2).bind λy=>(lh bd mt me r E1 y.2).bind λz=>some ((y.1::z.1.1,z.1.2),z.2) else lh bd mt me r E1 p.2
def dD (bd:My->DE->Option DE)(mt:DE->M Bool)(mi1:DE->M (List My))(bd1:My->DE->Option DE)(mt1:DE->M Bool)(me:DE->M My):List My->DE->M (List My)
 | [],_,F=>some ([],F)
 | d::r,E,F=>(bd d E).bind λE1=>(mt E1 F).bind λp=>if p.1=true then(mi1 E1 p.2).bind λits=>(lh bd1 mt1 me its.1 E1 its.2).bind λz=>(dD bd mt mi1 bd1 mt1 me r z.1.2 z.2).bind λw=>some (z.1.1++w.1,w.2) else dD bd mt mi1 bd1 mt1 me r E1 p.2
def kC (mi:DE->M (List My))(k:Nat)(cap:List Nat)(bd:My->DE->Option DE)(mt:DE->M Bool)(mi1:DE->M (List My))(bd1:My->DE->Option DE)(mt1:DE->M Bool)(me:DE->M My):DE->M My:=λE F =>
 (mi E F).bind λp=>(dD bd mt mi1 bd1 mt1 me p.1 (gX k cap E) p.2).bind λz=>if z.1.length<=RN then some (.list z.1,z.2) else none
def Dg {wi wi1:TI}{mi mi1:DE->M (List My)}{k:Nat}{cap:List Nat}{g g1:TG}{bd:My->DE->Option DE}{tt tt1:TT}{mt mt1:DE->M Bool}{me:DE->M My}(hi:TIs K wi mi)(hg:TGd K g bd)(ht:TTd K tt mt)
  (hi1:TId K wi1 mi1) (hg1:TGd K g1 bd1) (ht1:TTd K tt1 mt1) (he:TEd K te me):TEd K (BL wi k cap g tt wi1 g1 tt1 te) (kC mi k cap bd mt mi1 bd1 mt1 me):=λG B E F O H Q d F' I e q=>by
 obtain⟨⟨items,F1⟩,e1,e⟩:=bS9 e;obtain⟨⟨whole,F2⟩,e2,e⟩:=bS9 e;split at e
 .rename_i hsz;cases e;have hsz:whole.length<=RN:=hsz;refine hi G B E F O H _ items F1 I e1 λJ H1 k1 f1 ok D hD=>?_
  have I1:SitE K G B E F1 O H1:=I.step k1 f1;have hBD:D ∉ B:=I1.bk.nin hD;have hfD:D ∉ p9 K G:=λz=>hBD (I.fB D z)
  have stab:∀{H':Hp},Kp (p9 K G) H1 H'->Kp (p9 K G) H1 H'/\l6 (hid H1 B) (hid H' (D::B)):=λ{H'} k=>⟨k,λb o eb=>by
   by_cases hb:b∈B
   .rw[G5 hb]at eb;cases eb
   .rw[u3 hb]at eb;rw[u3 (by
     intro z;rcases Mi.1 z with rfl | z
     .rw[hD]at eb;cases eb
     .exact hb z)]
    exact k b o eb λz=>hb (I.fB b z)⟩
  obtain⟨W,hW⟩:∃W:Nat->Nat->St->Hp->Prop,W = λi m O' H'=>m=items.length-i/\i<=items.length/\∃E F done rest acc,SitE K G (D::B) E F O' H'/\H' D=some (.lst acc)/\Kp (p9 K G) H1 H'/\(∀(j:Nat) (ds:List My),E[j]? = some (some (DV.own ds))->O'[j]? ≠ some (some (V.ref D)))/\b7 K (hid H' (D::B)) done acc/\dD bd mt mi1 bd1 mt1 me (items.drop i) E F=some (rest,F2)/\whole=done++rest:=⟨_,rfl⟩
  have w0:W 0 items.length (cf k cap O) (upd H1 D (.lst [])):=by rw[hW];refine⟨by simp,Nj _,gX k cap E,F1,[],whole,[],(I1.cap k cap).more hD,k8,Kp.upd hD,λj ds ej z=>?_,b7.nil,e2,rfl⟩;obtain⟨v,v1,a,xs,rfl,_,_,ha,_⟩:=(I1.cap k cap).loc j _ ej;rw[v1]at z;cases z;rw[hD]at ha;cases ha
  refine⟨W,⟨_,w0⟩,λi m O' H' w=>?_⟩;have wn:∀{i m O' H'},(m=items.length-i/\i<=items.length/\∃E F done rest acc,SitE K G (D::B) E F O' H'/\H' D=some (.lst acc)/\Kp (p9 K G) H1 H'/\(∀(j:Nat) (ds:List My),E[j]? = some (some (DV.own ds))->O'[j]? ≠ some (some (V.ref D)))/\b7 K (hid H' (D::B)) done acc/\dD bd mt mi1 bd1 mt1 me (items.drop i) E F=some (rest,F2)/\whole=done++rest)->W i m O' H':=λh=>by rw[hW];exact h
  rw[hW]at w;clear hW w0;obtain⟨rfl,hil,E',F3,done,rest,acc,I2,hD2,k2,ow,hd2,e3,ew⟩:=w;by_cases hlt:i<items.length
  .refine .inr ⟨((ok H' (D::B) (stab k2)).1 i items[i] (by simp[hlt])).1,λx H2 y=>?_⟩;obtain⟨s2,hx⟩:=((ok H' (D::B) (stab k2)).1 i items[i] (by simp[hlt])).2 x H2 y;have hx':=hx I2.bk;rw[MV hlt,dD]at e3;obtain⟨E4,e4,e3⟩:=bS9 e3;obtain⟨⟨b,F5⟩,e5,e3⟩:=bS9 e3;have I3:SitE K G (D::B) E' F3 O' H2:=I2.step (Kp.same s2) (I2.fd.same s2);refine hg G (D::B) E' F3 O' H2 x items[i] E4 _ I3 hx' e4 λσ4 I4 fr=>?_
   walk_at "ks"
   have kall:Kp (p9 K G) H1 H5:=(k2.trans (Kp.same s2)).trans k5;have I5:SitE K G (D::B) E4 F5 σ4 H5:=I4.step k5 f5;have hD5:H5 D=some (.lst acc):=k5 D _ (s2 D _ hD2) hfD;have hd5:b7 K (hid H5 (D::B)) done acc:=(hd2.same ((Kp.same s2).hid (fp:=[]) (by simp))).same (k5.hid I4.fB);cases b with
   | false=>exact⟨items.length-(i+1),by omega,wn ⟨rfl,hlt,E4,F5,done,rest,acc,I5,hD5,kall,ow4,hd5,e3,ew⟩⟩
   | true =>
    obtain⟨⟨its,F6⟩,e6,e3⟩:=bS9 e3;obtain⟨⟨⟨zs,Ez⟩,F7⟩,e7,e3⟩:=bS9 e3;obtain⟨⟨ws,F8⟩,e8,e3⟩:=bS9 e3;cases e3;refine hi1 G (D::B) E4 F5 σ4 H5 _ its F6 I5 e6 λJ1 H6 k6 f6 ok1=>?_
    have I6:SitE K G (D::B) E4 F6 σ4 H6:=I5.step k6 f6;have hD6:H6 D=some (.lst acc):=k6 D _ hD5 hfD;obtain⟨V5,hV⟩:∃V5:Nat->Nat->St->List V->Hp->Prop,V5 = λj n σ5 acc5 H7=>n=its.length-j/\j<=its.length/\∃E F done' rest',SitE K G (D::B) E F σ5 H7/\H7 D=some (.lst acc5)/\Kp (p9 K G) H1 H7/\l6 (hid H6 (D::B)) (hid H7 (D::B))/\(∀(j:Nat) (ds:List My),E[j]? = some (some (DV.own ds))->σ5[j]? ≠ some (some (V.ref D)))/\b7 K (hid H7 (D::B)) done' acc5/\lh bd1 mt1 me (its.drop j) E F=some ((rest',Ez),F7)/\whole=done'++rest'++ws:=⟨_,rfl⟩
    have v0:V5 0 its.length σ4 acc H6:=by rw[hV];exact⟨by simp,Nj _,E4,F6,done,zs,I6,hD6,kall.trans k6,λ_ _ z=>z,ow4,hd5.same (k6.hid I5.fB),e7,by rw[ew,Ql]⟩
    refine⟨V5,⟨its.length,acc,hD6,v0⟩,λj n σ5 acc5 H7 w=>?_⟩;have vn:∀{j n σ5 acc5 H7},(n=its.length-j/\j<=its.length/\∃E F done' rest',SitE K G (D::B) E F σ5 H7/\H7 D=some (.lst acc5)/\Kp (p9 K G) H1 H7/\l6 (hid H6 (D::B)) (hid H7 (D::B))/\(∀(j:Nat) (ds:List My),E[j]? = some (some (DV.own ds))->σ5[j]? ≠ some (some (V.ref D)))/\b7 K (hid H7 (D::B)) done' acc5/\lh bd1 mt1 me (its.drop j) E F=some ((rest',Ez),F7)/\whole=done'++rest'++ws)->V5 j n σ5 acc5 H7:=λh=>by rw[hV];exact h
    rw[hV]at w;clear hV v0;obtain⟨rfl,hj,E5,F9,done5,rest5,I7,hD7,k7,s7,ow5,hd7,e9,ew9⟩:=w;by_cases hjl:j<its.length
    .refine .inr ⟨((ok1 H7 (D::B) s7).1 j its[j] (by simp[hjl])).1,λx1 H8 y1=>?_⟩;obtain⟨s8,hx8⟩:=((ok1 H7 (D::B) s7).1 j its[j] (by simp[hjl])).2 x1 H8 y1;have hx8':=hx8 I7.bk;rw[MV hjl,lh]at e9;obtain⟨Ea,ea,e9⟩:=bS9 e9;obtain⟨⟨bb,Fb⟩,eb,e9⟩:=bS9 e9;have I8:SitE K G (D::B) E5 F9 σ5 H8:=I7.step (Kp.same s8) (I7.fd.same s8);refine hg1 G (D::B) E5 F9 σ5 H8 x1 its[j] Ea _ I8 hx8' ea λσa Ia fra=>?_
     have owa:∀(j:Nat) (ds:List My),Ea[j]? = some (some (DV.own ds))->σa[j]? ≠ some (some (V.ref D)):=λj ds ej=>by
      obtain⟨a1,a2⟩:=fra j λy z=>by rw[ej]at z;cases z
      rw[a2];exact ow5 j ds (a1▸ej)
     refine ht1 G (D::B) Ea F9 σa H8 _ bb Fb Ia eb λHb kb fb=>?_
     have kallb:Kp (p9 K G) H1 Hb:=(k7.trans (Kp.same s8)).trans kb;have Ib:SitE K G (D::B) Ea Fb σa Hb:=Ia.step kb fb;have hDb:Hb D=some (.lst acc5):=kb D _ (s8 D _ hD7) hfD;have s78:l6 (hid H7 (D::B)) (hid H8 (D::B)):=(Kp.same s8).hid (fp:=[]) (by simp);have s8b:l6 (hid H8 (D::B)) (hid Hb (D::B)):=kb.hid Ia.fB;have hdb:b7 K (hid Hb (D::B)) done5 acc5:=(hd7.same s78).same s8b;have s6b:l6 (hid H6 (D::B)) (hid Hb (D::B)):=λb o z=>s8b b o (s78 b o (s7 b o z))
     cases bb with
     | false=>exact⟨hDb,its.length-(j+1),by omega,vn ⟨rfl,hjl,Ea,Fb,done5,rest5,Ib,hDb,kallb,s6b,owa,hdb,e9,ew9⟩⟩
     | true =>
      obtain⟨⟨yd,Fc⟩,ec,e9⟩:=bS9 e9;obtain⟨⟨⟨zs',Ez'⟩,Fd⟩,ed,e9⟩:=bS9 e9;cases e9;refine he G (D::B) Ea Fb σa Hb _ yd Fc Ib ec λv Hc kc fc hc=>?_
      have hDc:Hc D=some (.lst acc5):=kc D _ hDb hfD;have Ic:SitE K G (D::B) Ea Fc σa Hc:=Ib.step kc fc;have hdc:=hdb.same (kc.hid Ib.fB);have hlen:acc5.length<RN:=by have h1:=hd7.length;have h2:=Nn List.length ew9;simp only[MS,Mf]at h2;omega
      refine⟨hDc,hlen,its.length-(j+1),by omega,vn ⟨rfl,hjl,Ea,Fc,done5++[yd],zs',Ic.wr hfD owa hDc,k8,λb o eb nb=>?_,?_,owa,?_,ed,by rw[ew9];simp⟩⟩
      .have:=kc b o (kallb b o eb nb) nb;rw[i3];exact this;intro z;subst z;rw[hD]at eb;cases eb
      .rw[bC Me];exact λb o z=>kc.hid Ib.fB b o (s6b b o z)
      .rw[bC Me];exact hdc.snoc hc
    .have hje:j=its.length:=by omega
     subst hje;rw[Px,lh]at e9;cases e9;rw[NC]at ew9;exact .inl ⟨(ok1 H7 (D::B) s7).2,items.length-(i+1),by omega,wn ⟨rfl,hlt,_,_,done5,ws,acc5,I7,hD7,k7,ow5,hd7,e8,ew9⟩⟩
  .have hie:i=items.length:=by omega
   subst hie;rw[Px,dD]at e3;cases e3;rw[NC]at ew;subst ew;exact .inl ⟨(ok H' (D::B) (stab k2)).2,q _ H' (k1.trans k2) I2.fd (c8.lst (by rw[u3 hBD];exact hD2) (hd2.same (ae λb hb=>Mc _ hb)))⟩
 .cases e
def gn {ifs ifs1:List RL}{scope osc:RI}{N:List Str}{k:Nat}{cap:List Nat}{wi wi1:TI}{g g1:TG}{tt tt1:TT}{mi mi1:DE->M (List My)}{bd:My->DE->Option DE}{mt mt1:DE->M Bool}{me:DE->M My}
  (hc:X.calm=true) (hosc:X.env.scope=osc) (hcap:Caps X.N osc N k cap scope) (hi:Eib K X tg iter wi mi)
  (hg:∀cl C ex vv s H,Eg K (cxC X N scope cl C ex vv s H) tg g bd)
  (ht:∀cl C ex vv s H,Ets K (cxC X N scope cl C ex vv s H) ifs tt mt)
  (hi1:∀cl C ex vv s H,Ei K (cxC X N scope cl C ex vv s H) tg1 iter1 wi1 mi1)
  (hg1:∀cl C ex vv s H,Eg K (cxC X N scope cl C ex vv s H) tg1 g1 bd1)
  (ht1:∀cl C ex vv s H,Ets K (cxC X N scope cl C ex vv s H) ifs1 tt1 mt1)
  (he:∀cl C ex vv s H,Ev K (cxC X N scope cl C ex vv s H) elt te me)
  (hs1:∀cl C ex vv s H x,RY iter1 (cxC X N scope cl C ex vv s H).env x=pure x:=by intros;rfl)
  (hs:∀x,RY iter X.env x=pure x:=by intro _;rfl) :
  Ev K X (.ListComp elt [⟨tg,iter,ifs,0⟩,⟨tg1,iter1,ifs1,0⟩] scope pos) (BL wi k cap g tt wi1 g1 tt1 te) (kC mi k cap bd mt mi1 bd1 mt1 me) :=
 ⟨AW hc hosc hcap hi.pi (λcl C ex vv s H=>(hg cl C ex vv s H).pg) (λcl C ex vv s H=>(ht cl C ex vv s H).pts) (λcl C ex vv s H=>(hi1 cl C ex vv s H).pi) (λcl C ex vv s H=>(hg1 cl C ex vv s H).pg) (λcl C ex vv s H=>(ht1 cl C ex vv s H).pts) (λcl C ex vv s H=>(he cl C ex vv s H).pe) hs1 hs,
  Dg hi.ok (hg [] 0 [] [] X.s₀ X.H₀).ok (ht [] 0 [] [] X.s₀ X.H₀).ok (hi1 [] 0 [] [] X.s₀ X.H₀).ok (hg1 [] 0 [] [] X.s₀ X.H₀).ok (ht1 [] 0 [] [] X.s₀ X.H₀).ok (he [] 0 [] [] X.s₀ X.H₀).ok⟩
end
end
section
section
variable [Feeds]
variable {K:Fg}{X:Cx}{st:RK}{rest:List RK}{t u:TS}{mt:DE->M Out}{mu:DE->M (List My)}{p pos:Pos}
variable {P:RF}{w:RG}{mg:Str->Option RC}{base:RM}
end
end
end L3
namespace L2
open PySem PySem.Spec PyProof.Rows
section
variable {X:Cx}{K:Fg}
end
end L2
namespace L3
open PySem PySem.Spec PyProof.Rows L2
section
section
variable [Feeds]{K:Fg}{X:Cx}
end
end
section
section
variable [Feeds]
variable {K:Fg}{X:Cx}{e:RL}{es:List RL}{p pos:Pos}
def FnG (K:Fg)(mg:Str->Option RC)(x:Str):Prop:=∃a,mg x=some (.ref a)/\PySem.W.nsIn K RU x=some (some (.ref a))
def vG (x:Str)(r:DE->M (List DV)):DE->M (List DV):=λE F=>(r E F).bind λq=>some (.fn x::q.1,q.2)
def tFn (K:Fg)(x:Str):TE:=λ_ H Q=>∀a,PySem.W.nsIn K RU x=some (some (.ref a))->Q (.ref a) H
def Dq {x:Str}(g:FnG K X.mg x)(hg:Gl X x)(hd:(x == ("__debug__":Str))=false):PE X (.Name x p) (tFn K x):=by obtain⟨a,g1,g2⟩:=g;exact λ_ _ _ H _ I h=>kz I hg g1 ⟨.ref a,H,I,rfl,h a g2⟩ hd
def uI {x:Str}{tl:TA}{ms:DE->M (List DV)}(g:FnG K X.mg x)(hr:Evs K X es tl ms)(hg:Gl X x:=by rfl)(hd:(x == ("__debug__":Str))=false:=by decide)
  (hs:RO (.Name x p::es) X.env=(false,eval (.Name x p) X.env)::RO es X.env:=by rfl):Evs K X (.Name x p::es) (N8 (tFn K x) tl) (vG x ms) :=
 ⟨A3 (Dq g hg hd) hr.pa hs,λG B E F O H Q ds F' I e q=>by obtain⟨⟨ys,F2⟩,e2,e⟩:=bS9 e;cases e;intro a ha;exact hr.ok G B E F O H _ ys _ I e2 λvs H2 k2 f2 h2=>q _ H2 k2 f2 ⟨_,vs,rfl,rfl,⟨a,rfl,ha⟩,h2⟩⟩
def tT {n:Nat}{x:Str}{ms:DE->M (List DV)}(h:∀E F args F',ms E F=some (args,F')->args.length=n):∀E F args F',vG x ms E F=some (args,F')->args.length=n+1:=λE F args F' e=>by obtain⟨⟨ys,F2⟩,e2,e⟩:=bS9 e;cases e;rw[Mf,h _ _ _ _ e2]
def tI (i:Nat)(K:Fg)(y:Str)(sp:Sp)(t:TA):TE:=λO H Q=>∃f,PySem.W.nsIn K RU y=some (some (.ref f)) /\ O[i]? = some (some (.ref f))/\t O H λvs H1=>sp vs H1 Q E0
def uC {i k:Nat}{x y:Str}{ps:List Str}{sp:Sp}{t:TA}(C:g9 X.prog X.w X.K X.mg X.base y k ps sp)(g:FnG K X.mg y)(hr:Room k X.A)
  (ha:PA X (e::es) t) (hN:X.N[i]? = some x) (hv:Vis X.env.scope x) (hd:(x == ("__debug__":Str))=false) (hcd:(x == ("__classdict__":Str))=false)
  (he:RO (e::es) X.env=(false,eval e X.env)::RO es X.env) (hpl:(RR pos (RO es X.env)).any (·.1)=false) :
  PE X (.Call (.Name x p) (e::es) [] pos) (tI i K y sp t):=by
 intro vv s O H Q I h;obtain⟨f,g0,e1,h⟩:=h;obtain⟨f',fd,F,hm,hk,hb⟩:=C;obtain⟨a0,g1,g2⟩:=g;rw[g0]at g2;cases g2;rw[hm]at g1;cases g1;refine PL ?_;have fin:RT (model X.prog X.w) X.A (callWith pos (.ref f) [] (RR pos (RO (e::es) X.env)) (Se pos (Sf [] X.env))) (EP X vv O Q) X.xe s:=by refine PySem.W.callWith_K (h₀:=X.base) I.ok.mod.kin hk (thn (ha pos vv s O H _ I h) λus s1 ⟨vs,H1,I1,r,q⟩=>⟨I1.kIn,?_⟩) he hpl;exact xu F hr hb .nil zU I1 r (by rw[NC];exact q)
 obtain⟨m,hn,hl⟩:=I.loc;obtain⟨u,r,l⟩:=hl i x _ hN e1 hv;cases r;rcases l with ⟨hk,hm⟩ | ⟨hk,c,hc,hcell⟩
 .exact QI (wpAny_loadName_local I.ok.kind hk hn hm fin) hd
 .rcases hk with hk | hk
  .exact QI (wpAny_loadName_cell I.ok.kind hk hc hcell fin) hd
  .exact QI (wpAny_loadName_free I.ok.kind hk hc hcell fin hcd) hd
def V9 (i:Nat)(y:Str)(f:List DV->M My)(ms:DE->M (List DV)):DE->M My:=λE F=>match E[i]? with
 | some (some (.fn z))=>if z=y then(ms E F).bind λp=>f p.1 p.2 else none
 | _=>none
def au (i:Nat){x y:Str}{k n:Nat}{ps:List Str}{f:List DV->M My}{tl:TA}{ms:DE->M (List DV)}(C:g9 X.prog X.w X.K X.mg X.base y k ps (spD K n f))(g:FnG K X.mg y)(hr:Room k X.A)(ha:Evs K X (e::es) tl ms)(hn:∀E F args F',ms E F=some (args,F')->args.length=n)
  (hN:X.N[i]? = some x:=by rfl) (hv:Vis X.env.scope x:=by walk_at "v") (hd:(x == ("__debug__":Str))=false:=by decide)
  (hcd:(x == ("__classdict__":Str))=false:=by decide) (he:RO (e::es) X.env=(false,eval e X.env)::RO es X.env:=by rfl) (hpl:(RR pos (RO es X.env)).any (·.1)=false:=by rfl) :
  Ev K X (.Call (.Name x p) (e::es) [] pos) (tI i K y (spD K n f) tl) (V9 i y f ms):=by
 refine⟨uC C g hr ha.pa hN hv hd hcd he hpl,λG B E F O H Q d F' I e q=>?_⟩;unfold V9 at e;split at e
 .rename_i z hz;split at e
  .rename_i hzy;subst hzy;obtain⟨⟨args,F1⟩,e1,e⟩:=bS9 e;obtain⟨v,v1,a,rfl,ga⟩:=I.loc i _ hz;refine⟨a,ga,v1,ha.ok G B E F O H _ args F1 I e1 λvs H1 k1 f1 h1=>?_⟩;exact⟨G,B,F1,args,d,F',by rw[h1.length];exact hn _ _ _ _ e1,I.fB,A2 I.bk k1 f1,f1,h1,e,λv H2 k2 f2 h2=>q v H2 (k1.trans k2) f2 h2⟩
  .cases e
 .cases e
end
end
section
section
variable [Feeds]
variable {K:Fg}{X:Cx}{e:RL}{te:TE}{m:DE->M My}{p pos:Pos}
end
end
end L3
namespace L3
open PySem PySem.Spec PyProof.Rows L2 PySem.SeqAt
def AV (A:RH)(s:RE)(y x:RC)(r:Bool):Prop:=∀(P:RF) (w:RG) (E:RC->RE->Prop) (Q:RC->RE->Prop),Q (.bool r) s->RT (model P w) A (richCompare .Lt y x) Q E s
def lT (l b:RD)(xs ys:Array RC)(n k:Nat)(dd de:Option RD)(sl sm:Array (Option RC))(T:Nat->Prop)(r:Bool) :
  Meets (Builtin.«tuple.__lt__» ⟨[.ref l,.ref b],[]⟩)
   (λA R s=>s.heap.get? l=some ⟨.type "tuple",dd,.seq xs n,sl⟩/\s.heap.get? b=some ⟨.type "tuple",de,.seq ys k,sm⟩/\T 0 /\
    (∀j (h1:j<xs.size) (h2:j<ys.size),T j->∃e,EqAt A.in1 s xs[j] ys[j] e/\(e=true->T (j+1))/\(e=false->AV A.in1 s xs[j] ys[j] r)) /\
    (∀j,T j->min xs.size ys.size<=j->r=decide (xs.size<ys.size))/\R (.ok (.ret (.bool r))) s) :=
 .of_wp λP w A R s h=>by
  obtain⟨hp,g,dr,tk,os⟩:=s;obtain⟨hl,hb,h0,st,fi,h⟩:=h;have tt:=OX;have hz:(xs.toList.zip ys.toList).length=min xs.size ys.size:=by simp
  wp_walk using AutoSeq1.wpAny_loadPart' hl,AutoSeq1.wpAny_loadPart' hb,Qz _ (λrest z s'=>z.1=none/\s'=⟨hp,g,dr,tk,os⟩/\∃i,rest=(xs.toList.zip ys.toList).drop i/\T i) _;case turn =>
   rintro ⟨y,x⟩ rest z s' ⟨hz1,rfl,i,hr,hT⟩
   have lt:i<(xs.toList.zip ys.toList).length:=by
    rcases Ru i (xs.toList.zip ys.toList).length with q | q
    .exact q
    .rw[OJ q]at hr;cases hr
   have lm:i<min xs.size ys.size:=hz▸lt
   have l1:i<xs.size:=by omega
   have l2:i<ys.size:=by omega
   rw[MV lt]at hr
   injection hr with hyx hrest
   obtain rfl:y=xs[i]:=by simpa using Nn Prod.fst hyx
   obtain rfl:x=ys[i]:=by simpa using Nn Prod.snd hyx
   obtain⟨e,he,e1,e2⟩:=st i l1 l2 hT
   refine LV (he P w _ _ ?_)
   cases e with
   | true =>
    wp_walk
    exact⟨rfl,rfl,i+1,hrest,e1 rfl⟩
   | false =>
    have hq:∀{E:RC->RE->Prop} {Q:RC->RE->Prop},Q (.bool r) ⟨hp,g,dr,tk,os⟩->RT (model P w) A.in1 (richCompare .Lt xs[i] ys[i]) Q E ⟨hp,g,dr,tk,os⟩:=λ{E Q} z=>e2 rfl P w E Q z
    wp_walk using hq
    exact⟨_,rfl,h⟩
  case fin =>
   rintro ⟨z1,z2⟩ s' ⟨hz1,rfl,i,hr,hT⟩
   simp only at hz1
   subst hz1
   have ge:min xs.size ys.size<=i:=by
    rcases Ru i (xs.toList.zip ys.toList).length with q | q
    .rw[MV q]at hr;cases hr
    .exact hz▸q
   have er:=fi i hT ge
   wp_walk
   exact⟨_,rfl,by rw[er]at h;simpa [Builtin.Tuple.tupleCompareSizes] using h⟩
  case h =>
   exact⟨rfl,rfl,0,rfl,h0⟩
theorem N9 {h:RM}:∀{vs:List RC} {xs:List My} {as:List RD},ReadsAll h vs xs as->vs.length=xs.length
 | _,_,_,.nil=>rfl
 | _,_,_,.cons _ r=>by rw[Mf,Mf,N9 r]
theorem Q0 {h:RM}:∀{vs:List RC} {xs:List My} {as:List RD},ReadsAll h vs xs as->∀(j:Nat) (h1:j<vs.length) (h2:j<xs.length),∃bs,Reads h vs[j] xs[j] bs
 | _,_,_,.nil,j,h1,_=>absurd h1 (Pg _)
 | _,_,_,.cons r rs,0,_,_=>⟨_,r⟩
 | _,_,_,.cons r rs,j+1,h1,h2=>Q0 rs j (Nat.lt_of_succ_lt_succ h1) (Nat.lt_of_succ_lt_succ h2)
theorem gI:∀{xs:List My},My.canLayAll0 xs=true->∀x∈xs,x.canLay0=true/\x.depth<=My.depthAll xs
 | [],_,x,hx=>by cases hx
 | y::ys,h,x,hx=>by
  have h':y.canLay0=true/\My.canLayAll0 ys=true:=by simpa [My.canLayAll0] using h
  rcases Mi.1 hx with rfl | hx
  .exact⟨h'.1,Nat.le_max_left _ _⟩
  .obtain⟨a,b⟩:=gI h'.2 x hx;exact⟨a,MK b (Nat.le_max_right _ _)⟩
section
variable [Feeds]{K:Fg}{X:Cx}
end
end L3
namespace L3
open PySem PySem.Spec PyProof.Rows L2
variable {ys:Array RC}
section
section
variable {prog:RF}{w:RG}{A:RH}{E:RC->RE->Prop}{s:RE}
variable {b1 b2 f:Bool}{z TI TO T0 i1 i2 l1 l2:RD}{k:Nat}{xs:Array RC}{x y a b:RC}{oT:RP}
end
end
variable {pos:Pos}
section
section
variable {X:Cx}{K:Fg}{p p2 pos2:Pos}
end
section
variable [Feeds]{X:Cx}{K:Fg}{p p2 pos2:Pos}{e1 e2:RL}{te1 te2:TE}{m1 m2:DE->M My}
end
end
section
section
variable {prog:RF}{w:RG}{A:RH}{E:RC->RE->Prop}{s:RE}
end
section
variable [Feeds]{K:Fg}{X:Cx}{tg e1 e2:RL}{te1 te2:TE}{m1 m2:DE->M My}{p tp:Pos}{es:List RL}{tk:Nat}
end
end
section
def ri (l1 l2:RD)(xs ys:Array RC) :
  Meets (Builtin.«zip.__new__» ⟨[.type "zip",.ref l1,.ref l2],[]⟩) (λ_ R s=>s.heap.IsTuple l1 xs/\s.heap.IsList l2 ys /\
   R (.ok (.ret (.ref (zg4 s.heap false true l1 l2).objs.size))) { s with heap:=zg5 s.heap false true l1 l2 }) :=
 .of_wp λprog w A R s h=>by
  obtain⟨hp,g,d,tk,os⟩:=s;obtain⟨m1,m2,h⟩:=h;have hsub:=sub_zip;have hL1:RM.IsTuple (RE.heap ⟨hp,g,d,tk,os⟩) l1 xs:=m1;have hL2:RM.IsList (RE.heap ⟨hp.push { cls:=.type "tuple_iterator",data:=.fields #[.ref l1,.int 0 0] },g,d,tk,os⟩) l2 ys:=by obtain⟨o,ho,r⟩:=m2;exact⟨o,LZ _ ho,r⟩
  wp_walk using Oq hL1,wpAny_pyIter_list hL2;exact⟨_,rfl,h⟩
section
variable {prog:RF}{w:RG}{A:RH}{E:RC->RE->Prop}{s:RE}
def vz {l1 l2:RD}{xs:Array RC}{Q:RC->RE->Prop}(m1:s.heap.IsTuple l1 xs)(m2:s.heap.IsList l2 ys)
  (h:∀h',IsZip h' (s.heap.objs.size+4) (s.heap.objs.size+2) (s.heap.objs.size+3) .none->IsPair h' (s.heap.objs.size+2) (.ref s.heap.objs.size) (.ref (s.heap.objs.size+1)) ->
   IsPair h' (s.heap.objs.size+3) .none .none->K6 false h' s.heap.objs.size l1 0->K6 true h' (s.heap.objs.size+1) l2 0->(∀c o,s.heap.get? c=some o->h'.get? c=some o)->Q (.ref (s.heap.objs.size+4)) { s with heap:=h' }) :
  RT (model prog w) A (call (.type "zip") [.ref l1,.ref l2]) Q E s:=by
 refine callType_new PySem.F.called_zip (by decide) (PySem.F.typeCall_zip_2 _ _) (PySem.F.newCall_zip_2 _ _) (λobj=>PySem.F.args_object_init_3 obj _ _) PySem.F.entry_zip_new (ri l1 l2 xs ys) ⟨m1,m2,?_⟩;have n1:(zg1 s.heap false l1).objs.size=s.heap.objs.size+1:=NB ..;have n2:(zg2 s.heap false true l1 l2).objs.size=s.heap.objs.size+2:=by rw[NB,n1]
 have n3:(zg3 s.heap false true l1 l2).objs.size=s.heap.objs.size+3:=by rw[NB,n2]
 have n4:(zg4 s.heap false true l1 l2).objs.size=s.heap.objs.size+4:=by rw[NB,n3]
 have g5:(zg5 s.heap false true l1 l2).get? (zg4 s.heap false true l1 l2).objs.size=some _:=Mp _ rfl;have g4:(zg5 s.heap false true l1 l2).get? (zg3 s.heap false true l1 l2).objs.size=some _:=LZ _ (Mp _ rfl);have g3:(zg5 s.heap false true l1 l2).get? (zg2 s.heap false true l1 l2).objs.size=some _:=LZ _ (LZ _ (Mp _ rfl));have g2:(zg5 s.heap false true l1 l2).get? (zg1 s.heap false l1).objs.size=some _:=LZ _ (LZ _ (LZ _ (Mp _ rfl)));have g1:(zg5 s.heap false true l1 l2).get? s.heap.objs.size=some _:=LZ _ (LZ _ (LZ _ (LZ _ (Mp _ rfl))));show _/\_;rw[n2,n3,n4]at g5;rw[n1,n2]at g3;rw[n3]at g4;rw[n1]at g2;rw[n4];exact⟨⟨_,g5,rfl⟩,h _ g5 g3 g4 (show RM.IsTupleIter _ _ _ _ from⟨_,g1,rfl,rfl⟩) (show RM.IsListIter _ _ _ _ from⟨_,g2,rfl,rfl⟩) λc o x =>
  LZ _ (LZ _ (LZ _ (LZ _ (LZ _ x))))⟩
end
section
variable [Feeds]{K:Fg}{X:Cx}{tg e1 e2:RL}{te1 te2:TE}{m1 m2:DE->M My}{p tp:Pos}{es:List RL}{tk:Nat}
def Z2 (a b:DE->M My):DE->M (List My):=λE F=>(a E F).bind λp=>(b E p.2).bind λr=>match p.1,r.1 with
 | .tuple xs,.list ys=>some (jv xs ys,r.2)
 | _,_=>none
def tL (K:Fg)(tl:TA):TI:=λO H R=>tl O H λxs H1=>∃a1 a2,xs=[.ref a1,.ref a2]/\∃ys zs,SqA false K H1 a1 ys/\SqA true K H1 a2 zs/\R (Itz false true K a1 a2) H1
def tG {l1 l2:RL}{tl:TA}(hK:X.K=K)(hg:Gl X "zip")(hm:X.mg "zip" = none)(ha:PA X [l1,l2] tl)(hs:RO [l1,l2] X.env=(false,eval l1 X.env)::RO [l2] X.env:=by rfl)(hp:(RR pos (RO [l2] X.env)).any (·.1)=false:=by rfl):PI X (.Tuple es tk tp) (.Call (.Name "zip" p) [l1,l2] [] pos) (tL K tl):=by
 subst hK;intro vv s O H R I h;refine Call_ (cy I hg hm boot_zip (Of (thn (ha pos vv s O H _ I h) λus s1 ⟨vs,H1,I1,r1,q1⟩=>?_) hs hp));obtain⟨a1,a2,e,ys,zs,hq1,hq2,q⟩:=q1;subst e;cases r1 with
 | cons r rr =>
  cases rr with
  | cons r' rr =>
   cases rr;cases r;cases r';obtain⟨its1,rv1,p1⟩:=SqA.get I1 hq1;obtain⟨its2,rv2,p2⟩:=SqA.get I1 hq2;have l1:a1<s1.heap.objs.size:=by obtain⟨o,z,_⟩:=(show s1.heap.IsTuple a1 its1.toArray from p1);exact Mm z
   have l2:a2<s1.heap.objs.size:=by obtain⟨o,z,_⟩:=(show s1.heap.IsList a2 its2.toArray from p2);exact Mm z
   refine vz (show s1.heap.IsTuple a1 its1.toArray from p1) (show s1.heap.IsList a2 its2.toArray from p2) λh' hz hTI hTO hi1 hi2 hk=>?_
   have I2:Inv X vv O H1 { s1 with heap:=h' }:=I1.kept (t':=s1.toks) hk;have D:ZipApart (s1.heap.objs.size+4) (s1.heap.objs.size+2) (s1.heap.objs.size+3) s1.heap.objs.size (s1.heap.objs.size+1) a1 a2:=by generalize s1.heap.objs.size=N at l1 l2;exact BP l1 l2
   refine wpAny_pyIter_zip hz ⟨s1.heap.objs.size+4,[s1.heap.objs.size+4,s1.heap.objs.size+2,s1.heap.objs.size+3,s1.heap.objs.size,s1.heap.objs.size+1],_,_,H1,rfl,I2,wF false true a1 a2 _ _ _ _ _,⟨D,hz,hTI,⟨_,_,hTO⟩,hi1,hi2⟩,λc hc=>?_,q⟩;have hle:s1.heap.objs.size<=c:=by simp only[Mi,Oo,QC]at hc;generalize s1.heap.objs.size=N at hc;have hc:@Eq Nat c (N+4) \/ @Eq Nat c (N+2) \/ @Eq Nat c (N+3) \/ @Eq Nat c N \/ @Eq Nat c (N+1):=hc;show @LE.le Nat _ N c;omega
   exact I1.fpOk hle (I1.hok.fresh hle)
def ao (h1:Ev K X e1 te1 m1)(h2:Ev K X e2 te2 m2)(hm:X.mg "zip" = none)(hK:X.K=K:=by rfl)(hg:Gl X "zip":=by rfl)(hs:RO [e1,e2] X.env=(false,eval e1 X.env)::RO [e2] X.env:=by rfl)(hs2:RO [e2] X.env=[(false,eval e2 X.env)]:=by rfl)(hp:(RR pos (RO [e2] X.env)).any (·.1)=false:=by rfl) :
  Ei K X (.Tuple es tk tp) (.Call (.Name "zip" p) [e1,e2] [] pos) (tL K (N8 te1 (N8 te2 bY))) (Z2 m1 m2):=⟨tG hK hg hm (A3 h1.pe (A3 h2.pe J6 hs2) hs) hs hp,λG B E F O H R ds F' I e q=>by
 obtain⟨⟨y,F1⟩,e1,e⟩:=bS9 e;obtain⟨⟨z,F2⟩,e2,e⟩:=bS9 e;refine h1.ok G B E F O H _ y F1 I e1 λv H1 k1 f1 r1=>?_
 refine h2.ok G B E F1 O H1 _ z F2 (I.step k1 f1) e2 λu H2 k2 f2 r2=>?_
 have r1:=r1.same (k2.hid I.fB);dsimp only at e;cases y with
 | tuple ys =>
  cases z with
  | list zs =>cases e;simp only[c8]at r1 r2;obtain⟨a,xs,rfl,ha,hd⟩:=r1;obtain⟨a',xs',rfl,ha',hd'⟩:=r2;exact⟨a,a',rfl,xs,xs',ha.same f8,SqL.of (f8 _ _ ha'),q _ H2 (k1.trans k2) f2 (AY λH3 B3 s=>⟨⟨(ha.same s).same f8,hd.same s⟩,SqL.of (f8 _ _ (s _ _ ha')),hd'.same s⟩)⟩
  | _=>cases e
 | _=>cases e⟩
end
end
end L3
namespace L3
open PySem PySem.Spec PyProof.Rows L2 PySem.SeqAt
mutual
def ltW:My->My->Option Bool
 | .int i,.int j=>some (decide (i<j))
 | .bool a,.bool b=>some (!a&&b)
 | .tuple xs,.tuple ys=>ltM xs ys
 | _,_=>none
def ltM:List My->List My->Option Bool
 | [],[]=>some false
 | [],_::_=>some true
 | _::_,[]=>some false
 | x::xs,y::ys=>if My.eqv x y=true then ltM xs ys else ltW x y
end
def Dy {P:RF}{w:RG}{A:RH}{E:RC->RE->Prop}{s:RE}{a b:Bool}{Q:RC->RE->Prop}(q:Q (.bool (!a&&b)) s):RT (model P w) A (richCompare .Lt (.bool a) (.bool b)) Q E s:=by
 refine lt_bool (p:=a) (q:=b) ?_;have e:decide (b2i a<b2i b)=(!a&&b):=by cases a <;> cases b <;> rfl
 rw[e];exact q
def aZ:∀(m:Nat) (da db:My) (A:RH) (s:RE) (a b:RC) (as bs:List RD) (r:Bool),sizeOf da<m->Reads s.heap a da as->Reads s.heap b db bs->da.canLay0=true->db.canLay0=true ->
  A.units+min da.depth db.depth<Sa->ltW da db=some r->AV A s a b r
 | 0,_,_,_,_,_,_,_,_,_,hm,_,_,_,_,_,_=>absurd hm (Pg _)
 | m+1,da,db,A,s,a,b,as,bs,r,hm,ra,rb,ha,hb,hu,hr=>by
  cases ra with
  | int i t =>
   cases rb with
   | int j u =>rw[ltW]at hr;cases hr;exact λP w E Q q=>lt_int q
   | _=>simp[ltW]at hr
  | bool a1 =>
   cases rb with
   | bool b1 =>rw[ltW]at hr;cases hr;exact λP w E Q q=>Dy q
   | _=>simp[ltW]at hr
  | tuple k1 k2 k3 k4 =>
   rename_i la oa va na xs;cases rb with
   | tuple q1 q2 q3 q4 =>
    rename_i lb ob vb nb ys;rw[ltW]at hr;obtain⟨oc,od,dt,osl⟩:=oa;obtain⟨oc',od',dt',osl'⟩:=ob;dsimp only at k2 k3 q2 q3;subst k2 k3 q2 q3;have lx:=N9 k4;have ly:=N9 q4;rw[MZ]at lx ly;have ha':My.canLayAll0 xs=true:=ha;have hb':My.canLayAll0 ys=true:=hb;have hu1:A.units+min (My.depthAll xs+1) (My.depthAll ys+1)<Sa:=hu;intro P w E Q q;refine richCompare_meets_room (op:=.Lt) ⟨_,k1,rfl⟩ ⟨_,q1,rfl⟩ F.slot_tuple_lt F.entry_tuple_lt (F.args_tuple_lt_2 _ _)
     (lT la lb va vb na nb od od' osl osl' (λj=>j<=min va.size vb.size/\ltM (xs.drop j) (ys.drop j)=some r) r)
     ⟨k1,q1,⟨Nj _,hr⟩,λj h1 h2 hT=>?_,λj hT hj=>?_,show RC.bool r≠RC.notImplemented/\Q (.bool r) s from⟨(λz=>nomatch z),q⟩⟩ (room_here hu)
    .have j1:j<xs.length:=by omega
     have j2:j<ys.length:=by omega
     have hT2:=hT.2;rw[MV j1,MV j2,ltM]at hT2;have he:=eqAt_readsAll xs ys A.in1 s va.toList vb.toList _ _ k4 q4 ha' hb' (room_in hu1) j (by simpa using h1) (by simpa using h2);have ep:pairEq xs ys j=My.eqv xs[j] ys[j]:=by simp[pairEq,j1,j2]
     rw[ep]at he;refine⟨_,by simpa using he,λz=>⟨by omega,?_⟩,λz=>?_⟩
     .rw[Mb z]at hT2;exact hT2
     .rw[Md (by rw[z];decide)]at hT2;obtain⟨as',r1⟩:=Q0 k4 j (by simpa using h1) j1;obtain⟨bs',r2⟩:=Q0 q4 j (by simpa using h2) j2;obtain⟨c1,d1⟩:=gI ha' xs[j] (Oa j1);obtain⟨c2,d2⟩:=gI hb' ys[j] (Oa j2);have hsz:sizeOf xs[j]<sizeOf xs:=QG (Oa j1);have hsz2:sizeOf (My.tuple xs)=1+sizeOf xs:=by simp
      have hr2:A.in1.units+min xs[j].depth ys[j].depth<Sa:=by have:=room_in hu1;have e1:A.in1.units=A.units+1:=rfl;omega
      have:=aZ m xs[j] ys[j] A.in1 s _ _ as' bs' r (by omega) (by simpa using r1) (by simpa using r2) c1 c2 hr2 hT2;simpa using this
    .obtain⟨t1,t2⟩:=hT;rcases Ru va.size vb.size with z | z
     .have e1:xs.drop j=[]:=OJ (by omega);have j2:j<ys.length:=by omega
      rw[e1,MV j2,ltM]at t2;cases t2;exact(Mv z).symm
     .have e1:ys.drop j=[]:=OJ (by omega);rw[e1]at t2;have er:r=false:=by
       cases h:xs.drop j with
       | nil=>rw[h,ltM]at t2;cases t2;rfl
       | cons x l=>rw[h,ltM]at t2;cases t2;rfl
      rw[er];exact(Mw (by omega)).symm
   | _=>simp[ltW]at hr
  | _=>simp[ltW]at hr
end L3
namespace L3
open PySem PySem.Spec PyProof.Rows L2 PySem.SeqAt PySem.W
variable {ys:List My}
section
section
variable {prog:RF}{w:RG}{A:RH}{s:RE}
def vL {p q:RC}{r:Bool}{Q:Bool->RE->Prop}{E:RC->RE->Prop}(l:AV A s p q r)(h:Q r s):RT (model prog w) A (oneLt' false p q) Q E s :=
 kat_one p q (l prog w E _ h)
def mS {Q:Bool->RE->Prop}{r:Bool}:∀(xs ys:List My) (us vs:List RC) (as bs:List RD) (i:Nat) (fin:Bool),ReadsAll s.heap us xs as->ReadsAll s.heap vs ys bs->My.canLayAll0 xs=true->My.canLayAll0 ys=true ->
  A.units+min (My.depthAll xs) (My.depthAll ys)<Sa->ltM xs ys=some r->fin=decide (us.length<vs.length)->Q r s->KatLex prog w A false fin Q (us.zip vs) i s
 | [],[],us,vs,_,_,i,fin,ra,rb,_,_,_,hr,hf,q=>by
  walk_at "kaa"
 | [],y::ys,us,vs,_,_,i,fin,ra,rb,_,_,_,hr,hf,q=>by
  walk_at "kaa"
 | x::xs,[],us,vs,_,_,i,fin,ra,rb,_,_,_,hr,hf,q=>by
  walk_at "kaa"
 | x::xs,y::ys,us,vs,_,_,i,fin,ra,rb,ha,hb,hu,hr,hf,q=>by
  cases ra with
  | cons r1 ra =>
   cases rb with
   | cons r2 rb =>
    have ha':x.canLay0=true/\My.canLayAll0 xs=true:=by simpa [My.canLayAll0] using ha
    have hb':y.canLay0=true/\My.canLayAll0 ys=true:=by simpa [My.canLayAll0] using hb
    have d1:My.depthAll (x::xs)=max x.depth (My.depthAll xs):=rfl;have d2:My.depthAll (y::ys)=max y.depth (My.depthAll ys):=rfl;rw[d1,d2]at hu;have hu1:A.units+min x.depth y.depth<Sa:=by omega
    have hu2:A.units+min (My.depthAll xs) (My.depthAll ys)<Sa:=by omega
    rw[ltM]at hr;rw[Pf];refine kat_cons ((eqAt_reads x y A s _ _ _ _ r1 r2 ha'.1 hb'.1 hu1) _ _ _ _ ?_);refine kat_go (λe=>kat_yes ?_) (λe=>kat_no ?_)
    .rw[Mb e]at hr;exact mS xs ys _ _ _ _ (i+1) fin ra rb ha'.2 hb'.2 hu2 hr (by simpa using hf) q
    .rw[Md (by rw[e];decide)]at hr;exact vL (aZ _ x y A s _ _ _ _ r (NZ _) r1 r2 ha'.1 hb'.1 hu1 hr) q
def nJ {xs:List My}{u v:RC}{as bs:List RD}{r:Bool}{Q:Bool->RE->Prop}{E:RC->RE->Prop}(ra:Reads s.heap u (.tuple xs) as)(rb:Reads s.heap v (.tuple ys) bs)(ha:My.canLayAll0 xs=true)(hb:My.canLayAll0 ys=true)
  (hu:A.units+min (My.depthAll xs) (My.depthAll ys)<Sa) (hr:ltM xs ys=some r) (q:Q r s):RT (model prog w) A (keyLt' (tuples' false) u v) Q E s:=by
 cases ra with
 | tuple k1 k2 k3 k4 =>
  cases rb with
  | tuple q1 q2 q3 q4 =>refine kat_lt k1 k3 q1 q3 (mS xs ys _ _ _ _ 0 _ k4 q4 ha hb hu hr ?_ q);simp
def lC {xs:List My}{u v:RC}{as bs:List RD}{r:Bool}{Q:RC->RE->Prop}{E:RC->RE->Prop}(ra:Reads s.heap u (.tuple xs) as)(rb:Reads s.heap v (.tuple ys) bs)(ha':My.canLayAll0 xs=true)(hb':My.canLayAll0 ys=true)
  (hu1:A.units+min (My.depthAll xs+1) (My.depthAll ys+1)<Sa) (hr:ltM xs ys=some r) (q:Q (.bool r) s):RT (model prog w) A (call (.builtin "tuple.__lt__") [u,v]) Q E s:=by
 cases ra with
 | tuple k1 k2 k3 k4 =>
  rename_i la oa va na;cases rb with
  | tuple q1 q2 q3 q4 =>
   rename_i lb ob vb nb;obtain⟨oc,od,dt,osl⟩:=oa;obtain⟨oc',od',dt',osl'⟩:=ob;dsimp only at k2 k3 q2 q3;subst k2 k3 q2 q3;have lx:=N9 k4;have ly:=N9 q4;rw[MZ]at lx ly;refine Pq F.slot_tuple_lt ⟨_,k1,rfl⟩ F.entry_tuple_lt (F.args_tuple_lt_2 _ _)
    (lT la lb va vb na nb od od' osl osl' (λj=>j<=min va.size vb.size/\ltM (xs.drop j) (ys.drop j)=some r) r)
    ⟨k1,q1,⟨Nj _,hr⟩,λj h1 h2 hT=>?_,λj hT hj=>?_,q⟩
   .have j1:j<xs.length:=by omega
    have j2:j<ys.length:=by omega
    have hT2:=hT.2;rw[MV j1,MV j2,ltM]at hT2;have he:=eqAt_readsAll xs ys A.in1 s va.toList vb.toList _ _ k4 q4 ha' hb' (room_in hu1) j (by simpa using h1) (by simpa using h2);have ep:pairEq xs ys j=My.eqv xs[j] ys[j]:=by simp[pairEq,j1,j2]
    rw[ep]at he;refine⟨_,by simpa using he,λz=>⟨by omega,?_⟩,λz=>?_⟩
    .rw[Mb z]at hT2;exact hT2
    .rw[Md (by rw[z];decide)]at hT2;obtain⟨as',r1⟩:=Q0 k4 j (by simpa using h1) j1;obtain⟨bs',r2⟩:=Q0 q4 j (by simpa using h2) j2;obtain⟨c1,d1⟩:=gI ha' xs[j] (Oa j1);obtain⟨c2,d2⟩:=gI hb' ys[j] (Oa j2);have hr2:A.in1.units+min xs[j].depth ys[j].depth<Sa:=by have:=room_in hu1;have e1:A.in1.units=A.units+1:=rfl;omega
     have:=aZ _ xs[j] ys[j] A.in1 s _ _ as' bs' r (NZ _) (by simpa using r1) (by simpa using r2) c1 c2 hr2 hT2;simpa using this
   .obtain⟨t1,t2⟩:=hT;rcases Ru va.size vb.size with z | z
    .have e1:xs.drop j=[]:=OJ (by omega);have j2:j<ys.length:=by omega
     rw[e1,MV j2,ltM]at t2;cases t2;exact(Mv z).symm
    .have e1:ys.drop j=[]:=OJ (by omega);rw[e1]at t2;have er:r=false:=by
      cases h:xs.drop j with
      | nil=>rw[h,ltM]at t2;cases t2;rfl
      | cons x l=>rw[h,ltM]at t2;cases t2;rfl
     rw[er];exact(Mw (by omega)).symm
def tu {xs:List My}{u:RC}{as:List RD}(ra:Reads s.heap u (.tuple xs) as):s.TypeIs u "tuple":=by
 cases ra with
 | tuple k1 k2 k3 k4=>exact⟨_,k1,k2⟩
def sT {xs:List My}{u v:RC}{as bs:List RD}{r:Bool}{Q:Bool->RE->Prop}{E:RC->RE->Prop}(ra:Reads s.heap u (.tuple xs) as)(rb:Reads s.heap v (.tuple ys) bs)(ha:My.canLayAll0 xs=true)(hb:My.canLayAll0 ys=true)
  (hu:A.units+min (My.depthAll xs+1) (My.depthAll ys+1)<Sa) (hr:ltM xs ys=some r) (q:Q r s):RT (model prog w) A (keyLt' oneType' u v) Q E s:=by rw[keyLt'_oneType,oneLt'_eq];simp only[Nk];refine LV (wpAny_cRoomFor_or (.inr (by omega)) ?_);refine LV (wpAny_callSpecialIfBound?_slot (tu ra) F.slot_tuple_lt (lC ra rb ha hb hu hr ?_));exact Oc q
def sd {xs:List My}{u v:RC}{as bs:List RD}{r:Bool}{Q:Bool->RE->Prop}{E:RC->RE->Prop}(ra:Reads s.heap u (.tuple xs) as)(rb:Reads s.heap v (.tuple ys) bs)(ha:My.canLayAll0 xs=true)(hb:My.canLayAll0 ys=true)
  (hu:A.units+min (My.depthAll xs+1) (My.depthAll ys+1)<Sa) (hr:ltM xs ys=some r) (q:Q r s):RT (model prog w) A (keyLt' general' u v) Q E s :=
 vL (aZ _ (.tuple xs) (.tuple ys) A s _ _ _ _ r (NZ _) ra rb ha hb hu (by rw[ltW];exact hr)) q
end
end
section
def ah (h:RM):List RC->List (Option RC)->Prop
 | [],[]=>True
 | v::vs,f::fs=>(∃a o xs n,v = .ref a/\h.get? a=some o/\o.cls = .type "tuple" /\ o.data = .seq xs n/\xs[0]? = f)/\ah h vs fs
 | _,_=>False
theorem ah.len {h:RM}:∀{vs:List RC} {fs:List (Option RC)},ah h vs fs->vs.length=fs.length
 | [],[],_=>rfl
 | [],_::_,t=>t.elim
 | _::_,[],t=>t.elim
 | _::_,_::_,t=>by rw[Mf,Mf,ah.len t.2]
section
variable {M:Model}{A:RH}{E:RC->RE->Prop}{s:RE}
theorem mX:∀(vs:List RC) (fs:List (Option RC)) {Q:List (Option RC)->RE->Prop},ah s.heap vs fs->Q fs s->RT M A (vs.mapM firstOfTuple') Q E s
 | [],[],_,_,h=>by rw[List.mapM_nil];exact LY h
 | [],_::_,_,t,_=>t.elim
 | _::_,[],_,t,_=>t.elim
 | v::vs,f::fs,Q,t,h=>by obtain⟨⟨a,o,xs,n,rfl,ho,hc,hd,hf⟩,t⟩:=t;rw[Ob];refine LV ?_;rw[kas_first_eq];refine LV (Looks.here (show Looks M s.heap (typeOf (.ref a)) o.cls from(Looks.ld ho).andThen .now) ?_);rw[hc,Md (by first | decide | simp)];refine LV (listItems_at ho hd (LY ?_));rw[hf];exact LV (mX vs fs (Q:=λbs s'=>RT M A (pure (f::bs)) Q E s') t (LY h))
theorem jj:∀{vs:List RC} {fs:List (Option RC)},ah s.heap vs fs->∀v∈vs,Looks M s.heap (typeOf v) (.type "tuple")
 | [],[],_,v,hv=>by cases hv
 | [],_::_,t,_,_=>t.elim
 | _::_,[],t,_,_=>t.elim
 | v::vs,f::fs,t,u,hu=>by
  rcases Mi.1 hu with rfl | hu
  .obtain⟨⟨a,o,xs,n,rfl,ho,hc,hd,hf⟩,_⟩:=t;rw[<-hc];exact(Looks.ld ho).andThen .now
  .exact jj t.2 u hu
def qK (fs:List (Option RC)):SortKind:=if fs.all (·.isSome) then tuples' false else if (fs.head?.bind id).isSome then general' else oneType'
def Cd {vs:List RC}{fs:List (Option RC)}{Q:SortKind->RE->Prop}(t:ah s.heap vs fs)(hne:0<fs.length)(hT:∀f,some f∈fs->Looks M s.heap (typeOf f) (.type "tuple"))(h:Q (qK fs) s):RT M A (keyKind' vs.toArray) Q E s:=by
 unfold qK at h;rw[kat_kind_eq,Pk,Rv];refine LV (LV (mX vs _ t (LY ?_)));by_cases hall:fs.all (·.isSome)=true
 .rw[Mb hall]at h;rw[Mb (by simpa using hall)];refine LV (Oi ?_);obtain⟨gs,rfl⟩:∃gs:List RC,fs=gs.map some:=by
   refine⟨fs.filterMap id,?_⟩;clear h t hT hne;induction fs with
   | nil=>rfl
   | cons f fs ih =>rw[List.all_cons,OV]at hall;obtain⟨g,rfl⟩:=Np.1 hall.1;simp only[List.filterMap_cons_some (f:=id) (a:=some g) rfl,Ma];rw[<-ih hall.2]
  have hfm:((gs.map some).toArray.filterMap id)=gs.toArray:=by simp
  rw[hfm,oneTypeOnly'_eq,Pk,Rv];refine LV (LV (LV (kas_mapM (r:=.type "tuple") _ (λv hv Q' hq=>(hT v (NW hv)).here hq) (LY ?_))));have hall2:((List.map (λ_=>RC.type "tuple") gs).toArray.all λx=>x == RC.type "tuple")=true:=by simp only[Rt,List.all_map,Pr];intro _ _;rfl
  rw[LX]at hne;have h0:(List.map (λ_=>RC.type "tuple") gs).toArray[0]? = some (.type "tuple"):=by
   match gs,hne with
   | g::gs,_=>simp
  rw[h0];simp only[hall2,Nk];exact LY (LY h)
 .rw[Md hall]at h;rw[Md (by simpa using hall)];have e0:fs.toArray[0]? = fs.head?:=by cases fs <;> simp
  rw[e0];by_cases hh:(fs.head?.bind id).isSome=true
  .rw[Mb hh]at h ⊢;exact LY h
  .rw[Md hh]at h ⊢;have hl:=t.len;rw[oneTypeOnly'_eq,Pk,Rv];refine LV (LV (LV (kas_mapM (r:=.type "tuple") _ (λv hv Q' hq=>(jj t v hv).here hq) (LY ?_))));have hall2:((List.map (λ_=>RC.type "tuple") vs).toArray.all λx=>x == RC.type "tuple")=true:=by simp only[Rt,List.all_map,Pr];intro _ _;rfl
   have h0:(List.map (λ_=>RC.type "tuple") vs).toArray[0]? = some (.type "tuple"):=by
    match vs,(show 0<vs.length by omega) with
    | g::gs,_=>simp
   rw[h0];simp only[hall2,Nk];exact LY (LY h)
end
end
section
def fX (d:List My):Prop:=My.canLayAll0 d=true/\My.depthAll d<=20/\∀x,d.head? = some x->∃e,x = .tuple e
def StK (κ:Nat->Int)(xs ys:List V):Prop:=ys.length=xs.length/\∃p,SoS κ p xs.length/\∀i,i<xs.length->ys[i]? = xs[p i]?
def Bm (K:Frag):List V->Hp->VK->Prop:=λxs H Q=>∃(a:RD) (zs:List V) (ds:List (List My)) (κ:Nat->Int),xs=[.ref a]/\SqL K H a zs/\zs.length=ds.length/\(∀(i:Nat) (z:V) (d:List My),zs[i]? = some z->ds[i]? = some d->c8 K H (.tuple d) z)/\(∀d∈ds,fX d) /\
 (∀(i j:Nat) (di dj:List My),i≠j->ds[i]? = some di->ds[j]? = some dj->ltM di dj=some (decide (κ i < κ j)))/\ds.length<64/\∀(p:RD) (ys:List V),H p=none->StK κ zs ys->Q (.ref p) (upd H p (.lst ys))
def ir {h:RM}:∀{vs:List RC} {ds:List (List My)},vs.length=ds.length->(∀(i:Nat) (v:RC) (d:List My),vs[i]? = some v->ds[i]? = some d->∃as,Reads h v (.tuple d) as)->(∀d∈ds,fX d) ->
  ∃fs,ah h vs fs/\∀(M:Model) f,some f∈fs->Looks M h (typeOf f) (.type "tuple")
 | [],[],_,_,_=>⟨[],True.intro,λ_ f hf=>by cases hf⟩
 | [],_::_,hl,_,_=>by simp at hl
 | _::_,[],hl,_,_=>by simp at hl
 | v::vs,d::ds,hl,hr,hg=>by
  obtain⟨fs,t,hT⟩:=ir (vs:=vs) (ds:=ds) (by simpa using hl) (λi v d e1 e2=>hr (i+1) v d (by simpa using e1) (by simpa using e2)) λd hd=>hg d (Mc _ hd)
  obtain⟨as,r⟩:=hr 0 v d rfl rfl;cases r with
  | tuple k1 k2 k3 k4 =>
   rename_i a o va n;refine⟨va[0]? :: fs,⟨⟨a,o,va,n,rfl,k1,k2,k3,rfl⟩,t⟩,λM f hf=>?_⟩;rcases Mi.1 hf with e | hf
   .have g:=(hg d Me).2.2;rw[<-Nc]at e;generalize va.toList=us at k4 e;cases k4 with
    | nil=>simp at e
    | cons r1 r2 =>
     simp at e;subst e;obtain⟨z,rfl⟩:=g _ rfl;cases r1 with
     | tuple q1 q2 q3 q4 =>rw[<-q2];exact(Looks.ld q1).andThen .now
   .exact hT M f hf
section
variable {X:Cx}{K:Fg}
def oJ (hK:X.K=K)(hu:X.A.units+64<Sa):A8 X (.builtin "sorted") (Bm K):=by
 subst hK;intro vv s O H xs us Q I r h;obtain⟨a,zs,ds,κ,rfl,hq,hlz,hD,hG,hK,h64,q⟩:=h;obtain⟨u,rfl,ru⟩:=K0 r;cases ru;obtain⟨its,rv,p,hz⟩:=I.list hq;have hl2:its.length=zs.length:=rv.length.symm;have item:∀(i:Nat) (v:RC) (d:List My),its[i]? = some v->ds[i]? = some d->∃as,Reads s.heap v (.tuple d) as:=λi v d e1 e2=>by
  have hi:i<zs.length:=by have:=(Mj.1 e1).1;omega
  obtain⟨u,e3,e4⟩:=rv.get (Ml hi);rw[e1]at e3;cases e3;exact G8 I _ _ _ (hD i _ d (Ml hi) e2) e4
 obtain⟨fs,tF,hT⟩:=ir (h:=s.heap) (by omega) item hG;have tK:∀{h':RM},(∀b o,s.heap.get? b=some o->h'.get? b=some o)->∀{vs:List RC} {fs:List (Option RC)},ah s.heap vs fs->ah h' vs fs:=by
  intro h' hk vs;induction vs with
  | nil=>intro fs t;cases fs with | nil=>exact t | cons _ _=>exact t.elim
  | cons v vs ih =>
   intro fs t;cases fs with
   | nil=>exact t.elim
   | cons f fs =>obtain⟨⟨a,o,xs,n,e1,e2,e3⟩,t⟩:=t;exact⟨⟨a,o,xs,n,e1,hk _ _ e2,e3⟩,ih t⟩
 refine jg (kd:=qK fs) (κ:=κ) p.isList (by omega) (λh2 h' Q' hk hQ=>?_) (λh' hk=>?_) λout p' a1 a2 a3=>?_
 .have item':∀(i:Nat) (v:RC) (d:List My),its[i]? = some v->ds[i]? = some d->∃as,Reads h' v (.tuple d) as:=λi v d e1 e2=>let ⟨as,r⟩:=item i v d e1 e2;⟨as,Qd hk r⟩
  refine Cd (s:={ s with heap:=h' }) (tK hk tF) (by have:=tF.len;omega) (λf hf=>?_) hQ;obtain⟨fs',tF',hT'⟩:=ir (h:=h') (by omega) item' hG;have:∀{vs:List RC} {fs fs':List (Option RC)},ah h' vs fs->ah h' vs fs'->fs=fs':=by
   intro vs;induction vs with
   | nil =>
    intro fs fs' t t';cases fs with
    | cons _ _=>exact t.elim
    | nil =>
     cases fs' with
     | nil=>rfl
     | cons _ _=>exact t'.elim
   | cons v vs ih =>
    intro fs fs' t t';cases fs with
    | nil=>exact t.elim
    | cons f fs =>
     cases fs' with
     | nil=>exact t'.elim
     | cons f' fs' =>obtain⟨⟨a,o,xs,n,e1,e2,e3,e4,e5⟩,t⟩:=t;obtain⟨⟨a',o',xs',n',g1,g2,g3,g4,g5⟩,t'⟩:=t';rw[e1]at g1;cases g1;rw[e2]at g2;cases g2;rw[e4]at g4;cases g4;rw[<-e5,<-g5,ih t t']
  rw[this (tK hk tF) tF']at hf;exact hT' _ f hf
 .intro i j x y hij ex ey E Q' hQ;rw[<-Nc,pairsOf_toList,NX]at ex ey;have hi:i<its.length:=(Mj.1 ex.1).1;have hj:j<its.length:=(Mj.1 ey.1).1;have di:ds[i]? = some (ds[i]'(by omega)):=Ml (by omega);have dj:ds[j]? = some (ds[j]'(by omega)):=Ml (by omega);obtain⟨as,r1⟩:=item i _ _ ex.1 di;obtain⟨bs,r2⟩:=item j _ _ ey.1 dj;have r1:=Qd hk r1;have r2:=Qd hk r2;have g1:=hG _ (Oa (show i<ds.length by omega));have g2:=hG _ (Oa (show j<ds.length by omega));have lt:=hK i j _ _ hij di dj;have hu2:X.A.in1.in1.units+min (My.depthAll ds[i]+1) (My.depthAll ds[j]+1)<Sa:=by have e:X.A.in1.in1.units=X.A.units+1+1:=rfl;have:=g1.2.1;omega
  unfold qK;split
  .exact nJ (s:={ s with heap:=h' }) r1 r2 g1.1 g2.1 (by omega) lt hQ
  .split
   .exact sd (s:={ s with heap:=h' }) r1 r2 g1.1 g2.1 hu2 lt hQ
   .exact sT (s:={ s with heap:=h' }) r1 r2 g1.1 g2.1 hu2 lt hQ
 .have hlen:zs.length=its.length:=hl2.symm;obtain⟨e,he⟩:=sortedAll_at s.heap its out;have ysl:((List.range its.length).map λi=>zs.getD (p' i) .non).length=its.length:=by rw[LX,MB]
  walk_at "kd"
end
end
end L3
namespace L3
open PySem PySem.Spec PyProof.Rows L2
section
def O8 (c:Nat)(ps:List (My×My))(d:My):Option My:=(ps.find? λp=>decide (O6 c p.1=O6 c d)).map (·.2)
def aV (c:Nat)(ps:List (My×My))(d e:My):List (My×My):=if (O8 c ps d).isSome then ps.map (λp=>if O6 c p.1=O6 c d then(p.1,e) else p) else ps++[(d,e)]
section
variable {K:Fg}{H:Hp}{c:Nat}
theorem kL {d:My}{v:V}:∀{c:Nat} {k:(A4 c).K},O6 c d=some k->c8 K H d v->∃b,v = .ref b/\(A4 c).At K H k b
 | 0,_,e,h=>qv e h
 | 1,_,e,h=>vx e h
 | _+2,_,e,h=>lX e h
theorem wR:∀c:Nat,(A4 c).dp<=8
 | 0=>by decide
 | 1=>by decide
 | _+2=>by show Y1.dp<=8;decide
theorem uQ:∀{ps:List (My×My)} {xs:List ((A4 c).K×RD×V)},KVs K H c ps xs->xs.length=ps.length
 | [],_,h=>by cases h;rfl
 | _::_,_,⟨k,b,v,r,e,h1,h2,h3,h4⟩=>by rw[e,Mf,Mf,uQ h4]
theorem cL:∀{ps:List (My×My)} {xs:List ((A4 c).K×RD×V)},KVs K H c ps xs->∀x∈xs,(A4 c).At K H x.1 x.2.1
 | [],_,h,x,hx=>by cases h;cases hx
 | _::_,_,⟨k,b,v,r,e,h1,h2,h3,h4⟩,x,hx=>by
  rw[e]at hx;rcases Mi.1 hx with rfl | hx
  .obtain⟨b',e',ha⟩:=kL h1 h2;cases e';exact ha
  .exact cL h4 x hx
theorem jy {d:My}{k:(A4 c).K}(hk:O6 c d=some k):∀{ps:List (My×My)} {xs:List ((A4 c).K×RD×V)},KVs K H c ps xs->(∃e v,O8 c ps d=some e/\ku xs k=some v/\c8 K H e v)\/(O8 c ps d=none/\ku xs k=none)
 | [],_,h=>by cases h;exact .inr ⟨rfl,rfl⟩
 | p::ps,_,⟨k',b,v,r,e,h1,h2,h3,h4⟩=>by
  subst e;unfold O8 ku;by_cases hz:k'=k
  .subst hz;refine .inl ⟨p.2,v,?_,?_,h3⟩
   .rw[NR (by rw[h1,hk];exact Mv rfl)];rfl
   .rw[NR (p:=λx:(A4 c).K×RD×V=>decide (x.1=k')) (Mv rfl)];rfl
  .rw[NS (by rw[h1,hk];exact λz=>hz (Mg (MD z))),NS (p:=λx:(A4 c).K×RD×V=>decide (x.1=k)) (λz=>hz (MD z))];exact jy hk h4
def oK {d e:My}{k:(A4 c).K}{v:V}(hk:O6 c d=some k)(he:c8 K H e v):∀{ps:List (My×My)} {xs:List ((A4 c).K×RD×V)},KVs K H c ps xs ->
  KVs K H c (ps.map λp=>if O6 c p.1=O6 c d then(p.1,e) else p) (xs.map λx=>if x.1=k then(x.1,x.2.1,v) else x)
 | [],_,h=>by cases h;rfl
 | p::ps,_,⟨k',b,v',r,ex,h1,h2,h3,h4⟩=>by
  subst ex;rw[Ma,Ma];by_cases hz:k'=k
  .rw[Mb (by rw[h1,hk,hz]),Mb hz];exact⟨k',b,v,_,rfl,h1,h2,he,oK hk he h4⟩
  .rw[Md (by rw[h1,hk];exact λz=>hz (Mg z)),Md hz];exact⟨k',b,v',_,rfl,h1,h2,h3,oK hk he h4⟩
theorem qm {d e:My}{k:(A4 c).K}{b:RD}{v:V}(hk:O6 c d=some k)(hd:c8 K H d (.ref b))(he:c8 K H e v):∀{ps:List (My×My)} {xs:List ((A4 c).K×RD×V)},KVs K H c ps xs->KVs K H c (ps++[(d,e)]) (xs++[(k,b,v)])
 | [],_,h=>by cases h;exact⟨k,b,v,[],rfl,hk,hd,he,rfl⟩
 | p::ps,_,⟨k',b',v',r,ex,h1,h2,h3,h4⟩=>by subst ex;exact⟨k',b',v',_,rfl,h1,h2,h3,qm hk hd he h4⟩
def Cv {d e:My}{k:(A4 c).K}{b:RD}{v:V}{ps:List (My×My)}{xs:List ((A4 c).K×RD×V)}(h:KVs K H c ps xs)(hk:O6 c d=some k)(hd:c8 K H d (.ref b))(he:c8 K H e v):KVs K H c (aV c ps d e) (lq xs k b v):=by
 unfold aV lq;rcases jy hk h with ⟨e',v',g1,g2,_⟩ | ⟨g1,g2⟩
 .rw[g1,g2,Mb (show(some e').isSome=true from rfl),Mb (show(some v').isSome=true from rfl)];exact oK hk he h
 .rw[g1,g2,Md (show ¬(none:Option My).isSome=true from nofun),Md (show ¬(none:Option V).isSome=true from nofun)];exact qm hk hd he h
theorem tZ:∀{ps:List (My×My)} {xs:List ((A4 c).K×RD×V)},KVs K H c ps xs->b7 K H (ps.map (·.1)) (xs.map λx=>.ref x.2.1)
 | [],_,h=>by cases h;exact b7.nil
 | _::_,_,⟨k,b,v,r,e,h1,h2,h3,h4⟩=>by subst e;exact b7.cons h2 (tZ h4)
end
section
variable [Feeds]{K:Fg}{X:Cx}{e o i f value:RL}{te ty tx:TE}{pos p px pos' apos cpos:Pos}
def FAt.dict {G:GF}{H:Hp}{F:FS}{x c:Nat}{a:RD}{xs:List ((A4 c).K×RD×V)}{o:HO}(h:FAt K G H F)(hf:a ∉ p9 K G)(ha:H a=some (.ext (NDi (A4 c) a xs)))(hs:∃h,NDi (A4 c) a xs h):FAt K G (upd H a o) F:=by
 refine⟨?_,λt ht=>?_⟩
 .have h1:=h.1;cases G with
  | none=>trivial
  | some q =>obtain⟨d,cc⟩:=q;exact Feeds.congr h1 (i3 λz=>hf (by rw[<-z];simp[p9])) (i3 λz=>hf (by rw[<-z];simp[p9]))
 .obtain⟨ps,h1,h2,h3⟩:=h.2 t ht;refine⟨ps,?_,h2,λpos cv q=>?_⟩
  .rw[i3 λz=>by rw[z,ha]at h1;cases h1];exact h1
  .obtain⟨c',r1,r2⟩:=h3 pos cv q;refine⟨c',r1,?_⟩;rw[i3 λz=>?_]
   .exact r2
   .rw[z,ha]at r2;have e:NDi (A4 c) a xs = λh=>h.CodeRec (.ref a) (lr t.1):=by have:=Mg r2;unfold cdO at this;injection this
    obtain⟨hp,n⟩:=hs;have n2:=n;rw[e]at n2;obtain⟨c2,o2,vs2,t2,e2,g2,d2,_⟩:=n2;cases e2;obtain⟨_,_,_,_,o3,es,ep,g3,_,d3,_⟩:=n;rw[g3]at g2;cases g2;rw[d3]at d2;cases d2
def Sit.writeD {G:GF}{B0 B:List RD}{H0:Hp}{E:DE}{F:FS}{O:St}{H:Hp}{i c:Nat}{ps ps':List (My×My)}{x:RD}{xs':List ((A4 c).K×RD×V)}(S:Sit K G B0 H0 E F O H)(s:∀b∈B0,b∈B)(sn:∀b∈B,b∈B0\/H0 b=none)(I:SitE K G B E F O H)
  (ei:E[i]? = some (some (DV.dic true c ps))) (si:O[i]? = some (some (V.ref x))) (hs:∃h,NDi (A4 c) x xs' h) (hd:KVs K (hid H B) c ps' xs') :
  Sit K G B0 H0 (E.set i (some (.dic true c ps'))) F O (upd H x (.ext (NDi (A4 c) x xs'))):=by
 have hl:i<E.length:=(Mj.1 ei).1;obtain⟨v,v1,x',xs,rfl,hB,hf,hx,hn,_⟩:=I.loc i _ ei;rw[si]at v1;cases v1;have e1:hid (upd H x (.ext (NDi (A4 c) x xs'))) B=hid H B:=bC hB;obtain⟨⟨n1,n2⟩,n3⟩:=S.dic i c ps x ei si;refine⟨⟨B,s,sn,⟨I.fd.dict (x:=0) hf hx hn,I.fB,λb hb=>?_,by rw[ND];exact I.ln,λj y ej=>?_⟩⟩,S.fB,λb o eb nb=>?_,λj es a' ej sj=>?_,λj k es es' a' ej ek sj sk=>?_,λj c' ps2 a' ej sj=>?_⟩
 .by_cases h:b=x
  .subst h;exact⟨_,k8⟩
  .rw[i3 h];exact I.bk b hb
 .by_cases hj:i=j
  .subst hj;rw[Mo hl]at ej;cases ej;exact⟨.ref x,si,x,xs',rfl,hB,hf,k8,hs,by rw[e1];exact hd⟩
  .rw[Mn hj]at ej;obtain⟨w,w1,w2⟩:=I.loc j y ej;refine⟨w,w1,?_⟩;cases y with
   | dat d=>show c8 K (hid (upd H x _) B) d w;rw[e1];exact w2
   | feed=>exact w2
   | fn _=>exact w2
   | adr _=>exact w2
   | own es =>
    obtain⟨a',xs9,rfl,hB',hf',ha',hd'⟩:=w2;have hne:a'≠x:=λz=>by rw[z,hx]at ha';cases ha'
    exact⟨a',xs9,rfl,hB',hf',by rw[i3 hne];exact ha',by rw[e1];exact hd'⟩
   | dic w9 c9 ps9 =>
    obtain⟨a',xs9,rfl,hB',hf',ha',hn',hd'⟩:=w2;have hne:a'≠x:=λz=>hj (n3 j w9 c9 ps9 ej (z▸w1))
    exact⟨a',xs9,rfl,hB',hf',by rw[i3 hne];exact ha',hn',by rw[e1];exact hd'⟩
 .rw[i3]
  .exact S.kp b o eb nb
  .intro z;subst z;rw[n1]at eb;cases eb
 .by_cases hj:i=j
  .subst hj;rw[Mo hl]at ej;cases ej
  .rw[Mn hj]at ej;exact S.own j es a' ej sj
 .by_cases hj:i=j
  .subst hj;rw[Mo hl]at ej;cases ej
  .by_cases hk:i=k
   .subst hk;rw[Mo hl]at ek;cases ek
   .rw[Mn hj]at ej;rw[Mn hk]at ek;exact S.inj j k es es' a' ej ek sj sk
 .have back:∀(j:Nat) (w:Bool) (c2:Nat) (q:List (My×My)),(E.set i (some (.dic true c ps')))[j]? = some (some (DV.dic w c2 q))->∃q,E[j]? = some (some (DV.dic w c2 q)):=λj w c2 q ej=>by
   by_cases hj:i=j
   .subst hj;rw[Mo hl]at ej;cases ej;exact⟨ps,ei⟩
   .rw[Mn hj]at ej;exact⟨q,ej⟩
  obtain⟨q1,ej'⟩:=back j _ _ _ ej;obtain⟨h1,h2⟩:=S.dic j c' q1 a' ej' sj;refine⟨h1,λk w' c'' ps'' ek sk=>?_⟩;obtain⟨q2,ek'⟩:=back k _ _ _ ek;exact h2 k w' c'' q2 ek' sk
def gg (i c:Nat):DE->M Out:=λE F=>if i<E.length then some (.nx (E.set i (some (.dic true c []))),F) else none
def kZ (i c:Nat){x:Str}(hN:X.N.Nodup)(hi:X.N[i]? = some x:=by rfl)(hx:Loc X.env.scope x:=by walk_at "v")(hs:RV (.Dict [] [] p) (some (.Name x pos')) pos.line X.env=pure false:=by rfl)(hf:X.fn x=true\/X.env.scope.names.lookup x=some .local:=by walk_at "v") :
  Ss K X (.Assign [.Name x pos'] (.Dict [] [] p) pos) (gm (Am (A4 c)) (aM i)) (gg i c) :=
 ⟨S7 hN hi hx yL hs hf,λG B0 H0 E F O H D r F' S e q=>by
  unfold gg at e;split at e
  .rename_i hl;cases e;obtain⟨B,s,sn,I⟩:=S.ex;intro a hn hex;have k1:Kp (p9 K G) H (upd H a (.ext (NDi (A4 c) a []))):=Kp.upd hn;have r:uM K B H (upd H a (.ext (NDi (A4 c) a []))) (.dic true c []) (.ref a):=⟨rfl,a,[],rfl,hn,k8,hex,rfl⟩;exact q _ _ (S.putC s sn I k1 (I.fd.same (l6.upd hn)) r hl).1
  .cases e⟩
def aQ (E:DE)(i:Nat):Option (Bool×Nat×List (My×My)):=match E[i]? with
 | some (some (.dic w c ps))=>some (w,c,ps)
 | _=>none
def S9 {E:DE}{i:Nat}{w:Bool}{c:Nat}{ps:List (My×My)}(h:aQ E i=some (w,c,ps)):E[i]? = some (some (DV.dic w c ps)):=by
 unfold aQ at h;split at h
 .rename_i e;cases h;exact e
 .cases h
def iH (i c:Nat)(v k:DE->M My):DE->M Out:=λE F=>(v E F).bind λp=>(k E p.2).bind λq=>(aQ E i).bind λd=>if d.1=true/\d.2.1=c/\(O6 c q.1).isSome=true/\d.2.2.length<RN then some (.nx (E.set i (some (.dic true c (aV c d.2.2 q.1 p.1)))),q.2) else none
def kT (i c:Nat){x:Str}{m mb:DE->M My}(hu:X.A.units+9<Sa)(hv:Ev K X value te m)(hk:Ev K X e ty mb)(hK:X.K=K)(hN:X.N[i]? = some x:=by rfl)(hvis:Vis X.env.scope x:=by walk_at "v")(hd:(x == ("__debug__":Str))=false:=by decide)(hcd:(x == ("__classdict__":Str))=false:=by decide)
  (hs:RV value (some (.Subscript (.Name x px) e pos')) pos.line X.env=pure false:=by rfl) :
  Ss K X (.Assign [.Subscript (.Name x px) e pos'] value pos) (zE (A4 c) K (cF i) ty te) (iH i c m mb):=by
 subst hK;refine⟨yG hu (wR c) (W0 hN hvis hd hcd) hk.pe hv.pe hs,λG B0 H0 E F O H D r F' S e q=>?_⟩;obtain⟨⟨d,F1⟩,e1,e⟩:=bS9 e;obtain⟨⟨n,F2⟩,e2,e⟩:=bS9 e;obtain⟨⟨w,c',ps⟩,e4,e⟩:=bS9 e;dsimp only at e e2;split at e;case isFalse=>cases e
 rename_i hc;obtain⟨rfl,rfl,hks,hlen⟩:=hc;cases e;obtain⟨B,s,sn,I⟩:=S.ex;have eo:=S9 e4;refine hv.ok G B E F O H _ d F1 I e1 λv H1 k1 f1 h1=>?_
 have I1:=I.step k1 f1;obtain⟨u,w1,a,xs,rfl,hB,hf,hx,hn,hdx⟩:=I1.loc i _ eo;refine⟨_,w1,hk.ok G B E F1 O H1 _ n _ I1 e2 λy H2 k2 f2 h2=>?_⟩;have I2:=I1.step k2 f2;have S2:=S.step (k1.trans k2) f2;have hd2:=hdx.same (k2.hid I.fB);obtain⟨k,ek⟩:=Np.1 hks;obtain⟨b,rfl,hb⟩:=kL ek h2;have up:∀cc xs,SqT X.K (hid H2 B) cc xs->SqT X.K H2 cc xs:=λcc xs z=>z.same f8
 refine⟨a,_,rfl,⟨xs,k,b,k2 a _ hx hf,λx hx=>(A4 c').keeps (cL hd2 x hx) up,rfl,(A4 c').keeps hb up,by rw[uQ hd2];exact hlen,rfl⟩,λhex=>?_⟩;exact q O _ (S2.writeD s sn I2 eo w1 (hex _ k8) (Cv hd2 ek h2 (h1.same (k2.hid I.fB))))
def fS (i c:Nat)(k:DE->M My):DE->M My:=λE F=>(k E F).bind λq=>(aQ E i).bind λd=>if d.2.1=c/\(O6 c q.1).isSome=true then(O8 c d.2.2 q.1).bind λz=>some (z,q.2) else none
def lu (i c:Nat){x:Str}{mb:DE->M My}(hu:X.A.units+9<Sa)(hk:Ev K X e ty mb)(hK:X.K=K)(hsl:xD e)(hN:X.N[i]? = some x:=by rfl)(hvis:Vis X.env.scope x:=by walk_at "v")(hd:(x == ("__debug__":Str))=false:=by decide)(hcd:(x == ("__classdict__":Str))=false:=by decide) :
  Ev K X (.Subscript (.Name x px) e pos) (Aj (A4 c) K (cF i) ty) (fS i c mb):=by
 subst hK;refine⟨zg hu (wR c) (W0 hN hvis hd hcd) hk.pe hsl,λG B E F O H Q r F' I e q=>?_⟩;obtain⟨⟨n,F2⟩,e2,e⟩:=bS9 e;obtain⟨⟨w,c',ps⟩,e4,e⟩:=bS9 e;dsimp only at e;split at e;case isFalse=>cases e
 rename_i hc;obtain⟨rfl,hks⟩:=hc;obtain⟨z,e5,e⟩:=bS9 e;cases e;have eo:=S9 e4;obtain⟨u,w1,a,xs,rfl,hB,hf,hx,hn,hdx⟩:=I.loc i _ eo;refine⟨_,w1,hk.ok G B E F O H _ n _ I e2 λy H2 k2 f2 h2=>?_⟩;have hd2:=hdx.same (k2.hid I.fB);obtain⟨k,ek⟩:=Np.1 hks;obtain⟨b,rfl,hb⟩:=kL ek h2;have up:∀cc xs,SqT X.K (hid H2 B) cc xs->SqT X.K H2 cc xs:=λcc xs z=>z.same f8
 rcases jy ek hd2 with ⟨z',v,g1,g2,g3⟩ | ⟨g1,_⟩
 .rw[g1]at e5;cases e5;exact⟨a,v,rfl,⟨xs,k,b,k2 a _ hx hf,λx hx=>(A4 c').keeps (cL hd2 x hx) up,rfl,(A4 c').keeps hb up,g2.symm⟩,q _ _ k2 f2 g3⟩
 .rw[g1]at e5;cases e5
def kM (i c:Nat)(k z:DE->M My):DE->M My:=λE F=>(k E F).bind λq=>(z E q.2).bind λr=>(aQ E i).bind λd=>if d.2.1=c/\(O6 c q.1).isSome=true then some ((O8 c d.2.2 q.1).getD r.1,r.2) else none
def tS (i c:Nat){x:Str}{mb mz:DE->M My}(hu:X.A.units+9<Sa)(hk:Ev K X e ty mb)(hz:Ev K X f tx mz)(hK:X.K=K)(m2:M2 X (.Name x px) "get" apos e f cpos)(hN:X.N[i]? = some x:=by rfl)(hvis:Vis X.env.scope x:=by walk_at "v")(hd:(x == ("__debug__":Str))=false:=by decide)(hcd:(x == ("__classdict__":Str))=false:=by decide) :
  Ev K X (.Call (.Attribute (.Name x px) "get" apos) [e,f] [] cpos) (uN (A4 c) K (cF i) ty tx) (kM i c mb mz):=by
 subst hK;refine⟨wx hu (wR c) (W0 hN hvis hd hcd) hk.pe hz.pe m2,λG B E F O H Q r F' I e q=>?_⟩;obtain⟨⟨n,F2⟩,e2,e⟩:=bS9 e;obtain⟨⟨z,F3⟩,e3,e⟩:=bS9 e;obtain⟨⟨w,c',ps⟩,e4,e⟩:=bS9 e;dsimp only at e e3;split at e;case isFalse=>cases e
 rename_i hc;obtain⟨rfl,hks⟩:=hc;cases e;have eo:=S9 e4;obtain⟨u,w1,a,xs,rfl,hB,hf,hx,hn,hdx⟩:=I.loc i _ eo;refine⟨_,w1,a,xs,rfl,hx,hk.ok G B E F O H _ n _ I e2 λy H2 k2 f2 h2=>hz.ok G B E F2 O H2 _ z _ (I.step k2 f2) e3 λy3 H3 k3 f3 h3=>?_⟩;have hd2:=(hdx.same (k2.hid I.fB)).same (k3.hid I.fB);obtain⟨k,ek⟩:=Np.1 hks;obtain⟨b,rfl,hb⟩:=kL ek (h2.same (k3.hid I.fB));have up:∀cc xs,SqT X.K (hid H3 B) cc xs->SqT X.K H3 cc xs:=λcc xs z=>z.same f8
 rcases jy ek hd2 with ⟨z',v,g1,g2,g3⟩ | ⟨g1,g2⟩
 .refine⟨some v,⟨xs,k,b,k3 a _ (k2 a _ hx hf) hf,λx hx=>(A4 c').keeps (cL hd2 x hx) up,rfl,(A4 c').keeps hb up,g2.symm⟩,q _ _ (k2.trans k3) f3 ?_⟩;rw[g1];exact g3
 .refine⟨none,⟨xs,k,b,k3 a _ (k2 a _ hx hf) hf,λx hx=>(A4 c').keeps (cL hd2 x hx) up,rfl,(A4 c').keeps hb up,g2.symm⟩,q _ _ (k2.trans k3) f3 ?_⟩;rw[g1];exact h3
def fV (i c:Nat):DE->M My:=λE F=>(aQ E i).bind λd=>if d.2.1=c then some (.list (d.2.2.map (·.1)),F) else none
def DN (c:Nat):List V->Hp->VK->Prop:=λys H Q=>∃p xs,ys=[.ref p]/\H p=some (.ext (NDi (A4 c) p xs))/\∀l,H l=none->Q (.ref l) (upd H l (.lst (xs.map λx=>.ref x.2.1)))
def jS (i c:Nat){x:Str}(hh:X.A.handled=none)(hm:X.mg "list" = none)(hN:X.N[i]? = some x:=by rfl)(hvis:Vis X.env.scope x:=by walk_at "v")(hd:(x == ("__debug__":Str))=false:=by decide)(hcd:(x == ("__classdict__":Str))=false:=by decide)
  (hv:RX "list" = some (.type "list")) (hg:Gl X "list":=by rfl) (hs:RO [.Name x px] X.env=(false,eval (.Name x px) X.env)::RO [] X.env:=by rfl) (hpl:(RR pos (RO [] X.env)).any (·.1)=false:=by rfl) :
  Ev K X (.Call (.Name "list" p) [.Name x px] [] pos) (tCB (DN c) (N8 (cF i) bY)) (fV i c) :=
 ⟨X1 (nB hh) hg hm hv (A3 (W0 hN hvis hd hcd) J6 hs) (by decide) (by decide) hs hpl,λG B E F O H Q r F' I e q=>by
  obtain⟨⟨w,c',ps⟩,e4,e5⟩:=bS9 e;by_cases hc:c'=c;case neg=>rw[Md hc]at e5;cases e5
  rw[Mb hc]at e5;have eo:=S9 e4;clear e e4;subst hc;cases e5;obtain⟨u,w1,a,xs,rfl,hB,hf,hx,hn,hdx⟩:=I.loc i _ eo;refine⟨_,w1,a,xs,rfl,hx,λl hl=>q _ _ (Kp.upd hl) (I.fd.same (l6.upd hl)) (K7 I.bk hl (tZ hdx))⟩⟩
end
end
variable {ts:List (List My)}{κ:Nat->Int}
section
def sx (d:List My):List (List My)->List (List My)
 | []=>[d]
 | e::r=>if ltM e d=some true then e::sx d r else d::e::r
def eZ:List (List My)->List (List My)
 | []=>[]
 | d::r=>sx d (eZ r)
def kN (ts:List (List My))(κ:Nat->Int):Prop:=ts.length<64/\(∀d∈ts,fX d)/\∀(i j:Nat) (di dj:List My),i≠j->ts[i]? = some di->ts[j]? = some dj->ltM di dj=some (decide (κ i < κ j))
def gy:List My->List (List My)
 | []=>[]
 | .tuple d::r=>d::gy r
 | _::r=>gy r
theorem cx:∀ts:List (List My),gy (ts.map .tuple)=ts
 | []=>rfl
 | d::r=>by rw[Ma,gy,cx r]
open Classical in
def dB:List My->Option My
 | [.list ds]=>if ∃ts κ,ds=ts.map .tuple/\kN ts κ then some (.list ((eZ (gy ds)).map .tuple)) else none
 | _=>none
def yR (h:kN ts κ):dB [.list (ts.map .tuple)]=some (.list ((eZ ts).map .tuple)):=by unfold dB;dsimp only;rw[Mb ⟨ts,κ,rfl,h⟩,cx]
theorem qJ {p:Int×List My}:∀{l:List (Int×List My)},(∀q∈l,ltM q.2 p.2=some (decide (q.1<p.1)))->(V6 p l).map Prod.snd=sx p.2 (l.map Prod.snd)
 | [],_=>rfl
 | q::r,h=>by
  have h1:=h q Me;rw[V6,Ma,sx];by_cases hz:p.1<=q.1
  .rw[Mb hz,Md (by rw[h1];intro z;have:=MD (Mg z);omega)];rfl
  .rw[Md hz,Mb (by rw[h1,Mv (by omega)]),Ma,qJ λq hq=>h q (Mc _ hq)]
theorem qh:∀{l:List (Int×List My)},l.Pairwise (λp q=>ltM q.2 p.2=some (decide (q.1<p.1)))->(x6 l).map Prod.snd=eZ (l.map Prod.snd)
 | [],_=>rfl
 | p::r,h=>by rw[MH]at h;rw[x6,Ma,eZ,<-qh h.2];exact qJ λq hq=>h.1 q ((A9 r).mem_iff.mp hq)
def sI (h:kN ts κ):(x6 (((List.range ts.length).map κ).zip (ts.map My.tuple))).map Prod.snd=(eZ ts).map .tuple:=by
 have e1:((List.range ts.length).map κ).zip (ts.map My.tuple)=(((List.range ts.length).map κ).zip ts).map λq=>(q.1,My.tuple q.2):=by rw[List.zip_map_right];rfl
 rw[e1,Y5 My.tuple,Mq];have e2:(((List.range ts.length).map κ).zip ts).map Prod.snd=ts:=by refine List.map_snd_zip ?_;simp
 rw[show(Prod.snd ∘ λq:Int×List My=>(q.1,My.tuple q.2))=My.tuple ∘ Prod.snd from rfl,<-Mq,qh,e2];rw[NI];intro i j hi hj hij;have hj':j<ts.length:=by simpa using hj
 simp only[List.getElem_zip,OF,PY];exact h.2.2 j i _ _ (by omega) (Ml hj') (Ml (by omega))
theorem lW {K:Fg}{H:Hp}:∀{ts:List (List My)} {zs:List V},b7 K H (ts.map .tuple) zs->∀(i:Nat) (z:V) (d:List My),zs[i]? = some z->ts[i]? = some d->c8 K H (.tuple d) z
 | [],zs,h,i,z,d,_,e=>by simp at e
 | t::ts,zs,h,i,z,d,e1,e2=>by
  rw[Ma]at h;simp only[b7]at h;obtain⟨x,r,rfl,h1,h2⟩:=h;cases i with
  | zero=>cases e1;cases e2;exact h1
  | succ i=>exact lW h2 i z d (by simpa using e1) (by simpa using e2)
section
variable [Feeds]{K:Fg}{X:Cx}
def gh (hK:X.K=K)(hu:X.A.units+64<Sa):A8 X (.builtin "sorted") (rDN K dB):=by
 walk_at "kg";unfold dB at hf;split at hf;case h_2=>cases hf
 rename_i ds';split at hf;case isFalse=>cases hf
 rename_i hc;cases hf;obtain⟨ts,κ,rfl,hS⟩:=hc;obtain⟨v,rfl,a,xs,rfl,ha,hd⟩:=bS h1 rfl;have hlen:xs.length=ts.length:=by rw[hd.length,LX]
 refine oJ hK hu vv s O H _ us Q I r ⟨a,xs,ts,κ,rfl,SqL.of (f8 _ _ ha),hlen,λi z d e1 e2=>(lW hd i z d e1 e2).same f8,hS.2.1,hS.2.2,hS.1,λp ys hp o=>?_⟩;have eo:dq ((List.range ts.length).map λi=>V.int (κ i)) xs ys:=by
  obtain⟨hy,p',hs,hp'⟩:=o;have ek:∀i,i<xs.length->T9 ((List.range ts.length).map λi=>V.int (κ i)) i = κ i:=λi hi=>by unfold T9;rw[MG,Mt,OE (by omega)];rfl
  refine⟨hy,p',⟨λi j hij hj=>?_,hs.2.1,hs.2.2⟩,hp'⟩;have:=hs.1 i j hij hj;unfold Lx at this ⊢;rw[ek _ (hs.2.2 i (by omega)),ek _ (hs.2.2 j hj)];exact this
 have ey:=gQ eo (by rw[LX,MB,hlen]);rw[Mq,show(gG ∘ λi=>V.int (κ i)) = κ from rfl]at ey;subst ey;have:=(kU (ns:=(List.range ts.length).map κ) hd).sort.dats;rw[sI hS]at this;rw[cx]at q;exact q _ _ (l6.upd hp) (K7 bk hp this)
end
end
variable {γ:Type}{args:List DV}{o:Option (Option DV)}
section
variable [Fam]
def wp {α O:Type}(m:Option (α × O))(Q:α->O->Prop):Prop:=∃a F',m=some (a,F')/\Q a F'
section
variable {α β O τ:Type}{Q:α->O->Prop}
def d9 {a:α}{F:O}:wp (some (a,F)) Q↔Q a F:=⟨λ⟨_,_,e,q⟩=>by cases e;exact q,λq=>⟨_,_,rfl,q⟩⟩
def D1 :wp (none:Option (α × O)) Q↔False:=⟨λ⟨_,_,e,_⟩=>(by cases e),False.elim⟩
def d5 {x:Option (β × τ)}{f:β × τ->Option (α × O)}:wp (x.bind f) Q↔wp x λa F'=>wp (f (a,F')) Q:=by
 constructor
 .rintro ⟨a,F',e,q⟩;obtain⟨⟨b,F1⟩,e1,e2⟩:=bS9 e;exact⟨b,F1,e1,a,F',e2,q⟩
 .rintro ⟨b,F1,e1,a,F',e2,q⟩;exact⟨a,F',by rw[e1];exact e2,q⟩
def C5 {o:Option γ}{f:γ->Option (α × O)}:wp (o.bind f) Q↔∃z,o=some z/\wp (f z) Q:=by
 constructor
 .rintro ⟨a,F',e,q⟩;obtain⟨z,e1,e2⟩:=bS9 e;exact⟨z,e1,a,F',e2,q⟩
 .rintro ⟨z,e1,a,F',e2,q⟩;exact⟨a,F',by rw[e1];exact e2,q⟩
def dM {c:Prop}[Decidable c]{a b:Option (α × O)}:wp (if c then a else b) Q↔if c then wp a Q else wp b Q:=by split <;> rfl
def p6 {m:Option (α × O)}{Q':α->O->Prop}(h:wp m Q)(hq:∀a F,Q a F->Q' a F):wp m Q':=by obtain⟨a,F,e,q⟩:=h;exact⟨a,F,e,hq a F q⟩
def J7 {m:Option (α × O)}{Q':α->O->Prop}(h:∀a F,Q a F↔Q' a F):wp m Q↔wp m Q':=⟨λz=>p6 z λa F q=>(h a F).1 q,λz=>p6 z λa F q=>(h a F).2 q⟩
def xC {z:γ}{P:γ->Prop}:(∃y,some z=some y/\P y)↔P z:=⟨λ⟨_,e,p⟩=>by cases e;exact p,λp=>⟨_,rfl,p⟩⟩
def E7 {m:Int}{F:FdS}{Q:My->FdS->Prop}(h0:0<m)(h1:m<1073741824)(h2:F.t<199999)(q:∀r F',0<=r->r<m->F'.t=F.t+1->Q (.int r) F'):wp (C0 [.feed,.dat (.int m)] F) Q:=by obtain⟨r,F',e,r0,r1,ht⟩:=Fam.draw_some h0 h1 h2;exact⟨.int r,F',by show(Fam.drawF m F).bind _=_;rw[e];rfl,q r F' r0 r1 ht⟩
end
def gD (o:Option (Option DV))(P:My->Prop):Prop:=match o with
 | some (some (.dat d))=>P d
 | _=>False
def gW (o:Option (Option DV))(P:My->Prop):Prop:=match o with
 | some (some (.dat d))=>P d
 | some (some (.own ds))=>P (.list ds)
 | _=>False
def gF (o:Option (Option DV))(P:Prop):Prop:=match o with
 | some (some .feed)=>P
 | _=>False
def oB (o:Option γ)(P:γ->Prop):Prop:=∃z,o=some z/\P z
def cIf (c:Bool)(A B:Prop):Prop:=if c=true then A else B
def xw {A B:Prop}:cIf true A B↔A:=by simp[cIf]
def vT {A B:Prop}:cIf false A B↔B:=by simp[cIf]
def R3 {c:Bool}{A B:Prop}(h1:c=true->A)(h2:c=false->B):cIf c A B:=by
 cases c
 .exact vT.2 (h2 rfl)
 .exact xw.2 (h1 rfl)
section
variable [Feeds]{E:DE}{F:FS}
def m9 {d:My}{Q:My->FS->Prop}:wp (sC d E F) Q↔Q d F:=d9
def j4 {i:Nat}{Q:My->FS->Prop}:wp (sV i E F) Q↔gD E[i]? λd=>Q d F:=by
 unfold sV gD;generalize E[i]? = o;rcases o with _ | _ | x
 .exact D1
 .exact D1
 .cases x <;> first | exact d9 | exact D1
def j9 {i:Nat}{Q:My->FS->Prop}:wp (sW i E F) Q↔gW E[i]? λd=>Q d F:=by
 unfold sW gW;generalize E[i]? = o;rcases o with _ | _ | x
 .exact D1
 .exact D1
 .cases x <;> first | exact d9 | exact D1
def EY {f:My->Option My}{a:DE->M My}{Q:My->FS->Prop}:wp (s1 f a E F) Q↔wp (a E F) λx F1=>oB (f x) λz=>Q z F1:=by unfold s1;rw[d5];simp only[C5,d9,oB]
def l9 {f:My->My->Option My}{a b:DE->M My}{Q:My->FS->Prop}:wp (s2 f a b E F) Q↔wp (a E F) λx F1=>wp (b E F1) λy F2=>oB (f x y) λz=>Q z F2:=by unfold s2;rw[d5];refine J7 λx F1=>?_;rw[d5];refine J7 λy F2=>?_;simp only[C5,d9,oB]
def D8 {f:List My->Option My}{a:DE->M (List My)}{Q:My->FS->Prop}:wp (sN f a E F) Q↔wp (a E F) λx F1=>oB (f x) λz=>Q z F1:=by unfold sN;rw[d5];simp only[C5,d9,oB]
def h7 {Q:List My->FS->Prop}:wp (j6 E F) Q↔Q [] F:=d9
def c6 {a:DE->M My}{r:DE->M (List My)}{Q:List My->FS->Prop}:wp (c7 a r E F) Q↔wp (a E F) λx F1=>wp (r E F1) λxs F2=>Q (x::xs) F2:=by unfold c7;rw[d5];simp only[d5,d9]
def D4 {a:DE->M (List My)}{Q:My->FS->Prop}:wp (E8 a E F) Q↔wp (a E F) λxs F1=>xs.length<=RN/\Q (.tuple xs) F1:=by
 unfold E8;rw[d5];constructor
 .exact λh=>p6 h λxs F1 h=>by
   split at h
   .rename_i hl;exact⟨hl,d9.1 h⟩
   .exact(D1.1 h).elim
 .exact λh=>p6 h λxs F1 h=>by rw[Mb h.1];exact d9.2 h.2
def jK {a:DE->M (List My)}{Q:My->FS->Prop}:wp (rW a E F) Q↔wp (a E F) λxs F1=>xs.length<=RN/\Q (.list xs) F1:=by
 unfold rW;rw[d5];constructor
 .exact λh=>p6 h λxs F1 h=>by
   split at h
   .rename_i hl;exact⟨hl,d9.1 h⟩
   .exact(D1.1 h).elim
 .exact λh=>p6 h λxs F1 h=>by rw[Mb h.1];exact d9.2 h.2
def l4 {Q:List DV->FS->Prop}:wp (n9 E F) Q↔Q [] F:=d9
def l7 {a:DE->M My}{r:DE->M (List DV)}{Q:List DV->FS->Prop}:wp (vD a r E F) Q↔wp (a E F) λx F1=>wp (r E F1) λxs F2=>Q (.dat x::xs) F2:=by unfold vD;rw[d5];simp only[d5,d9]
def W9 {i:Nat}{r:DE->M (List DV)}{Q:List DV->FS->Prop}:wp (vF i r E F) Q↔gF E[i]? (wp (r E F) λxs F2=>Q (.feed::xs) F2):=by
 unfold vF gF;generalize E[i]? = o;rcases o with _ | _ | x
 .exact D1
 .exact D1
 .cases x with
  | feed=>exact d5.trans (J7 λ_ _=>d9)
  | _=>exact D1
def i9 {f:List DV->M My}{ms:DE->M (List DV)}{Q:My->FS->Prop}:wp (j8 f ms E F) Q↔wp (ms E F) λxs F1=>wp (f xs F1) Q:=by unfold j8;rw[d5]
def ue {a:DE->M My}{l u:DE->M (Option Int)}{Q:My->FS->Prop}:wp (oO a l u E F) Q↔wp (a E F) λx F1=>wp (l E F1) λlo F2=>wp (u E F2) λhi F3=>oB (rl lo hi x) λz=>Q z F3:=by unfold oO;rw[d5];refine J7 λx F1=>?_;rw[d5];refine J7 λy F2=>?_;rw[d5];refine J7 λy F2=>?_;simp only[C5,d9,oB]
def vV {Q:Option Int->FS->Prop}:wp (oNo E F) Q↔Q none F:=d9
def Bl {a:DE->M My}{Q:Option Int->FS->Prop}:wp (oI a E F) Q↔wp (a E F) λx F1=>oB (mZ x) λi=>Q (some i) F1:=by unfold oI;rw[d5];simp only[C5,d9,oB]
def pH {a b:DE->M My}{Q:My->FS->Prop}:wp (sE a b E F) Q↔wp (a E F) λx F1=>oB (V8 x) λc=>cIf c (wp (b E F1) Q) (Q (.bool false) F1):=by unfold sE;rw[d5];simp only[C5,dM,d9,oB,cIf]
def Ab {a b:DE->M My}{Q:My->FS->Prop}:wp (sOr a b E F) Q↔wp (a E F) λx F1=>oB (V8 x) λc=>cIf c (Q (.bool true) F1) (wp (b E F1) Q):=by unfold sOr;rw[d5];simp only[C5,dM,d9,oB,cIf]
def vm {c:DE->M Bool}{a b:DE->M My}{Q:My->FS->Prop}:wp (sIf c a b E F) Q↔wp (c E F) λx F1=>cIf x (wp (a E F1) Q) (wp (b E F1) Q):=by unfold sIf;rw[d5];simp only[dM,cIf]
def ak {a:DE->M My}{Q:Bool->FS->Prop}:wp (uB a E F) Q↔wp (a E F) λx F1=>oB (V8 x) λc=>Q c F1:=by unfold uB;rw[d5];simp only[C5,d9,oB]
def xF {a:DE->M My}{Q:Bool->FS->Prop}:wp (uT a E F) Q↔wp (a E F) λx F1=>oB (yb x) λc=>Q c F1:=by unfold uT;rw[d5];simp only[C5,d9,oB]
def vg {a b:DE->M Bool}{Q:Bool->FS->Prop}:wp (uU a b E F) Q↔wp (a E F) λx F1=>cIf x (wp (b E F1) Q) (Q false F1):=by unfold uU;rw[d5];simp only[dM,d9,cIf]
def vY {a b:DE->M Bool}{Q:Bool->FS->Prop}:wp (uOr a b E F) Q↔wp (a E F) λx F1=>cIf x (Q true F1) (wp (b E F1) Q):=by unfold uOr;rw[d5];simp only[dM,d9,cIf]
def Z5 {Q:Bool->FS->Prop}:wp (A6 E F) Q↔Q true F:=d9
def bO {Q:Out->FS->Prop}:wp (mNx E F) Q↔Q (.nx E) F:=d9
def sqK (b:DE->M Out)(Q:Out->FS->Prop)(o:Out)(F1:FS):Prop:=match o with
  | .nx E1=>wp (b E1 F1) Q
  | o=>Q o F1
def l0 {b:DE->M Out}{Q:Out->FS->Prop}{E1:DE}(h:wp (b E1 F) Q):sqK b Q (.nx E1) F:=h
def qE {b:DE->M Out}{Q:Out->FS->Prop}{d:My}(h:Q (.rt d) F):sqK b Q (.rt d) F:=h
def m5 {a b:DE->M Out}{Q:Out->FS->Prop}:wp (mSq a b E F) Q↔wp (a E F) (sqK b Q):=by
 unfold mSq;rw[d5];refine J7 λo F1=>?_
 cases o with
 | nx E1=>exact Iff.rfl
 | rt d=>exact d9
 | bk d=>exact d9
 | ct d=>exact d9
def y9 {a:DE->M My}{Q:Out->FS->Prop}:wp (mRt a E F) Q↔wp (a E F) λx F1=>Q (.rt x) F1:=by unfold mRt;rw[d5];simp only[d9]
def r6 {i:Nat}{a:DE->M My}{Q:Out->FS->Prop}:wp (x8 i a E F) Q↔wp (a E F) λx F1=>i<E.length/\Q (.nx (E.set i (some (.dat x)))) F1:=by
 unfold x8;rw[d5];refine J7 λx F1=>?_
 unfold bN;by_cases h:i<E.length
 .rw[Mb h];simp only[C5,d9,xC,h,true_and]
 .rw[Md h];simp only[C5,h,false_and];exact⟨λ⟨_,e,_⟩=>(by cases e),False.elim⟩
def kl {bd:My->DE->Option DE}{a:DE->M My}{Q:Out->FS->Prop}:wp (jz bd a E F) Q↔wp (a E F) λx F1=>oB (bd x E) λE1=>Q (.nx E1) F1:=by unfold jz;rw[d5];simp only[C5,d9,oB]
def V3 {c:DE->M Bool}{a b:DE->M Out}{Q:Out->FS->Prop}:wp (mIf c a b E F) Q↔wp (c E F) λx F1=>cIf x (wp (a E F1) Q) (wp (b E F1) Q):=by unfold mIf;rw[d5];simp only[dM,cIf]
def cA {i:Nat}{a:DE->M (List My)}{Q:Out->FS->Prop}:wp (gT i a E F) Q↔wp (a E F) λx F1=>i<E.length/\Q (.nx (E.set i (some (.own x)))) F1:=by
 unfold gT;rw[d5];refine J7 λx F1=>?_
 by_cases h:i<E.length
 .rw[Mb h];simp only[d9,h,true_and]
 .rw[Md h];simp only[h,false_and];exact D1
def L1 {mi:DE->M (List My)}{bd:My->DE->Option DE}{body:DE->M Out}{Q:Out->FS->Prop}:wp (X2 mi bd body E F) Q↔wp (mi E F) λds F1=>wp (bH bd body ds E F1) Q:=by unfold X2;rw[d5]
def P1 {a:DE->M (List My)}{Q:List My->FS->Prop}:wp (X7 a E F) Q↔wp (a E F) λx F1=>oB (af x) λds=>Q ds F1:=by unfold X7;rw[d5];simp only[C5,d9,oB]
def B1 {a:DE->M My}{Q:List My->FS->Prop}:wp (C6 a E F) Q↔wp (a E F) λx F1=>oB (gO x) λds=>Q ds F1:=by unfold C6;rw[d5];simp only[C5,d9,oB]
def ay {a:DE->M (List My)}{Q:List My->FS->Prop}:wp (iq a E F) Q↔wp (a E F) λx F1=>x.length<=RN/\Q x F1:=by
 unfold iq;rw[d5];constructor
 .exact λh=>p6 h λxs F1 h=>by
   split at h
   .rename_i hl;exact⟨hl,d9.1 h⟩
   .exact(D1.1 h).elim
 .exact λh=>p6 h λxs F1 h=>by rw[Mb h.1];exact d9.2 h.2
def N0 {mi:DE->M (List My)}{k:Nat}{cap:List Nat}{bd:My->DE->Option DE}{mt:DE->M Bool}{me:DE->M My}{Q:My->FS->Prop}:wp (sLC mi k cap bd mt me E F) Q↔wp (mi E F) λds F1=>ds.length<=RN/\wp (P8 bd mt me ds (gX k cap E) F1) λzs F2=>Q (.list zs) F2:=by
 unfold sLC;rw[d5];constructor
 .refine λh=>p6 h λds F1 h=>?_
  dsimp only at h;split at h
  .rename_i hl;rw[d5]at h;exact⟨hl,p6 h λzs F2 h=>d9.1 h⟩
  .exact(D1.1 h).elim
 .refine λh=>p6 h λds F1 h=>?_
  dsimp only;rw[Mb h.1,d5];exact p6 h.2 λzs F2 h=>d9.2 h
def lH (Q:My->FS->Prop)(o:Out)(F1:FS):Prop:=match o with
  | .rt d=>Q d F1
  | .nx _=>Q .none F1
  | _=>False
def v7 {Q:My->FS->Prop}{d:My}(h:Q d F):lH Q (.rt d) F:=h
def C2 {N:List Str}{m:DE->M Out}{Q:My->FS->Prop}:wp (B9 N m args F) Q↔wp (m (q5 N args) F) (lH Q):=by
 unfold B9;rw[d5];refine J7 λo F1=>?_
 cases o with
 | nx E1=>exact d9
 | rt d=>exact d9
 | bk d=>exact D1
 | ct d=>exact D1
def j3 {d:My}{P:My->Prop}(h:o=some (some (.dat d)))(q:P d):gD o P:=by rw[h];exact q
def l5 {d:My}{P:My->Prop}(h:o=some (some (.dat d)))(q:P d):gW o P:=by rw[h];exact q
def dG {ds:List My}{P:My->Prop}(h:o=some (some (.own ds)))(q:P (.list ds)):gW o P:=by rw[h];exact q
def Y2 {P:Prop}(h:o=some (some .feed))(q:P):gF o P:=by rw[h];exact q
def d6 {o:Option γ}{z:γ}{P:γ->Prop}(h:o=some z)(q:P z):oB o P:=⟨z,h,q⟩
def G6 {c:Bool}{A B:Prop}(h:c=true)(q:A):cIf c A B:=by rw[h];exact xw.2 q
def u9 {c:Bool}{A B:Prop}(h:c=false)(q:B):cIf c A B:=by rw[h];exact vT.2 q
def y4 {n:Nat}(h:Nat.ble n 10000=true):n<=RN:=MK (Nat.le_of_ble_eq_true h) (by rw[MQ];decide)
def j5 {i n:Nat}(h:Nat.ble (i+1) n=true):i<n:=Nat.le_of_ble_eq_true h
end
def Tr (f:List DV->M My)(args:List DV)(c:Int)(P:My->Prop):Prop:=∀F:FdS,F.t+c<=199999->∃d F',f args F=some (d,F')/\F'.t<=F.t+c/\P d
def Tr.wp {f:List DV->M My}{c:Int}{P:My->Prop}{F:FdS}{Q:My->FdS->Prop}(h:Tr f args c P)(hF:F.t+c<=199999)(q:∀d F',F'.t<=F.t+c->P d->Q d F'):wp (f args F) Q:=by obtain⟨d,F',e,ht,p⟩:=h F hF;exact⟨d,F',e,q d F' ht p⟩
def Tr.of {f:List DV->M My}{c:Int}{P:My->Prop}(h:∀F:FdS,F.t+c<=199999->L3.wp (f args F) λd F'=>F'.t<=F.t+c/\P d):Tr f args c P:=λF hF=>by obtain⟨d,F',e,q⟩:=h F hF;exact⟨d,F',e,q⟩
mutual
def cnt:My->Nat
 | .tuple ds=>1+fz ds
 | .list ds=>1+fz ds
 | _=>1
def fz:List My->Nat
 | []=>0
 | d::ds=>cnt d+fz ds
end
def asc (x:Str):Prop:=∀c∈x.cps.toList,c<128
mutual
def scs (n:Nat):My->Prop
 | .none=>True
 | .bool _=>True
 | .int i=>i.natAbs<10 ^ 300+n
 | .str x=>x.length<=600+n/\asc x
 | .tuple ds=>rh n ds
 | .list ds=>rh n ds
 | .dict _=>False
def rh (n:Nat):List My->Prop
 | []=>True
 | d::ds=>scs n d/\rh n ds
end
theorem cJ {n:Nat}:∀{ds:List My},rh n ds↔∀d∈ds,scs n d
 | []=>by simp[rh]
 | d::ds=>by simp[rh,cJ (ds:=ds)]
structure Gd (n N k:Nat) (d:My):Prop where
 sc:scs n d
 dp:d.depth<=k
 ct:cnt d<=N
theorem U4 {k:Nat}:∀{ds:List My},My.depthAll ds<=k↔∀d∈ds,d.depth<=k
 | []=>by simp[My.depthAll]
 | d::ds=>by have:=U4 (k:=k) (ds:=ds);simp only[My.depthAll,Mi,forall_eq_or_imp];rw[<-this];omega
def Gd.tup {n N k M:Nat}{ds:List My}(h:∀d∈ds,Gd n M k d)(hc:1+fz ds<=N):Gd n N (k+1) (.tuple ds):=by
 refine⟨?_,?_,?_⟩
 .simp only[scs];rw[cJ];exact λd hd=>(h d hd).sc
 .simp only[My.depth];have:My.depthAll ds<=k:=U4.2 λd hd=>(h d hd).dp
  omega
 .simp only[cnt];exact hc
def Gd.lst {n N k M:Nat}{ds:List My}(h:∀d∈ds,Gd n M k d)(hc:1+fz ds<=N):Gd n N (k+1) (.list ds):=by obtain⟨a,b,c⟩:=Gd.tup h hc;exact⟨a,b,c⟩
end
section
variable [Fam]
structure Nod (d:My):Prop where
 sh:d.showable=true
 nd:d.hasDict=false
 cl:d.canLay0=true
 ln:d.shown.length+2<=7100*cnt d
def yj :(10:Nat) ^ 300<=2 ^ 1000:=by have h:((10:Nat) ^ 3) ^ 100<=(2 ^ 10) ^ 100:=Nat.pow_le_pow_left (by decide) 100;rwa [<-Nat.pow_mul,<-Nat.pow_mul]at h
def BA {n:Nat}(hn:n<=100):10 ^ 300+n<=2 ^ 1001:=by
 have h0:=yj;have h1:(2:Nat) ^ 1001=2 ^ 1000+2 ^ 1000:=by rw[Nat.pow_succ,Nat.mul_two]
 have h2:(2:Nat) ^ 7<=2 ^ 1000:=NQ (by decide) (by decide);have h3:(2:Nat) ^ 7=128:=by decide
 rw[h1];generalize (10:Nat) ^ 300=A at *;generalize (2:Nat) ^ 1000=B at *;omega
def Du {ds:List My}:(∀d∈ds,Nod d)->My.showableAll ds=true/\My.hasDictAll ds=false/\My.canLayAll0 ds=true/\((My.shownAll ds).map (·.length)).sum+2*ds.length<=7100*fz ds:=by
 induction ds with
 | nil=>intro _;exact⟨by simp[My.showableAll],by simp[My.hasDictAll],by simp[My.canLayAll0],by simp[My.shownAll,fz]⟩
 | cons d ds ih =>
  intro h;obtain⟨a,b,c,e⟩:=ih λx hx=>h x (Mc _ hx)
  have hd:=h d Me;refine⟨by simp[My.showableAll,hd.sh,a],by simp[My.hasDictAll,hd.nd,b],by simp[My.canLayAll0,hd.cl,c],?_⟩;simp only[My.shownAll,Ma,Om,Mf,fz];have:=hd.ln;omega
def Cj {n:Nat}(hn:n<=100):∀m:Nat,∀d:My,sizeOf d<m->scs n d->Nod d:=by
 intro m;induction m with
 | zero=>intro d h;exact absurd h (Pg _)
 | succ m ih =>
  intro d hm hs;cases d with
  | none=>exact⟨rfl,rfl,rfl,by decide⟩
  | bool b=>exact⟨rfl,rfl,rfl,by cases b <;> decide⟩
  | int i =>simp only[scs]at hs;have hb:i.natAbs<2 ^ 1001:=Mx hs (BA hn);have:=Shw.int hb (by decide) (by decide);exact⟨this.sh,this.nd,rfl,by have:=this.ln;simp only[cnt];omega⟩
  | str x =>
   simp only[scs]at hs;refine⟨rfl,rfl,?_,?_⟩
   .simp only[My.canLay0,My.strOk];rw[Array.all_eq_true'];intro c hc;have:=hs.2 c (by simpa using hc);exact Mv (by omega)
   .have h1:=PySem.StrLaws.reprText_len x λc hc=>Mx (hs.2 c hc) (by decide)
    simp only[My.shown,cnt];omega
  | tuple ds =>
   simp only[scs]at hs;rw[cJ]at hs;obtain⟨a,b,c,e⟩:=Du λd hd=>ih d (by have:=QG hd;simp at hm;omega) (hs d hd)
   refine⟨by simpa only[My.showable] using a,by simpa only[My.hasDict] using b,by simpa only[My.canLay0] using c,?_⟩;have h5:=tupleText_len_le (My.shownAll ds);have h6:=My.shownAll_length ds;simp only[My.shown,cnt];omega
  | list ds =>
   simp only[scs]at hs;rw[cJ]at hs;obtain⟨a,b,c,e⟩:=Du λd hd=>ih d (by have:=QG hd;simp at hm;omega) (hs d hd)
   refine⟨by simpa only[My.showable] using a,by simpa only[My.hasDict] using b,by simpa only[My.canLay0] using c,?_⟩;have h5:=listText_len_le (My.shownAll ds);have h6:=My.shownAll_length ds;simp only[My.shown,cnt];omega
  | dict Sj=>simp only[scs]at hs
section
variable {n N k:Nat}{d:My}
def Gd.nod (h:Gd n N k d)(hn:n<=100):Nod d:=Cj hn _ d (NZ _) h.sc
def Gd.repr (h:Gd n N k d)(hn:n<=100)(hN:N<=2000)(hk:k<=50):bU d=true:=by have hd:=h.nod hn;unfold bU;rw[hd.sh,hd.nd];have h1:=hd.ln;have h2:=h.ct;have h3:=h.dp;simp;constructor <;> omega
def Gd.shaped (h:Gd n N k d)(hn:n<=100)(hk:k<=50):PySem.SeqAt.shaped d=true:=by unfold PySem.SeqAt.shaped;rw[(h.nod hn).cl];have h3:=h.dp;simp;omega
def pO {i:Int}(h:i.natAbs<10 ^ 300+n):Gd n 1 0 (.int i):=⟨h,by simp[My.depth],by simp[cnt]⟩
end
def rX {i:Int}{n:Nat}(h:i.natAbs<=100000000000000000000000000000000000000000):i.natAbs<10 ^ 300+n:=by
 have h1:(10:Nat) ^ 42<=10 ^ 300:=NQ (by decide) (by decide);have h2:100000000000000000000000000000000000000000<(10:Nat) ^ 42:=by decide
 generalize (10:Nat) ^ 300=A at *;omega
end
section
variable [Fam]
section
variable {ds es:List My}{i j:Int}{x y:Str}{b c:Bool}{d:My}{T:String}
def O3 :N4 (.int i) (.int j)=some (.int (i+j)):=rfl
def W1 :cw (.int i) (.int j)=some (.int (i-j)):=rfl
def vS :gtD (.int i) (.int j)=some (.bool (decide (j<i))):=rfl
def wY :ltD (.int i) (.int j)=some (.bool (decide (i<j))):=rfl
def Y9 :T6 [.tuple ds]=some (.int ds.length):=rfl
def bX :T6 [.list ds]=some (.int ds.length):=rfl
def eQ :K9 [.list ds]=some (.tuple ds):=rfl
def En :mZ (.int i)=some i:=rfl
def Cc {lo hi:Option Int}:rl lo hi (.tuple ds)=some (.tuple (fx ds lo hi)):=rfl
def Cn {lo hi:Option Int}:rl lo hi (.list ds)=some (.list (fx ds lo hi)):=rfl
def Q7 :gO (.tuple ds)=some ds:=rfl
def U0 :gO (.list ds)=some ds:=rfl
def vt :fC [.bool b]=some (.int (if b then 1 else 0)):=rfl
end
end
end L3
set_option hygiene false
local macro_rules | `(tactic| walk_at "st")=>`(tactic| first | (with_reducible first | refine L3.l0 ?_ | refine L3.qE ?_ | refine L3.v7 ?_ | refine L3.m5.2 ?_ | refine L3.V3.2 ?_ | refine L3.r6.2 ?_ | refine L3.y9.2 ?_ | refine L3.bO.2 ?_ | refine L3.vg.2 ?_ | refine L3.vY.2 ?_ | refine r_uNot.2 ?_ | refine L3.ak.2 ?_ | refine L3.xF.2 ?_ | refine L3.Z5.2 ?_ | refine L3.l9.2 ?_ | refine L3.EY.2 ?_ | refine L3.D8.2 ?_ | refine L3.m9.2 ?_ | refine L3.j4.2 ?_ | refine L3.j9.2 ?_ | refine L3.h7.2 ?_ | refine L3.c6.2 ?_ | refine L3.D4.2 ?_ | refine L3.jK.2 ?_ | refine L3.l4.2 ?_ | refine L3.l7.2 ?_ | refine L3.W9.2 ?_ | refine L3.i9.2 ?_ | refine L3.ue.2 ?_ | refine L3.vV.2 ?_ | refine L3.Bl.2 ?_ | refine L3.pH.2 ?_ | refine L3.Ab.2 ?_ | refine r_sNot.2 ?_ | refine L3.vm.2 ?_ | refine L3.kl.2 ?_ | refine L3.cA.2 ?_ | refine L3.L1.2 ?_ | refine L3.P1.2 ?_ | refine L3.B1.2 ?_ | refine L3.ay.2 ?_ | refine r_fCat.2 ?_ | refine L3.N0.2 ?_) | ((with_reducible refine L3.C2.2 ?_);try dsimp only[L3.q5,Ma,MI,Mf,MP,List.replicate,MA,ME,Nat.reduceAdd,Nat.reduceSub]) | ((with_reducible apply L3.j3);exact rfl) | ((with_reducible apply L3.l5);exact rfl) | ((with_reducible apply L3.dG);exact rfl) | ((with_reducible apply L3.Y2);exact rfl) | ((with_reducible apply L3.d6);first | exact e_isin | exact rfl) | ((with_reducible refine And.intro (L3.y4 ?_) ?_);exact rfl) | ((with_reducible refine And.intro (L3.j5 ?_) ?_);exact rfl;try dsimp only[List.set_cons_zero,List.set_cons_succ]))
local macro_rules | `(tactic| walk_at "rd")=>`(tactic| (repeat walk_at "st"))
local macro_rules | `(tactic| walk_at "ty")=>`(tactic| first | refine L3.u9 L3.eM ?_ | refine L3.u9 L3.ft ?_ | refine L3.u9 L3.ip ?_ | refine L3.u9 L3.ig ?_ | refine L3.u9 L3.fy ?_ | refine L3.u9 L3.kQ ?_ | refine L3.G6 L3.lY ?_ | refine L3.G6 L3.nX ?_ | refine L3.u9 L3.nW ?_ | refine L3.u9 L3.mG ?_ | refine L3.u9 L3.my ?_ | refine L3.u9 L3.nF ?_ | refine L3.G6 L3.sv ?_ | refine L3.u9 L3.rT ?_ | refine L3.u9 L3.nV ?_ | refine L3.u9 L3.md ?_ | refine L3.u9 L3.nE ?_ | refine L3.u9 L3.rQ ?_ | refine L3.G6 L3.sP ?_ | refine L3.u9 L3.oH ?_ | refine L3.u9 L3.kE ?_ | refine L3.u9 L3.mx ?_ | refine L3.u9 L3.nU ?_ | refine L3.u9 L3.nI ?_ | refine L3.G6 L3.mC ?_ | refine L3.G6 L3.iA ?_ | refine L3.u9 L3.jM ?_ | refine L3.u9 L3.lS ?_ | refine L3.u9 L3.lU ?_ | refine L3.u9 L3.kG ?_)
local macro_rules | `(tactic| walk_at "go")=>`(tactic| (repeat first | walk_at "st" | walk_at "ty"))
namespace L3
open PySem PySem.Spec PyProof.Rows L2
variable [Fam]
def eM:isT "NoneType" "tuple" = false:=by decide +kernel
def ft:isT "NoneType" "bool" = false:=by decide +kernel
def ip:isT "NoneType" "int" = false:=by decide +kernel
def ig:isT "NoneType" "str" = false:=by decide +kernel
def fy:isT "NoneType" "list" = false:=by decide +kernel
def kQ:isT "bool" "tuple" = false:=by decide +kernel
def lY:isT "bool" "bool" = true:=by decide +kernel
def nX:isT "bool" "int" = true:=by decide +kernel
def nW:isT "bool" "str" = false:=by decide +kernel
def mG:isT "bool" "list" = false:=by decide +kernel
def my:isT "int" "tuple" = false:=by decide +kernel
def nF:isT "int" "bool" = false:=by decide +kernel
def sv:isT "int" "int" = true:=by decide +kernel
def rT:isT "int" "str" = false:=by decide +kernel
def nV:isT "int" "list" = false:=by decide +kernel
def md:isT "str" "tuple" = false:=by decide +kernel
def nE:isT "str" "bool" = false:=by decide +kernel
def rQ:isT "str" "int" = false:=by decide +kernel
def sP:isT "str" "str" = true:=by decide +kernel
def oH:isT "str" "list" = false:=by decide +kernel
def kE:isT "list" "tuple" = false:=by decide +kernel
def mx:isT "list" "bool" = false:=by decide +kernel
def nU:isT "list" "int" = false:=by decide +kernel
def nI:isT "list" "str" = false:=by decide +kernel
def mC:isT "list" "list" = true:=by decide +kernel
def iA:isT "tuple" "tuple" = true:=by decide +kernel
def jM:isT "tuple" "bool" = false:=by decide +kernel
def lS:isT "tuple" "int" = false:=by decide +kernel
def lU:isT "tuple" "str" = false:=by decide +kernel
def kG:isT "tuple" "list" = false:=by decide +kernel
section
variable {s N k:Nat}
end
variable [Fam]
def sz {n:Nat}(h:n<=100000):n<=RN:=MK h (by rw[MQ];decide)
variable [Fam]
variable [Fam]
def D9 {bd:My->DE->Option DE}{body:DE->M Out}{Q:Out->FdS->Prop}(I:Nat->DE->FdS->Prop):∀(items:List My) (n:Nat) (E:DE) (F:FdS),I n E F ->
  (∀i d,items[i]? = some d->∀E F,I (n+i) E F->∃E1,bd d E=some E1/\wp (body E1 F) λo F'=>∃E2,o = .nx E2/\I (n+i+1) E2 F')->(∀E F,I (n+items.length) E F->Q (.nx E) F)->wp (bH bd body items E F) Q
 | [],n,E,F,h,_,hq=>d9.2 (hq E F h)
 | d::r,n,E,F,h,st,hq=>by
  obtain⟨E1,e1,h1⟩:=st 0 d rfl E F h;rw[bH,e1,MF,d5];refine p6 h1 λo F1 ⟨E2,e2,h2⟩=>?_
  subst e2;refine D9 I r (n+1) E2 F1 h2 (λi d e E F hI=>?_) (λE F hI=>hq E F (by rw[Mf];rw[show n+(r.length+1)=n+1+r.length by omega];exact hI));have:=st (i+1) d (by simpa using e) E F (by rw[show n+(i+1)=n+1+i by omega];exact hI);rw[show n+(i+1)+1=n+1+i+1 by omega]at this;exact this
def xE {lo:Int}{n:Nat}:(fw lo n).length=n:=by simp[fw]
def CC {i j:Int}(h:rJ i j):J9 (.int i) (.int j)=some (.int (i*j)):=Mb (.inl h)
def gf {i j:Int}(h1:i.natAbs<gE)(h2:j.natAbs<gE):J9 (.int i) (.int j)=some (.int (i*j)):=Mb (.inr ⟨h1,h2⟩)
def vN {i j:Int}(h1:j≠0)(h2:j.natAbs<2 ^ 9000):dw (.int i) (.int j)=some (.int (i.fdiv j)):=Mb ⟨h1,h2⟩
def iK {i j:Int}(h1:0<j)(h2:j.natAbs<2 ^ 9000):dw (.int i) (.int j)=some (.int (i / j)):=by rw[vN (by omega) h2,Rg i (by omega)]
def Ar {i j:Int}(h1:0<j):yV (.int i) (.int j)=some (.int (i % j)):=Mb h1
variable [Fam]
section
variable {F:FdS}{Q:My->FdS->Prop}{n:Nat}
def Ai {d:My}(h:bU d=true):mB [d]=some (.str d.shown):=Mb h
def xM {xs ys:List My}(h:xs.length+ys.length<=100000):N4 (.list xs) (.list ys)=some (.list (xs++ys)):=Mb (sz h)
def Dh {xs ys:List My}(h:xs.length+ys.length<=100000):N4 (.tuple xs) (.tuple ys)=some (.tuple (xs++ys)):=Mb (sz h)
abbrev W8:List My:=[.str "first",.str "last",.str "short",.str "front",.str "lastoff",.str "shortoff",.str "frontoff",.str "turns"]
def cV:List DV->M My:=B9 ["rule"] (mRt (s2 (inD false) (sW 0) (sC (.tuple [.str "first",.str "last",.str "short",.str "front"]))))
def kb:My->Bool
 | .str x=>(([.str "first",.str "last",.str "short",.str "front"]:List My)).any λy=>My.eqv y (.str x)
 | _=>false
def in4 {x:Str}(h:SeqAt.shaped (.str x)=true):inD false (.str x) (.tuple [.str "first",.str "last",.str "short",.str "front"])=some (.bool (kb (.str x))):=by show(if SeqAt.shaped (.tuple [.str "first",.str "last",.str "short",.str "front"])=true/\SeqAt.shaped (.str x)=true then _ else none)=_;rw[Mb ⟨by decide +kernel,h⟩,Md (by decide)];rfl
def R6 {r:My}(h:r∈W8):∃x:Str,r = .str x/\SeqAt.shaped (.str x)=true:=by simp only[Mi,Oo,QC]at h;rcases h with rfl | rfl | rfl | rfl | rfl | rfl | rfl | rfl <;> exact⟨_,rfl,by decide +kernel⟩
def pV {r:My}(h:r∈W8)(q:Q (.bool (kb r)) F):wp (cV [.dat r] F) Q:=by obtain⟨x,rfl,hx⟩:=R6 h;unfold cV;walk_at "go";refine d6 (in4 hx) ?_;walk_at "go";exact q
end
section
variable {F:FdS}{Q:Out->FdS->Prop}{E:DE}{i:Nat}{ds:List My}
def dH {v:DE->M My}(he:eV E i=some ds)(hl:ds.length<=100000)(q:wp (v E F) λx F1=>Q (.nx (E.set i (some (.own (ds++[x]))))) F1):wp (ax i v E F) Q:=by
 unfold ax;rw[d5];refine p6 q λx F1 h=>?_
 rw[he,MF,Mb (MJ hl (by rw[MQ];decide))];exact d9.2 h
def xg {a:DE->M My}{Q:List My->FdS->Prop}(q:wp (a E F) λx F1=>oB (gO x) λds=>Q (R0 0 ds) F1):wp (jl a E F) Q:=by
 unfold jl;rw[d5];refine p6 q λx F1 h=>?_
 obtain⟨ds,e,q⟩:=h;dsimp only;rw[e,MF];exact d9.2 q
end
variable [Fam]
def vZ {bd:My->DE->Option DE}{me:DE->M My}{Sh:DE->Prop}{P:My->My->Prop}{c:Int}(hc:0<=c):∀(ds:List My) (E:DE) (F:FdS) (Q:List My->FdS->Prop),Sh E ->
  (∀d∈ds,∀E,Sh E->∃E1,bd d E=some E1/\Sh E1/\∀F:FdS,F.t+c<=199999->wp (me E1 F) λy F'=>F'.t<=F.t+c/\P d y)->F.t+c*ds.length<=199999 ->
  (∀zs F',zs.length=ds.length->(∀z∈zs,∃d∈ds,P d z)->F'.t<=F.t+c*ds.length->Q zs F')->wp (P8 bd A6 me ds E F) Q
 | [],E,F,Q,_,_,_,q=>d9.2 (q [] F rfl (λz hz=>by cases hz) (by simp))
 | d::ds,E,F,Q,hE,st,hF,q=>by
  have e1:c*((d::ds).length:Int)=c*(ds.length:Int)+c:=by rw[Mf];push_cast;rw[RB,Int.mul_one]
  have hp:0<=c*(ds.length:Int):=Pm hc (by omega);rw[e1]at hF q;obtain⟨E1,eb,h1,h2⟩:=st d Me E hE;rw[P8,eb,MF,d5];refine Z5.2 ?_;rw[Mb rfl,d5];refine p6 (h2 F (by omega)) λy F1 ⟨t1,py⟩=>?_
  rw[d5];refine vZ hc ds E1 F1 _ h1 (λd hd=>st d (Mc _ hd)) (by omega) λzs F2 hl hz t2=>d9.2 (q _ F2 (by simp[hl]) (λz hm=>?_) (by omega))
  rcases Mi.1 hm with rfl | hm
  .exact⟨d,Me,py⟩
  .obtain⟨d',hd',p'⟩:=hz z hm;exact⟨d',Mc _ hd',p'⟩
def Dc {me:DE->M My}{P:My->My->Prop}{c:Int}{rest:DE}{F:FdS}{Q:List My->FdS->Prop}(ds:List My)(o:Option DV)(hc:0<=c)
  (st:∀d∈ds,∀F:FdS,F.t+c<=199999->wp (me (some (.dat d)::rest) F) λy F'=>F'.t<=F.t+c/\P d y) (hF:F.t+c*ds.length<=199999)
  (q:∀zs F',zs.length=ds.length->(∀z∈zs,∃d∈ds,P d z)->F'.t<=F.t+c*ds.length->Q zs F'):wp (P8 (bN 0) A6 me ds (o::rest) F) Q :=
 vZ (Sh:=λE=>∃o,E=o::rest) hc ds _ F Q ⟨o,rfl⟩ (λd hd E ⟨o,e⟩=>by subst e;exact⟨_,rfl,⟨_,rfl⟩,st d hd⟩) hF q
theorem gb {c:Nat}:∀{ds:List My},(∀d∈ds,cnt d<=c)->fz ds<=c*ds.length
 | [],_=>by simp[fz]
 | d::ds,h=>by
  have h1:=h d Me;have h2:=gb (c:=c) (ds:=ds) λd hd=>h d (Mc _ hd)
  rw[fz,Mf,Nat.mul_add,Nat.mul_one];omega
variable [Fam]
def tD {c:DE->M Bool}{b:DE->M Out}{Q:Out->FdS->Prop}(I:DE->FdS->Prop)(μ:DE->Nat)
  (st:∀E F,I E F->wp (c E F) λt F1=>cIf t (wp (b E F1) λo F2=>∃E2,o = .nx E2/\I E2 F2 /\ μ E2 < μ E) (Q (.nx E) F1)):∀(n:Nat) (E:DE) (F:FdS),I E F->μ E<n->wp (cR c b n E F) Q
 | 0,E,F,_,h=>absurd h (Pg _)
 | n+1,E,F,hI,h=>by
  rw[cR,d5];refine p6 (st E F hI) λt F1 h1=>?_
  cases t with
  | false=>rw[vT]at h1;rw[Md (by simp)];exact d9.2 h1
  | true =>
   rw[xw]at h1;rw[Mb rfl,d5];refine p6 h1 λo F2 ⟨E2,e,hI2,hm⟩=>?_
   subst e;exact tD I μ st n E2 F2 hI2 (by omega)
def Dj {c:DE->M Bool}{b:DE->M Out}{Q:Out->FdS->Prop}(I:DE->FdS->Prop)(μ:DE->Nat){E:DE}{F:FdS}(h0:I E F)
  (st:∀E F,I E F->wp (c E F) λt F1=>cIf t (wp (b E F1) λo F2=>∃E2,o = .nx E2/\I E2 F2 /\ μ E2 < μ E) (Q (.nx E) F1)):wp (mWh c b E F) Q:=by obtain⟨o,F',e,q⟩:=tD I μ st (μ E+1) E F h0 (NZ _);exact⟨o,F',BJ e,q⟩
def qR {i j:Nat}{a:DE->M (List My)}{E:DE}{F:FdS}{Q:Out->FdS->Prop}(q:wp (a E F) λxs F1=>∃x y,xs=[x,y]/\i<E.length/\j<E.length/\Q (.nx ((E.set i (some (.dat x))).set j (some (.dat y)))) F1):wp (og i j a E F) Q:=by
 unfold og;rw[d5];refine p6 q λxs F1 h=>?_
 obtain⟨x,y,rfl,h1,h2,q⟩:=h;simp only[bN,h1,Nk,MF,ND,h2];exact d9.2 q
def CN {i:Int}:sQ [.int i]=some (.int (i.natAbs:Int)):=by show some (My.int (if i<0 then -i else i))=_;congr 2;split <;> omega
def D3:List DV->M My:=B9 ["one","other"] (mSq (og 0 1 (c7 (sN sQ (c7 (sW 0) j6)) (c7 (sN sQ (c7 (sW 1) j6)) j6)))
  (mSq (mWh (uB (s2 gtD (sW 1) (sC (.int 0)))) (og 0 1 (c7 (sV 1) (c7 (s2 yV (sW 0) (sW 1)) j6))))
  (mRt (sV 0))))
def zT {a b:Int}{F:FdS}{Q:My->FdS->Prop}(q:Q (.int (Int.gcd a b:Nat)) F):wp (D3 [.dat (.int a),.dat (.int b)] F) Q:=by
 unfold D3;walk_at "go";refine qR ?_;walk_at "go";have hab:∀z:Int,(if z<0 then -z else z)=(z.natAbs:Int):=λz=>by split <;> omega
 rw[hab a,hab b];refine⟨_,_,rfl,j5 rfl,j5 rfl,l0 ?_⟩;walk_at "go";refine Dj (λE F'=>F'=F/\∃x y:Nat,E=[some (.dat (.int x)),some (.dat (.int y))]/\Nat.gcd x y=Int.gcd a b) (λE=>match E with
  | [_,some (.dat (.int y))]=>y.natAbs
  | _=>0) ⟨rfl,a.natAbs,b.natAbs,rfl,rfl⟩ ?_
 rintro E F1 ⟨rfl,x,y,rfl,hg⟩;walk_at "go";refine R3 (λe=>?_) (λe=>?_)
 .have hy:(0:Int)<y:=MD e;refine qR ?_;walk_at "go";refine d6 (Ar hy) ?_;walk_at "go";refine⟨_,_,rfl,j5 rfl,j5 rfl,_,rfl,⟨rfl,y,x % y,rfl,?_⟩,?_⟩
  .rw[<-hg,Rw x y,Nat.gcd_rec y x,Rw]
  .show((x:Int) % (y:Int)).natAbs<(y:Int).natAbs;have h1:=QQ (x:Int) (b:=(y:Int)) (by omega);have h2:=Qc (x:Int) hy;omega
 .have hy:y=0:=by have:=Nq e;omega
  subst hy;refine l0 ?_;walk_at "go";rw[Nat.gcd_zero_right]at hg;rw[hg];exact q
variable [Fam]
variable [Fam]
def Z1:List DV->M My:=B9 ["top","bottom","divisor"] (mSq (x8 2 (j8 D3 (vD (sV 0) (vD (sV 1) n9))))
  (mSq (mIf (uB (s2 ltD (sW 1) (sC (.int 0)))) (x8 2 (s1 Bj (sW 2))) mNx)
  (mRt (E8 (c7 (s2 dw (sW 0) (sW 2)) (c7 (s2 dw (sW 1) (sW 2)) j6))))))
structure Low (i j t b:Int):Prop where
 pos:0<b
 low:Int.gcd t b=1
 as:t*j=i*b
 lt:t.natAbs<=i.natAbs
 lb:b.natAbs<=j.natAbs
def jT {i j:Int}(hj:0<j):Low i j (i / (Int.gcd i j:Int)) (j / (Int.gcd i j:Int)):=by
 have hg:0<Int.gcd i j:=Ra i (by omega);have d1:(Int.gcd i j:Int) ∣ i:=Rx ..;have d2:(Int.gcd i j:Int) ∣ j:=Qq ..;refine⟨Int.ediv_pos_of_pos_of_dvd hj (by omega) d2,Int.gcd_ediv_gcd_ediv_gcd hg,?_,Int.natAbs_ediv_le_natAbs ..,Int.natAbs_ediv_le_natAbs ..⟩;have hg0:(Int.gcd i j:Int)≠0:=by omega
 clear hg;generalize (Int.gcd i j:Int)=g at *;obtain⟨x,rfl⟩:=d1;obtain⟨y,rfl⟩:=d2;have hg:=hg0;rw[Int.mul_ediv_cancel_left x hg,Int.mul_ediv_cancel_left y hg,Oh g y,<-Nw,Oh g x,Nw x g y,Oh g y,<-Nw]
def xR {i j:Int}(hj:j<0):Low i j (i / (-(Int.gcd i j:Int))) (j / (-(Int.gcd i j:Int))):=by
 have h:=jT (i:=-i) (j:=-j) (by omega);rw[Int.neg_gcd,Int.gcd_neg]at h;obtain⟨h1,h2,h3,h4,h5⟩:=h;have e1:i / (-(Int.gcd i j:Int)) = -i / (Int.gcd i j:Int):=by rw[Int.ediv_neg,Int.neg_ediv_of_dvd (Rx ..)]
 have e2:j / (-(Int.gcd i j:Int)) = -j / (Int.gcd i j:Int):=by rw[Int.ediv_neg,Int.neg_ediv_of_dvd (Qq ..)]
 rw[e1,e2];refine⟨h1,h2,?_,by rw[Int.natAbs_neg]at h4;exact h4,by rw[Int.natAbs_neg]at h5;exact h5⟩;rw[Int.mul_neg,Int.neg_mul]at h3;omega
def pC {i j:Int}{F:FdS}{Q:My->FdS->Prop}(hj:j≠0)(hb:j.natAbs<2 ^ 9000)(q:∀t b,Low i j t b->Q (.tuple [.int t,.int b]) F):wp (Z1 [.dat (.int i),.dat (.int j)] F) Q:=by
 unfold Z1;walk_at "go";refine zT ?_;have hg:0<Int.gcd i j:=Ra i hj;have hgl:Int.gcd i j<=j.natAbs:=OR (by omega) (Int.ofNat_dvd_left.1 (Qq ..));refine⟨j5 rfl,l0 ?_⟩;walk_at "go";refine R3 (λe=>?_) (λe=>?_)
 .have hj:j<0:=MD e;walk_at "go";have hd:(-((Int.gcd i j:Nat):Int)).natAbs<2 ^ 9000:=by rw[Int.natAbs_neg];exact MJ hgl hb
  have h0:-((Int.gcd i j:Nat):Int)≠0:=by omega
  have d1:-((Int.gcd i j:Nat):Int) ∣ i:=Int.neg_dvd.2 (Rx ..);have d2:-((Int.gcd i j:Nat):Int) ∣ j:=Int.neg_dvd.2 (Qq ..);refine d6 (vN h0 hd) ?_;walk_at "go";refine d6 (vN h0 hd) ?_;walk_at "go";rw[Int.fdiv_eq_ediv_of_dvd d1,Int.fdiv_eq_ediv_of_dvd d2];exact q _ _ (xR hj)
 .have hj:0<j:=by have:=Nq e;omega
  walk_at "go";have hd:((Int.gcd i j:Nat):Int).natAbs<2 ^ 9000:=MJ hgl hb;refine d6 (iK (by omega) hd) ?_;walk_at "go";refine d6 (iK (by omega) hd) ?_;walk_at "go";exact q _ _ (jT hj)
variable [Fam]
section
variable {B:Int}
end
section
variable {F:FdS}{E:DE}
end
variable [Fam]
def AG {i:Int}(h0:-(2 ^ 62)<=i)(h1:i<2 ^ 62):af [.int i]=some (fw 0 i.toNat):=Mb ⟨h0,h1⟩
def wI {n:Nat}(h:n<=100000):af [.int (n:Nat)]=some (fw 0 n):=by have e:=AG (i:=(n:Int)) (by omega) (by omega);rwa [Od]at e
def pr (p:Int×Int):My:=.tuple [.int p.1,.int p.2]
theorem jZ {me:DE->M My}{f:Int×Int->My}{rest:DE}{Q:List My->FdS->Prop}:∀(ps:List (Int×Int)) (o o':Option DV) (F:FdS),(∀p∈ps,∀(F:FdS) (Q:My->FdS->Prop),Q (f p) F->wp (me (some (.dat (.int p.1))::some (.dat (.int p.2))::rest) F) Q)->Q (ps.map f) F->wp (P8 (w6 2 (d8 (bN 0) (d8 (bN 1) x3))) A6 me (ps.map pr) (o::o'::rest) F) Q
 | [],o,o',F,_,q=>d9.2 q
 | p::ps,o,o',F,h,q=>by rw[Ma,P8];have e:w6 2 (d8 (bN 0) (d8 (bN 1) x3)) (pr p) (o::o'::rest)=some (some (.dat (.int p.1))::some (.dat (.int p.2))::rest):=rfl;rw[e,MF,d5];refine Z5.2 ?_;rw[Mb rfl,d5];refine h p Me F _ ?_;rw[d5];exact jZ ps _ _ F (λp hp=>h p (Mc _ hp)) (d9.2 q)
theorem pY:∀ns:List Int,O4 (ns.map .int)=some ns
 | []=>rfl
 | n::ns=>by rw[Ma,O4,pY ns];rfl
def cm {ns:List Int}:S4 [.list (ns.map .int)]=some (.int ns.sum):=by simp only[S4,pY,QM]
def nK (ps:List (Int×Int)):Int:=(ps.map λp=>p.1*p.2).sum
def cz (ps:List (Int×Int)):Int:=(ps.map λp=>p.2).sum
def bc:List DV->M My:=B9 ["pairs","weighed"] (mSq (x8 1 (sN S4 (c7 (sLC (C6 (sW 0)) 2 [] (w6 2 (d8 (bN 0) (d8 (bN 1) x3))) A6 (s2 J9 (sW 0) (sW 1))) j6)))
  (mRt (j8 Z1 (vD (sV 1) (vD (sN S4 (c7 (sLC (C6 (sW 0)) 2 [] (w6 2 (d8 (bN 0) (d8 (bN 1) x3))) A6 (sV 1)) j6)) n9)))))
def lQ {ps:List (Int×Int)}{F:FdS}{Q:My->FdS->Prop}(hl:ps.length<=1000)(h:∀p∈ps,p.1.natAbs<gE/\p.2.natAbs<gE)(hp:1<=cz ps)(hb:(cz ps).natAbs<2 ^ 9000)(q:∀t b,Low (nK ps) (cz ps) t b->Q (.tuple [.int t,.int b]) F):wp (bc [.dat (.list (ps.map pr))] F) Q:=by
 have e1:(ps.map λp=>My.int (p.1*p.2))=(ps.map λp=>p.1*p.2).map .int:=by rw[Mq];rfl
 have e2:(ps.map λp=>My.int p.2)=(ps.map λp=>p.2).map .int:=by rw[Mq];rfl
 unfold bc;walk_at "go";refine⟨sz (by rw[LX];omega),?_⟩;refine jZ (f:=λp=>.int (p.1*p.2)) ps none none F (λp hp F Q q=>?_) ?_
 .walk_at "go";refine d6 (gf (h p hp).1 (h p hp).2) q
 .rw[e1];refine h7.2 (d6 cm ?_);walk_at "go";refine⟨sz (by rw[LX];omega),?_⟩;refine jZ (f:=λp=>.int p.2) ps none none F (λp hp F Q q=>?_) ?_
  .walk_at "go";exact q
  .rw[e2];refine h7.2 (d6 cm ?_);walk_at "go";exact pC (by have:(1:Int)<=cz ps:=hp;intro z;have z:cz ps=0:=z;omega) hb q
variable [Fam]
def qd (q:Rat):My:=.tuple [.int q.num,.int ((q.den:Nat):Int)]
def pE {i j t b:Int}(h:Low i j t b)(hj:0<j):My.tuple [.int t,.int b]=qd (mkRat i j.toNat):=by
 obtain⟨h1,h2,h3,_,_⟩:=h;have nz:b.toNat≠0:=by omega
 have cp:t.natAbs.Coprime b.toNat:=by
  have:b.toNat=b.natAbs:=by omega
  rw[this];exact h2
 have e1:(⟨t,b.toNat,nz,cp⟩:Rat)=mkRat t b.toNat:=by rw[Rat.mk_eq_mkRat]
 have e2:mkRat t b.toNat=mkRat i j.toNat:=by rw[QD nz (by omega)];rw[show((j.toNat:Nat):Int)=j by omega,show((b.toNat:Nat):Int)=b by omega];exact h3
 rw[<-e2,<-e1];unfold qd;simp only;rw[show((b.toNat:Nat):Int)=b by omega]
def p4 {n:Nat}(h:n<2 ^ 4000):n<gE:=Mx h (yr (by decide))
def qi (p:Rat):0<p.den:=Nat.pos_of_ne_zero p.den_nz
section
variable {F:FdS}{Q:My->FdS->Prop}{p q:Rat}
def ix1:ixD (qd p) (.int 1)=some (.int ((p.den:Nat):Int)):=rfl
end
def eF (a:Int){D:Nat}(hD:D≠0):(mkRat a D).den ∣ D/\∀M:Nat,a.natAbs<=M*D->(mkRat a D).num.natAbs<=M*(mkRat a D).den:=by
 rw[<-Rat.normalize_eq_mkRat hD,Rat.normalize_eq];have g1:a.natAbs.gcd D ∣ D:=Nat.gcd_dvd_right ..;have g2:a.natAbs.gcd D ∣ a.natAbs:=Nat.gcd_dvd_left ..;have gp:0<a.natAbs.gcd D:=Nat.gcd_pos_of_pos_right _ (Nat.pos_of_ne_zero hD);refine⟨Nat.div_dvd_of_dvd g1,λM h=>?_⟩;show(a / ((a.natAbs.gcd D:Nat):Int)).natAbs<=M*(D / a.natAbs.gcd D);generalize a.natAbs.gcd D=g at *;obtain⟨x,hx⟩:=g1;obtain⟨y,hy⟩:=g2;have e1:D / g=x:=by rw[hx];exact Nat.mul_div_cancel_left x gp
 have e2:(a / (g:Int)).natAbs=y:=by have hd:(g:Int) ∣ a:=Int.ofNat_dvd_left.2 ⟨y,hy⟩;rw[Int.natAbs_ediv_of_dvd hd,hy,NP];exact Nat.mul_div_cancel_left y gp
 rw[e1,e2];rw[hy,hx]at h;have h':g*y<=g*(M*x):=by
  have:M*(g*x)=g*(M*x):=by rw[<-Nat.mul_assoc,Rq M g,Nat.mul_assoc]
  omega
 exact Nat.le_of_mul_le_mul_left h' gp
end L3
namespace Bz
open PySem L2 L3
variable [Fam]
section
variable {xs:List Int}{L T:Nat}{N:Int}
variable {F:FdS}{Q:My->FdS->Prop}
end
section
variable {xs:List Int}{L T:Nat}{N:Int}{F:FdS}{Q:My->FdS->Prop}
variable {T1:Nat}{N1:Int}
end
section
variable {xs:List Int}{L:Nat}{N S:Int}
end
section
variable {xs:List Int}{L T:Nat}{N:Int}
end
variable [Fam]
variable [Fam]
section
variable {F:FdS}{Q:My->FdS->Prop}{xs:List Int}{L h:Nat}{N S:Int}
end
variable [Fam]
def dy:List DV->M My:=B9 ["_law_top","_law_bottom","_law_one","_law_other"] (mSq (og 2 3 (c7 (sN sQ (c7 (sW 0) j6)) (c7 (sV 1) j6)))
  (mSq (mWh (uB (s2 gtD (sW 3) (sC (.int 0)))) (og 2 3 (c7 (sV 3) (c7 (s2 yV (sW 2) (sW 3)) j6))))
  (mRt (E8 (c7 (s2 dw (sW 0) (sW 2)) (c7 (s2 dw (sW 1) (sW 2)) j6))))))
def qb {i n:Nat}{F:FdS}{Q:My->FdS->Prop}(hn:0<n)(hb:n<2 ^ 9000)(q:Q (qd (mkRat i n)) F):wp (dy [.dat (.int (i:Nat)),.dat (.int (n:Nat))] F) Q:=by
 unfold dy;refine C2.2 (m5.2 (qR (c6.2 (D8.2 (c6.2 (j9.2 (l5 rfl (h7.2 (d6 CN (c6.2 (j4.2 (j3 rfl (h7.2 ⟨_,_,rfl,j5 rfl,j5 rfl,l0 ?_⟩)))))))))))));refine m5.2 (Dj (λE F'=>F'=F/\∃x y:Nat,E=[some (.dat (.int (i:Nat))),some (.dat (.int (n:Nat))),some (.dat (.int (x:Nat))),some (.dat (.int (y:Nat)))]/\Nat.gcd x y=Nat.gcd i n) (λE=>match E with
  | [_,_,_,some (.dat (.int y))]=>y.natAbs
  | _=>0) ⟨rfl,i,n,rfl,rfl⟩ ?_)
 rintro E F1 ⟨rfl,x,y,rfl,hg⟩;refine ak.2 (l9.2 (j9.2 (l5 rfl (m9.2 (d6 vS (d6 rfl ?_))))));refine R3 (λe=>?_) (λe=>?_)
 .have hy:(0:Int)<y:=MD e;refine qR (c6.2 (j4.2 (j3 rfl (c6.2 (l9.2 (j9.2 (l5 rfl (j9.2 (l5 rfl (d6 (Ar hy) (h7.2 ⟨_,_,rfl,j5 rfl,j5 rfl,_,rfl,⟨rfl,y,x % y,?_,?_⟩,?_⟩)))))))))))
  .simp
  .rw[<-hg,Rw x y,Nat.gcd_rec y x,Rw]
  .show((x:Int) % (y:Int)).natAbs<(y:Int).natAbs;have h1:=QQ (x:Int) (b:=(y:Int)) (by omega);have h2:=Qc (x:Int) hy;omega
 .have hy:y=0:=by have:=Nq e;omega
  subst hy;rw[Nat.gcd_zero_right]at hg;subst hg;have hgp:0<Nat.gcd i n:=Nat.gcd_pos_of_pos_right i hn;have hgl:Nat.gcd i n<=n:=OR hn (Nat.gcd_dvd_right ..);have d:=iK (i:=(i:Int)) (j:=((Nat.gcd i n:Nat):Int)) (by omega) (by rw[NP];omega);have d':=iK (i:=(n:Int)) (j:=((Nat.gcd i n:Nat):Int)) (by omega) (by rw[NP];omega);refine l0 (y9.2 (D4.2 (c6.2 (l9.2 (j9.2 (l5 rfl (j9.2 (l5 rfl (d6 d (c6.2 (l9.2 (j9.2 (l5 rfl (j9.2 (l5 rfl (d6 d' (h7.2 ⟨y4 rfl,v7 ?_⟩)))))))))))))))));have lo:=jT (i:=(i:Int)) (j:=(n:Int)) (by omega);have eg:(Int.gcd (i:Int) (n:Int):Int)=((Nat.gcd i n:Nat):Int):=rfl;rw[eg]at lo;rw[pE lo (by omega),Od];exact q
section
variable {F:FdS}{Q:My->FdS->Prop}{p q:Rat}
end
end Bz
namespace L3
open L2
abbrev Pn:=Int×Int×Bool
def pAt (ps:List Pn)(i:Nat):Pn:=ps.getD i (0,0,false)
def W2 (k:Nat)(ps:List Pn):List Nat :=
 if k=1 then(List.range ps.length).reverse
 else if k=2 then(x6 ((List.range ps.length).map λi=>((pAt ps i).2.1,i))).map Prod.snd
 else if k=3 then(x6 ((List.range ps.length).map λi=>((pAt ps i).1,i))).map Prod.snd
 else List.range ps.length
def bI (b:Bool):Int:=if b then 1 else 0
def order (k:Nat)(kp:Bool)(ps:List Pn):List Nat :=
 if kp then(x6 ((W2 k ps).map λi=>(bI (!(pAt ps i).2.2),i))).map Prod.snd else W2 k ps
def T3 (k:Nat)(ps:List Pn)(i j:Nat):Prop :=
 if k=1 then j<i else if k=2 then(pAt ps i).2.1<(pAt ps j).2.1\/((pAt ps i).2.1=(pAt ps j).2.1/\i<j)
 else if k=3 then(pAt ps i).1<(pAt ps j).1\/((pAt ps i).1=(pAt ps j).1/\i<j) else i<j
def D6 (k:Nat)(kp:Bool)(ps:List Pn)(i j:Nat):Prop :=
 if kp then(bI (!(pAt ps i).2.2)<bI (!(pAt ps j).2.2)\/(bI (!(pAt ps i).2.2)=bI (!(pAt ps j).2.2)/\T3 k ps i j)) else T3 k ps i j
theorem vE {T:Nat->Nat->Prop}{p:Int×Nat}(tr:∀a b c,T a b->T b c->T a c):∀{l:List (Int×Nat)},l.Pairwise (λa b=>a.1<b.1\/(a.1=b.1/\T a.2 b.2))->(∀q∈l,T p.2 q.2)->(V6 p l).Pairwise λa b=>a.1<b.1\/(a.1=b.1/\T a.2 b.2)
 | [],_,_=>by simp[V6]
 | q::r,h,hl=>by
  rw[MH]at h;rw[V6];split
  .rename_i hle;refine MH.2 ⟨λz hz=>?_,MH.2 h⟩;have hz':=hl z hz;have hle':p.1<=z.1:=by
    rcases Mi.1 hz with rfl | hz
    .exact hle
    .rcases h.1 z hz with e | e <;> omega
   rcases PR hle' with e | e
   .exact .inl e
   .exact .inr ⟨e,hz'⟩
  .rename_i hgt;refine MH.2 ⟨λz hz=>?_,vE tr h.2 λz hz=>hl z (Mc _ hz)⟩;rcases Mi.1 ((W6 p r).mem_iff.mp hz) with rfl | hz
   .exact .inl (by omega)
   .exact h.1 z hz
theorem mO {T:Nat->Nat->Prop}(tr:∀a b c,T a b->T b c->T a c):∀{l:List (Int×Nat)},l.Pairwise (λa b=>T a.2 b.2)->(x6 l).Pairwise λa b=>a.1<b.1\/(a.1=b.1/\T a.2 b.2)
 | [],_=>.nil
 | p::r,h=>by rw[MH]at h;exact vE tr (mO tr h.2) λq hq=>h.1 q ((A9 r).mem_iff.mp hq)
def gc {T:Nat->Nat->Prop}(tr:∀a b c,T a b->T b c->T a c)(g:Nat->Int){l:List Nat}(h:l.Pairwise T):((x6 (l.map λi=>(g i,i))).map Prod.snd).Pairwise λi j=>g i<g j\/(g i=g j/\T i j):=by
 have h1:(l.map λi=>(g i,i)).Pairwise (λa b=>T a.2 b.2):=by rw[NV];exact h
 have h2:=mO tr h1;rw[NV];refine h2.imp_of_mem λ{a b} ha hb hab=>?_
 have ea:a.1=g a.2:=by obtain⟨i,_,rfl⟩:=ML.1 ((A9 _).mem_iff.mp ha);rfl
 have eb:b.1=g b.2:=by obtain⟨i,_,rfl⟩:=ML.1 ((A9 _).mem_iff.mp hb);rfl
 rw[<-ea,<-eb];exact hab
def aI (g:Nat->Int)(l:List Nat):((x6 (l.map λi=>(g i,i))).map Prod.snd).Perm l:=by have:=(A9 (l.map λi=>(g i,i))).map Prod.snd;rw[Mq]at this;exact this.trans (.of_eq ((MO λi _=>rfl).trans (List.map_id _)))
def Q2 (n:Nat):(List.range n).Pairwise (· < ·):=by rw[NI];intro i j hi hj hij;simpa using hij
def U6 (k:Nat)(ps:List Pn):(W2 k ps).Perm (List.range ps.length):=by
 unfold W2;repeat' split
 .exact List.reverse_perm _
 .exact aI (λi=>(pAt ps i).2.1) _
 .exact aI (λi=>(pAt ps i).1) _
 .exact .refl _
def w8 (k:Nat)(kp:Bool)(ps:List Pn):(order k kp ps).Perm (List.range ps.length):=by
 unfold order;split
 .exact(aI (λi=>bI (!(pAt ps i).2.2)) _).trans (U6 k ps)
 .exact U6 k ps
def dh (k:Nat)(ps:List Pn):(W2 k ps).Pairwise (T3 k ps):=by
 unfold W2 T3;repeat' split
 .rw[List.pairwise_reverse];exact Q2 _
 .exact gc (T:=λa b=>a<b) (λa b c h1 h2=>Rr h1 h2) (λi=>(pAt ps i).2.1) (Q2 _)
 .exact gc (T:=λa b=>a<b) (λa b c h1 h2=>Rr h1 h2) (λi=>(pAt ps i).1) (Q2 _)
 .exact Q2 _
def lP {k:Nat}{ps:List Pn}(a b c:Nat)(h1:T3 k ps a b)(h2:T3 k ps b c):T3 k ps a c:=by
 unfold T3 at *;repeat' split
 all_goals simp_all
 all_goals omega
def fk {k:Nat}{ps:List Pn}(a b:Nat)(h1:T3 k ps a b)(h2:T3 k ps b a):False:=by
 unfold T3 at *;split at h1
 .simp_all;omega
 .split at h1
  .simp_all;omega
  .split at h1
   .simp_all;omega
   .simp_all;omega
def dA (k:Nat)(kp:Bool)(ps:List Pn):(order k kp ps).Pairwise (D6 k kp ps):=by
 unfold order D6;cases kp with
 | true =>simp only[Nk];exact gc lP (λi=>bI (!(pAt ps i).2.2)) (dh k ps)
 | false=>simpa using dh k ps
def dk {k:Nat}{kp:Bool}{ps:List Pn}(a b:Nat)(h1:D6 k kp ps a b)(h2:D6 k kp ps b a):False:=by
 unfold D6 at *;cases kp with
 | true =>simp only[Nk]at h1 h2;rcases h1 with h1 | ⟨e1,h1⟩ <;> rcases h2 with h2 | ⟨e2,h2⟩ <;> first | omega | exact fk a b h1 h2
 | false =>simp only[MT,Nf]at h1 h2;exact fk a b h1 h2
theorem nA {S:Nat->Nat->Prop}[DecidableRel S](as:∀a b,S a b->S b a->False):∀{L:List Nat} {h i:Nat},L.Pairwise S->L.Nodup->i∈L->(i∈L.take h↔(L.filter λj=>decide (j≠i/\S j i)).length<h)
 | [],h,i,_,_,hi=>by simp at hi
 | a::L,h,i,hp,hn,hi=>by
  rw[MH]at hp;rw[Ox]at hn;cases h with
  | zero=>simp
  | succ h =>
   rw[List.take_succ_cons,Mi];by_cases e:i=a
   .subst e;have z:(List.filter (λj=>decide (j≠i/\S j i)) (i::L))=[]:=by
     rw[List.filter_eq_nil_iff];intro j hj;simp only[NM];rintro ⟨h1,h2⟩;rcases Mi.1 hj with rfl | hj
     .exact h1 rfl
     .exact as _ _ (hp.1 j hj) h2
    rw[z];simp
   .have hi':i∈L:=(Mi.1 hi).resolve_left e;have c:decide (a≠i/\S a i)=true:=Mv ⟨λz=>e z.symm,hp.1 i hi'⟩;rw[OC (by simpa using c),Mf,nA as hp.2 hn.2 hi'];constructor
    .rintro (z | z)
     .exact absurd z e
     .omega
    .intro z;exact .inr (by omega)
def A0 (h k:Nat)(kp:Bool)(ps:List Pn):List Nat:=(List.range ps.length).filter λi=>decide (i∈(order k kp ps).take h)
def Q5 (n:Nat):(List.range n).Nodup:=by rw[OQ];exact(Q2 n).imp λh=>MC h
def aC (k:Nat)(kp:Bool)(ps:List Pn):(order k kp ps).Nodup:=(w8 k kp ps).nodup_iff.mpr (Q5 _)
def gj {l m:List Nat}(h1:l.Nodup)(h2:m.Nodup)(h:∀x,x∈l↔x∈m):l.Perm m:=(Rl h1 h2).2 h
def gA (h k:Nat)(kp:Bool)(ps:List Pn):(A0 h k kp ps).Perm ((order k kp ps).take h):=by
 refine gj ((Q5 _).sublist NK) ((aC k kp ps).sublist (List.take_sublist _ _)) λx=>?_
 unfold A0;rw[MN,NM];exact⟨λz=>z.2,λz=>⟨(w8 k kp ps).mem_iff.mp (OT z),z⟩⟩
def Z6 (h k:Nat)(kp:Bool)(ps:List Pn):(A0 h k kp ps).length=min h ps.length:=by rw[(gA h k kp ps).length_eq,MX,(w8 k kp ps).length_eq,MB]
def wu (h k:Nat)(kp:Bool)(ps:List Pn):(A0 h k kp ps).Pairwise (· < ·):=(Q2 _).sublist NK
def jQ (h k:Nat)(kp:Bool)(ps:List Pn):lO (((order k kp ps).take h).map Int.ofNat)=(A0 h k kp ps).map Int.ofNat:=by refine eO ((cb _).trans ((gA h k kp ps).map Int.ofNat).symm) (gN _) ?_;rw[NV];exact(wu h k kp ps).imp λ{a b} h=>by simp only[Int.ofNat_eq_natCast];omega
instance ahead_dec (k:Nat) (ps:List Pn):DecidableRel (T3 k ps):=λi j=>by unfold T3;infer_instance
instance sooner_dec (k:Nat) (kp:Bool) (ps:List Pn):DecidableRel (D6 k kp ps):=λi j=>by unfold D6;infer_instance
def aK (h k:Nat)(kp:Bool)(ps:List Pn):A0 h k kp ps=(List.range ps.length).filter λi=>decide (((List.range ps.length).filter λj=>decide (j≠i/\D6 k kp ps j i)).length<h):=by
 unfold A0;refine Qr λi hi=>?_
 have hm:=(w8 k kp ps).mem_iff.mpr hi;have e:=nA (S:=D6 k kp ps) dk (h:=h) (dA k kp ps) (aC k kp ps) hm;have e2:=((w8 k kp ps).filter λj=>decide (j≠i/\D6 k kp ps j i)).length_eq;rw[<-e2];exact OG.2 e
end L3
namespace L3
open PySem PySem.Spec PyProof.Rows L2
abbrev pnD (p:Pn):My:=.tuple [.int p.1,.int p.2.1,.bool p.2.2]
def t7 (l:List Nat):List My:=l.map λi:Nat=>My.int (i:Int)
def kOf:My->Nat
 | .str x=>if x = "last" \/ x = "lastoff" then 1 else if x = "short" \/ x = "shortoff" then 2 else if x = "front" \/ x = "frontoff" then 3 else 0
 | _=>0
def K4 (l:List Nat):(t7 l).length=l.length:=by simp[t7]
def we (l:List Nat):(t7 l).reverse=t7 l.reverse:=by simp[t7]
def pU (n:Nat):fw 0 n=t7 (List.range n):=by unfold fw t7;exact MO λi _=>by congr 1;omega
theorem jb:∀(l:List Int),(l.map My.int).mapM fC? = some l
 | []=>rfl
 | i::l=>by rw[Ma,Ob,jb l];rfl
theorem gx:∀(l:List Bool),(l.map My.bool).mapM vv? = some (l.map bI)
 | []=>rfl
 | i::l=>by rw[Ma,Ob,gx l];rfl
def ou (l:List Int):fq (l.map .int)=some l:=by unfold fq;rw[jb]
def mQ (l:List Bool):fq (l.map .bool)=some (l.map bI):=by
 unfold fq;cases l with
 | nil=>rfl
 | cons b l=>exact gx (b::l)
theorem Y7 {α β γ:Type}(f:α->β)(g:α->γ):∀l:List α,(l.map f).zip (l.map g)=l.map λx=>(f x,g x)
 | []=>rfl
 | x::l=>by rw[Ma,Ma,Pf,Y7 f g l];rfl
def ie (g:Nat->Int)(l:List Nat):((x6 ((l.map g).zip (t7 l))).map Prod.snd)=t7 ((x6 (l.map λi=>(g i,i))).map Prod.snd):=by
 have e:(l.map g).zip (t7 l)=(l.map λi=>(g i,i)).map λq=>(q.1,(λi:Nat=>My.int (i:Int)) q.2):=by rw[Mq];exact Y7 g _ l
 rw[e,Y5 (λi:Nat=>My.int (i:Int)),Mq];unfold t7;rw[Mq];rfl
section
variable [Fam]
def yF {r:My}(h:r∈W8):inD false r (.tuple [.str "last",.str "lastoff"])=some (.bool (decide (kOf r=1))):=by obtain⟨x,rfl,hx⟩:=R6 h;show(if SeqAt.shaped (.tuple [.str "last",.str "lastoff"])=true/\SeqAt.shaped (.str x)=true then _ else none)=_;rw[Mb ⟨by decide +kernel,hx⟩,Md (by decide)];simp only[Mi,Oo,QC,My.str.injEq]at h;rcases h with rfl | rfl | rfl | rfl | rfl | rfl | rfl | rfl <;> exact Nn (λb=>some (My.bool b)) (by decide +kernel)
def uP {r:My}(h:r∈W8):inD false r (.tuple [.str "short",.str "shortoff"])=some (.bool (decide (kOf r=2))):=by obtain⟨x,rfl,hx⟩:=R6 h;show(if SeqAt.shaped (.tuple [.str "short",.str "shortoff"])=true/\SeqAt.shaped (.str x)=true then _ else none)=_;rw[Mb ⟨by decide +kernel,hx⟩,Md (by decide)];simp only[Mi,Oo,QC,My.str.injEq]at h;rcases h with rfl | rfl | rfl | rfl | rfl | rfl | rfl | rfl <;> exact Nn (λb=>some (My.bool b)) (by decide +kernel)
def ub {r:My}(h:r∈W8):inD false r (.tuple [.str "front",.str "frontoff"])=some (.bool (decide (kOf r=3))):=by obtain⟨x,rfl,hx⟩:=R6 h;show(if SeqAt.shaped (.tuple [.str "front",.str "frontoff"])=true/\SeqAt.shaped (.str x)=true then _ else none)=_;rw[Mb ⟨by decide +kernel,hx⟩,Md (by decide)];simp only[Mi,Oo,QC,My.str.injEq]at h;rcases h with rfl | rfl | rfl | rfl | rfl | rfl | rfl | rfl <;> exact Nn (λb=>some (My.bool b)) (by decide +kernel)
end
def Aa {ps:List Pn}{i:Nat}(h:i<ps.length):atI (ps.map pnD) (i:Int)=some (pnD (pAt ps i)):=by refine jA ?_;rw[Mt,Ml h];unfold pAt;rw[MG,Ml h];rfl
section
variable [Fam]
def bo:List DV->M My:=B9 ["house","stand"] (mRt (sN sH (c7 (s2 ixD (sW 0) (sC (.int 0))) (c7 (sN T6 (c7 (sW 1) j6)) j6))))
def Gj:List DV->M My:=B9 ["rule","stand","places"] (mSq (x8 2 (jC (c7 (sN T6 (c7 (sW 1) j6)) j6)))
  (mSq (mIf (uB (s2 (inD false) (sW 0) (sC (.tuple [.str "last",.str "lastoff"])))) (mRt (s1 wD (sW 2))) mNx)
  (mSq (mIf (uB (s2 (inD false) (sW 0) (sC (.tuple [.str "short",.str "shortoff"])))) (mRt (sSK (c7 (sV 2) j6) [1] (s2 ixD (s2 ixD (sW 1) (sW 0)) (sC (.int 1))))) mNx)
  (mSq (mIf (uB (s2 (inD false) (sW 0) (sC (.tuple [.str "front",.str "frontoff"])))) (mRt (sSK (c7 (sV 2) j6) [1] (s2 ixD (s2 ixD (sW 1) (sW 0)) (sC (.int 0))))) mNx)
  (mRt (sV 2))))))
def GP:List DV->M My:=B9 ["house","stand","hands","places","rule","order"] (mSq (jz (w6 3 (d8 (bN 2) (d8 (bN 3) (d8 (bN 4) x3)))) (sV 0))
  (mSq (x8 5 (j8 Gj (vD (sV 4) (vD (sV 1) n9))))
  (mSq (mIf (uT (j8 cV (vD (sV 4) n9))) (x8 5 (sSK (c7 (sV 5) j6) [1] (xV (s2 ixD (s2 ixD (sW 1) (sW 0)) (sC (.int 2)))))) mNx)
  (mRt (sN K9 (c7 (sN cM (c7 (oO (sW 5) oNo (oI (sV 2))) j6)) j6))))))
theorem eT {me:DE->M My}{E0:DE}{g:Nat->My}:∀(l:List Nat) (F:FdS),(∀i∈l,me (some (.dat (.int (i:Int)))::E0) F=some (g i,F))->eU me E0 (t7 l) F=some (l.map g,F)
 | [],F,_=>rfl
 | d::ds,F,h=>by show(me (some (.dat (.int (d:Int)))::E0) F).bind _=_;rw[h d Me,MF];show(eU me E0 (t7 ds) F).bind _=_;rw[eT ds F λx hx=>h x (Mc _ hx)];rfl
variable {F:FdS}{Q:My->FdS->Prop}
def CU {ma:DE->M (List My)}{cap:List Nat}{me:DE->M My}{E:DE}(q:wp (ma E F) λxs F1=>∃ds kd ns,xs=[.list ds]/\ds.length<64/\eU me (cap.map λj=>(E[j]?).join) ds F1=some (kd,F1)/\fq kd=some ns/\Q (.list ((x6 (ns.zip ds)).map Prod.snd)) F1):wp (sSK ma cap me E F) Q:=by
 unfold sSK;rw[d5];refine p6 q λxs F1 ⟨ds,kd,ns,e,h64,e2,e3,q⟩=>?_
 subst e;dsimp only;rw[Mb h64,e2,MF,e3,MF];exact d9.2 q
def wM {ma:DE->M (List My)}{cap:List Nat}{me:DE->M My}{E:DE}{g:Nat->Int}(q:wp (ma E F) λxs F1=>∃l:List Nat,xs=[.list (t7 l)]/\l.length<64/\(∀i∈l,me (some (.dat (.int (i:Int)))::cap.map λj=>(E[j]?).join) F1=some (.int (g i),F1))/\Q (.list (t7 ((x6 (l.map λi=>(g i,i))).map Prod.snd))) F1):wp (sSK ma cap me E F) Q:=by refine CU (p6 q λxs F1 ⟨l,e,h1,h2,h3⟩=>⟨t7 l,l.map λi=>.int (g i),l.map g,e,by rw[K4];exact h1,eT l F1 h2,?_,by rw[ie];exact h3⟩);rw[<-ou (l.map g),Mq];rfl
def yB {ma:DE->M (List My)}{cap:List Nat}{me:DE->M My}{E:DE}{g:Nat->Bool}(q:wp (ma E F) λxs F1=>∃l:List Nat,xs=[.list (t7 l)]/\l.length<64/\(∀i∈l,me (some (.dat (.int (i:Int)))::cap.map λj=>(E[j]?).join) F1=some (.bool (g i),F1))/\Q (.list (t7 ((x6 (l.map λi=>(bI (g i),i))).map Prod.snd))) F1):wp (sSK ma cap me E F) Q:=by refine CU (p6 q λxs F1 ⟨l,e,h1,h2,h3⟩=>⟨t7 l,l.map λi=>.bool (g i),l.map λi=>bI (g i),e,by rw[K4];exact h1,eT l F1 h2,?_,by rw[ie λi=>bI (g i)];exact h3⟩);have:=mQ (l.map g);rw[Mq,Mq]at this;exact this
def zc {a:DE->M (List My)}{E:DE}(q:wp (a E F) λx F1=>oB (af x) λds=>ds.length<=1000/\Q (.list ds) F1):wp (jC a E F) Q:=by
 unfold jC;rw[d5];refine p6 q λx F1 ⟨ds,e,h1,q⟩=>?_
 rw[e,MF,Mb h1];exact d9.2 q
def ur {ps:List Pn}{i:Nat}{j:Int}(h:i<ps.length):s2 ixD (s2 ixD (sW 1) (sW 0)) (sC (.int j)) [some (.dat (.int (i:Int))),some (.dat (.tuple (ps.map pnD)))] F=(ixD (pnD (pAt ps i)) (.int j)).bind λz=>some (z,F):=by show(((atI (ps.map pnD) (i:Int)).bind λz=>some (z,F)).bind λp=>(ixD p.1 (.int j)).bind λz=>some (z,p.2))=_;rw[Aa h];rfl
def BR {ps:List Pn}{i:Nat}(h:i<ps.length):xV (s2 ixD (s2 ixD (sW 1) (sW 0)) (sC (.int 2))) [some (.dat (.int (i:Int))),some (.dat (.tuple (ps.map pnD)))] F=some (.bool (!(pAt ps i).2.2),F):=by unfold xV;rw[ur h];rfl
def xP {r:My}{ps:List Pn}(hr:r∈W8)(hl:ps.length<64)(q:Q (.list (t7 (W2 (kOf r) ps))) F):wp (Gj [.dat r,.dat (.tuple (ps.map pnD))] F) Q:=by
 unfold Gj;walk_at "go";refine zc ?_;refine c6.2 (D8.2 (c6.2 (j9.2 (h7.2 ?_))));refine d6 Y9 (h7.2 ?_);rw[LX];refine d6 (wI (by omega)) ⟨by rw[xE];omega,?_⟩;rw[pU];have hperm:∀i∈List.range ps.length,i<ps.length:=λi hi=>MW.1 hi
 walk_at "go";refine d6 (yF hr) ?_;unfold W2 at q;refine d6 rfl (R3 (λh=>?_) λh=>?_)
 .rw[Mb (MD h)]at q;walk_at "go";rw[we];exact q
 rw[Md (Nq h)]at q;walk_at "go";refine d6 (uP hr) ?_;refine d6 rfl (R3 (λh=>?_) λh=>?_)
 .rw[Mb (MD h)]at q;walk_at "go";refine wM (g:=λi=>(pAt ps i).2.1) ?_;walk_at "go";refine⟨_,rfl,by rw[MB];exact hl,λi hi=>?_,?_⟩
  .exact ur (hperm i hi)
  .walk_at "go";exact q
 rw[Md (Nq h)]at q;walk_at "go";refine d6 (ub hr) ?_;refine d6 rfl (R3 (λh=>?_) λh=>?_)
 .rw[Mb (MD h)]at q;walk_at "go";refine wM (g:=λi=>(pAt ps i).1) ?_;walk_at "go";refine⟨_,rfl,by rw[MB];exact hl,λi hi=>?_,?_⟩
  .exact ur (hperm i hi)
  .walk_at "go";exact q
 rw[Md (Nq h)]at q;walk_at "go";exact q
def gJ {α:Type}{l:List α}{h:Nat}:fx l none (some (h:Int))=l.take h:=by
 unfold fx;simp only[HT.sIx_none,HT.sIx_nat,List.drop_zero,Nat.sub_zero];by_cases hh:h<=l.length
 .rw[PH hh]
 .rw[QE (by omega),NA (by omega),NA (by omega)]
def rD (l:List Nat)(n:Nat):(t7 l).take n=t7 (l.take n):=by unfold t7;rw[List.map_take]
theorem gP:∀l:List Nat,O4 (t7 l)=some (l.map Int.ofNat)
 | []=>rfl
 | i::l=>by show O4 (.int (i:Int)::t7 l)=_;rw[O4,gP l];rfl
def wZ {r pl:My}{ps:List Pn}{h:Nat}(hr:r∈W8)(hl:ps.length<64)(q:Q (.tuple (t7 (A0 h (kOf r) (kb r) ps))) F):wp (GP [.dat (.tuple [.int h,pl,r]),.dat (.tuple (ps.map pnD))] F) Q:=by
 unfold GP;walk_at "go";refine xP hr hl ?_;have hlen:(W2 (kOf r) ps).length=ps.length:=by rw[(U6 (kOf r) ps).length_eq,MB]
 have hperm:∀i∈W2 (kOf r) ps,i<ps.length:=λi hi=>MW.1 ((U6 (kOf r) ps).mem_iff.mp hi)
 have hol:(order (kOf r) (kb r) ps).length=ps.length:=by rw[(w8 (kOf r) (kb r) ps).length_eq,MB]
 have fin:∀E:DE,E=[some (.dat (.tuple [.int h,pl,r])),some (.dat (.tuple (ps.map pnD))),some (.dat (.int h)),some (.dat pl),some (.dat r),some (.dat (.list (t7 (order (kOf r) (kb r) ps))))]->wp (mRt (sN K9 (c7 (sN cM (c7 (oO (sW 5) oNo (oI (sV 2))) j6)) j6)) E F) (lH Q):=by
  rintro E rfl;refine y9.2 (D8.2 (c6.2 (D8.2 (c6.2 (ue.2 (j9.2 (l5 rfl (vV.2 (Bl.2 (j4.2 (j3 rfl (d6 En (d6 Cn (h7.2 ?_))))))))))))));rw[gJ,rD];have e:cM [.list (t7 ((order (kOf r) (kb r) ps).take h))]=some (.list (t7 (A0 h (kOf r) (kb r) ps))):=by simp only[cM,gP];rw[Mb (by rw[LX,MX,hol];omega),jQ,Mq];rfl
  refine d6 e (h7.2 (d6 eQ ?_));exact q
 refine⟨j5 rfl,l0 (m5.2 (V3.2 (xF.2 (i9.2 ?_))))⟩;walk_at "go";refine pV hr ?_;refine d6 rfl (R3 (λe=>?_) λe=>?_)
 .refine r6.2 (yB (g:=λi=>!(pAt ps i).2.2) ?_);walk_at "go";refine⟨_,rfl,by rw[hlen];exact hl,λi hi=>?_,j5 rfl,?_⟩
  .exact BR (hperm i hi)
  .refine fin _ ?_;unfold order;rw[Mb e];rfl
 .refine bO.2 (l0 ?_);refine fin _ ?_;unfold order;rw[Md (by rw[e];simp)];rfl
def AJ {r pl:My}{ps:List Pn}{h:Nat}(q:Q (.int (min h ps.length:Nat)) F):wp (bo [.dat (.tuple [.int h,pl,r]),.dat (.tuple (ps.map pnD))] F) Q:=by
 unfold bo;walk_at "go";rw[LX];have e:(if (ps.length:Int)<(h:Int) then(ps.length:Int) else(h:Int))=((min h ps.length:Nat):Int):=by split <;> omega
 rw[e];exact q
end
variable [Fam]
section
variable {F:FdS}{Q:My->FdS->Prop}
def xm {l:List Nat}{i:Nat}{d:My}(h:(t7 l)[i]? = some d):∃k,l[i]? = some k/\d = .int (k:Int):=by unfold t7 at h;rw[Mt]at h;obtain⟨k,e,rfl⟩:=Ms.1 h;exact⟨k,e,rfl⟩
end
variable [Fam]
def EF {i:Int}{n:Nat}(h0:-100000<=i)(h1:i<=100000):Gd n 1 0 (.int i):=pO (rX (by omega))
def fJ {l:List Nat}(h:∀i∈l,i<=1000):Gd 0 (1+l.length) 1 (.tuple (t7 l)):=by
 refine Gd.tup (M:=1) (λx hx=>?_) ?_
 .obtain⟨p,hp,rfl⟩:=ML.1 hx;have:=h p hp;exact EF (by omega) (by omega)
 .have:=gb (c:=1) (ds:=t7 l) λd hd=>by obtain⟨p,hp,rfl⟩:=ML.1 hd;simp[cnt]
  rw[K4]at this;omega
def lL {h k:Nat}{ps:List Pn}(hp:∀p∈ps,p.2.2=false):A0 h k true ps=A0 h k false ps:=by
 have hb:∀i,(pAt ps i).2.2=false:=λi=>by
  unfold pAt;rw[MG];cases e:ps[i]? with
  | none=>rfl
  | some p=>exact hp p (MU e)
 rw[aK,aK];have e:∀i j,D6 k true ps i j↔D6 k false ps i j:=λi j=>by unfold D6;simp[hb i,hb j]
 refine Qr λi _=>?_
 rw[OG];have:((List.range ps.length).filter λj=>decide (j≠i/\D6 k true ps j i))=(List.range ps.length).filter λj=>decide (j≠i/\D6 k false ps j i):=Qr λj _=>by rw[OG,e]
 rw[this]
end L3
namespace L3
open L2
section
def fe (kp:Bool)(p:Pn):Pn:=(p.1,p.2.1-1,kp)
def kj (P:List Nat)(ps:List Pn)(i:Nat):Bool:=decide (i∈P)&&decide ((pAt ps i).2.1<=1)
def W5 (P:List Nat)(kp:Bool)(ps:List Pn)(i:Nat):Pn:=if i∈P then fe kp (pAt ps i) else pAt ps i
def ai (P:List Nat)(ps:List Pn):List Nat:=(List.range ps.length).filter λi=>!decide (i∈P)
def M8 (P:List Nat)(ps:List Pn):List Nat:=P.filter λi=>!decide ((pAt ps i).2.1<=1)
def P6 (P:List Nat)(ps:List Pn):List Nat:=P.filter λi=>decide ((pAt ps i).2.1<=1)
def U3 (tn:Bool)(P:List Nat)(ps:List Pn):List Nat:=if tn then ai P ps++M8 P ps else(List.range ps.length).filter λi=>!kj P ps i
theorem bQ {α:Type}{R:α->α->Prop}(as:∀a b,R a b->R b a->False):∀{l₁ l₂:List α},l₁.Perm l₂->l₁.Pairwise R->l₂.Pairwise R->l₁=l₂
 | [],l₂,p,_,_=>p.nil_eq
 | a::r,[],p,_,_=>by have:=p.length_eq;simp at this
 | a::r,b::t,p,h1,h2=>by
  rw[MH]at h1 h2;have ab:a=b:=by
   rcases Mi.1 (p.mem_iff.1 (Me (a:=a) (l:=r))) with e | e
   .exact e
   .rcases Mi.1 (p.mem_iff.2 (Me (a:=b) (l:=t))) with e2 | e2
    .exact e2.symm
    .exact(as _ _ (h2.1 a e) (h1.1 b e2)).elim
  subst ab;rw[bQ as (p.cons_inv) h1.2 h2.2]
theorem mI {α:Type}{p:Int × α}:∀{l:List (Int × α)},l.Pairwise (λa b=>a.1<b.1)->(∀q∈l,p.1≠q.1)->(V6 p l).Pairwise λa b=>a.1<b.1
 | [],_,_=>by simp[V6]
 | q::r,h,hl=>by
  rw[MH]at h;rw[V6];split
  .rename_i hle;have hq:=hl q Me;refine MH.2 ⟨λz hz=>?_,MH.2 h⟩;rcases Mi.1 hz with rfl | hz
   .omega
   .have:=h.1 z hz;omega
  .rename_i hgt;refine MH.2 ⟨λz hz=>?_,mI h.2 λz hz=>hl z (Mc _ hz)⟩;rcases Mi.1 ((W6 p r).mem_iff.mp hz) with rfl | hz
   .omega
   .exact h.1 z hz
theorem gq {α:Type}:∀{l:List (Int × α)},(l.map Prod.fst).Nodup->(x6 l).Pairwise λa b=>a.1<b.1
 | [],_=>.nil
 | p::r,h=>by rw[Ma,Ox]at h;exact mI (gq h.2) λq hq e=>h.1 (e▸NW ((A9 r).mem_iff.mp hq))
def rn {α:Type}{l m:List (Int × α)}(hp:m.Perm l)(hs:m.Pairwise λa b=>a.1<b.1):x6 l=m:=by
 have nd:(l.map Prod.fst).Nodup:=by refine(hp.map Prod.fst).nodup_iff.mp ?_;rw[OQ,NV];exact hs.imp λh=>by omega
 exact bQ (R:=λa b:Int × α=>a.1<b.1) (λa b h1 h2=>by omega) ((A9 l).trans hp.symm) (gq nd) hs
def jt {h k:Nat}{kp:Bool}{ps:List Pn}:∀i∈A0 h k kp ps,i<ps.length:=λi hi=>MW.1 (MN.1 hi).1
def eY {h k:Nat}{kp:Bool}{ps:List Pn}:(A0 h k kp ps).Nodup:=(Q5 _).sublist NK
def eK {P:List Nat}{ps:List Pn}(hs:∀i∈P,i<ps.length)(hn:P.Nodup):(ai P ps++M8 P ps).Perm (U3 false P ps):=by
 unfold U3;rw[Md (by simp)];refine gj ?_ ((Q5 _).sublist NK) λx=>?_
 .rw[List.nodup_append];refine⟨(Q5 _).sublist NK,hn.sublist NK,λa ha b hb e=>?_⟩;subst e;have h1:=(MN.1 ha).2;have h2:=(MN.1 hb).1;simp[h2]at h1
 .unfold ai M8 kj;simp only[NO,MN,MW,Bool.not_eq_true',decide_eq_false_iff_not,Bool.and_eq_false_iff];constructor
  .rintro (⟨h1,h2⟩ | ⟨h1,h2⟩)
   .exact⟨h1,.inl h2⟩
   .exact⟨hs x h1,.inr h2⟩
  .rintro ⟨h1,h2⟩;by_cases hx:x∈P
   .exact .inr ⟨hx,h2.resolve_left λz=>z hx⟩
   .exact .inl ⟨h1,hx⟩
def xG (P:List Nat)(ps:List Pn):(U3 false P ps).Pairwise (· < ·):=by unfold U3;rw[Md (by simp)];exact(Q2 _).sublist NK
def vQ {tn:Bool}{P:List Nat}{ps:List Pn}(hs:∀i∈P,i<ps.length)(hn:P.Nodup):(U3 tn P ps).Perm (U3 false P ps):=by
 cases tn with
 | false=>exact .refl _
 | true =>have:=eK hs hn;unfold U3 at this ⊢;simpa using this
def after (h k:Nat)(kp tn:Bool)(ps:List Pn):List Pn:=(U3 tn (A0 h k kp ps) ps).map (W5 (A0 h k kp ps) kp ps)
def K1 (pl:Option Nat)(n m:Nat):Nat:=match pl with
 | some v=>min m (v-n)
 | none=>m
def v5 (pl:Option Nat)(ps:List Pn)(bt:List (Int×Int)):List Pn:=ps++(bt.take (K1 pl ps.length bt.length)).map λc=>(c.1,c.2,false)
def gS (pl:Option Nat)(ps:List Pn)(bt:List (Int×Int)):(v5 pl ps bt).length=ps.length+K1 pl ps.length bt.length:=by unfold v5;rw[MS,LX,MX];unfold K1;split <;> omega
end
section
def dP {α β:Type}(d:α)(f:α->β):∀l:List α,(List.range l.length).map (λi=>f (l.getD i d))=l.map f:=λl=>by
 apply List.ext_getElem
 .simp
 .intro i h1 h2;simp only[LX,MB]at h1;simp[h1]
abbrev Bt:=List (Int×Int)
end
section
end
section
end
section
section
variable {h c:Nat}{rk L w:Nat->Int}
end
end
end L3
namespace L3
open PySem PySem.Spec PyProof.Rows L2
variable {bt:List (Int×Int)}
section
variable [Fam]
abbrev cmD (c:Int×Int):My:=.tuple [.int c.1,.int c.2]
def plD:Option Nat->My
 | some v=>.int (v:Int)
 | none=>.none
def aN :List DV->M My:=B9 ["house","stand","beat","places","room","entered"] (mSq (x8 3 (s2 ixD (sW 0) (sC (.int 1))))
  (mSq (x8 4 (sIf (uB (s2 (isD false) (sW 3) (sC .none))) (sN T6 (c7 (sW 2) j6)) (s2 cw (sW 3) (sN T6 (c7 (sW 1) j6)))))
  (mSq (x8 5 (sLC (C6 (oO (sW 2) oNo (oI (sV 4)))) 2 [] (w6 2 (d8 (bN 0) (d8 (bN 1) x3))) A6 (E8 (c7 (sV 0) (c7 (sV 1) (c7 (sC (.bool false)) j6))))))
  (mRt (E8 (c7 (s2 N4 (sW 1) (sN K9 (c7 (sW 5) j6))) (c7 (s2 cw (sN T6 (c7 (sW 2) j6)) (sN T6 (c7 (sW 5) j6))) j6)))))))
def cW :List DV->M My:=B9 ["house","stand","rule","hands_on","waiting","served","gone","place","rank","left","begun","staying"] (mSq (x8 2 (s2 ixD (sW 0) (sC (.int 2))))
  (mSq (x8 3 (j8 GP (vD (sV 0) (vD (sV 1) n9))))
  (mSq (x8 4 (sLC (jl (sW 1)) 2 [3] (w6 2 (d8 (bN 0) (d8 (bN 1) x3))) (uB (s2 (inD true) (sW 0) (sW 2))) (E8 (c7 (sV 0) (c7 (sV 1) j6)))))
  (mSq (qN 5 6 (cO (iq j6)) (cO (iq j6)))
  (mSq (X2 (C6 (sV 3)) (bN 7) (mSq (jz (w6 3 (d8 (bN 8) (d8 (bN 9) (d8 (bN 10) x3)))) (s2 ixD (sW 1) (sW 7)))
  (mIf (uB (s2 gtD (sW 9) (sC (.int 1)))) (ax 5 (E8 (c7 (sV 7) (c7 (E8 (c7 (sV 8) (c7 (s2 cw (sW 9) (sC (.int 1))) (c7 (j8 cV (vD (sV 2) n9)) j6)))) j6)))) (ax 6 (sV 7)))))
  (mSq (x8 11 (sIf (uB (s2 (eqD false) (sW 2) (sC (.str "turns")))) (s2 N4 (sW 4) (sW 5)) (sN cM (c7 (s2 N4 (sW 4) (sW 5)) j6))))
  (mRt (E8 (c7 (sV 11) (c7 (sV 3) (c7 (sN K9 (c7 (sW 6) j6)) j6)))))))))))
def jW :List DV->M My:=B9 ["house","stand","beat","filled","lost","staying","hands_on","gone"] (mSq (jz (w6 2 (d8 (bN 3) (d8 (bN 4) x3))) (j8 aN (vD (sV 0) (vD (sV 1) (vD (sV 2) n9)))))
  (mSq (jz (w6 3 (d8 (bN 5) (d8 (bN 6) (d8 (bN 7) x3)))) (j8 cW (vD (sV 0) (vD (sV 3) n9))))
  (mRt (E8 (c7 (sN K9 (c7 (sLC (C6 (sW 5)) 2 [] (w6 2 (d8 (bN 0) (d8 (bN 1) x3))) A6 (sV 1)) j6)) (c7 (sV 4) (c7 (sV 7) j6)))))))
abbrev b2 :My->DE->Option DE:=w6 2 (d8 (bN 0) (d8 (bN 1) x3))
section
variable {F:FdS}
theorem rB {me:DE->M My}{α:Type}{x y:α->My}{f:α->My}{rest:DE}{Q:List My->FdS->Prop}:∀(ds:List α) (o o':Option DV),(∀d∈ds,∀(F:FdS) (Q:My->FdS->Prop),Q (f d) F->wp (me (some (.dat (x d))::some (.dat (y d))::rest) F) Q)->Q (ds.map f) F->wp (P8 b2 A6 me (ds.map λd=>.tuple [x d,y d]) (o::o'::rest) F) Q
 | [],o,o',_,q=>d9.2 q
 | d::ds,o,o',h,q=>by rw[Ma,P8];have e:b2 (.tuple [x d,y d]) (o::o'::rest)=some (some (.dat (x d))::some (.dat (y d))::rest):=rfl;rw[e,MF,d5];refine Z5.2 ?_;rw[Mb rfl,d5];refine h d Me F _ ?_;rw[d5];exact rB ds _ _ (λd hd=>h d (Mc _ hd)) (d9.2 q)
def AM {mt:DE->M Bool}{me:DE->M My}{α:Type}{x y:α->My}{g:α->Bool}{f:α->My}{rest:DE}{Q:List My->FdS->Prop}:∀(ds:List α) (o o':Option DV),(∀d∈ds,∀(F:FdS) (Q:Bool->FdS->Prop),Q (g d) F->wp (mt (some (.dat (x d))::some (.dat (y d))::rest) F) Q) ->
  (∀d∈ds,g d=true->∀(F:FdS) (Q:My->FdS->Prop),Q (f d) F->wp (me (some (.dat (x d))::some (.dat (y d))::rest) F) Q)->Q ((ds.filter g).map f) F->wp (P8 b2 mt me (ds.map λd=>.tuple [x d,y d]) (o::o'::rest) F) Q
 | [],o,o',_,_,q=>d9.2 q
 | d::ds,o,o',ht,h,q=>by
  rw[Ma,P8];have e:b2 (.tuple [x d,y d]) (o::o'::rest)=some (some (.dat (x d))::some (.dat (y d))::rest):=rfl;rw[e,MF,d5];refine ht d Me F _ ?_;cases c:g d with
  | false =>rw[Pa (by rw[c];simp)]at q;rw[Md (by simp)];exact AM ds _ _ (λd hd=>ht d (Mc _ hd)) (λd hd=>h d (Mc _ hd)) q
  | true =>rw[OC c,Ma]at q;rw[Mb rfl,d5];refine h d Me c F _ ?_;rw[d5];exact AM ds _ _ (λd hd=>ht d (Mc _ hd)) (λd hd=>h d (Mc _ hd)) (d9.2 q)
def tJ {ps:List Pn}:R0 0 (ps.map pnD)=(List.range ps.length).map λi=>.tuple [.int (i:Int),pnD (pAt ps i)]:=by
 have key:∀(l:List My) (k:Nat),R0 k l=(List.range l.length).map λi=>.tuple [.int ((k+i:Nat):Int),l.getD i .none]:=by
  walk_at "kl"
 rw[key,LX];refine MO λi hi=>?_
 have hi:=MW.1 hi;rw[MM,MG,Mt,Ml hi];unfold pAt;rw[MG,Ml hi];rfl
def hU {a b:Int}:(My.int a).eqv (.int b)=decide (a=b):=by simp only[My.eqv];exact Bool.beq_eq_decide_eq ..
def rE {l:List Nat}{i:Nat}(hl:∀j∈l,j<=1000):inD true (.int (i:Int)) (.tuple (t7 l))=some (.bool (!decide (i∈l))):=by
 have hs:SeqAt.shaped (.tuple (t7 l))=true:=(fJ hl).shaped (by decide) (by decide);have hi:SeqAt.shaped (.int (i:Int))=true:=by simp[SeqAt.shaped,My.canLay0,My.depth]
 show(if SeqAt.shaped (.tuple (t7 l))=true/\SeqAt.shaped (.int (i:Int))=true then _ else none)=_;rw[Mb ⟨hs,hi⟩,Mb rfl];refine Nn (λb=>some (My.bool (!b))) ?_;unfold t7;rw[List.any_map];have e:(l.any ((λy=>y.eqv (.int (i:Int))) ∘ λj:Nat=>My.int (j:Int)))=l.any λj=>decide (j=i):=by congr 1;funext j;simp only[Function.comp,hU];rw[OG];omega
 rw[e];induction l with
 | nil=>simp
 | cons a l ih =>
  rw[Rh,ih λj hj=>hl j (Mc _ hj)]
  .by_cases h:a=i
   .simp[h]
   .have:¬i=a:=λz=>h z.symm
    simp[h,this]
  .exact(fJ λj hj=>hl j (Mc _ hj)).shaped (by decide) (by decide)
  .congr 1;funext j;simp only[Function.comp,hU];rw[OG];omega
end
section
variable {F:FdS}{Q:My->FdS->Prop}
def ag (pl:Option Nat)(n:Nat):Prop:=∀v,pl=some v->n<=v
def Ap (pl:Option Nat)(n m:Nat):Int:=match pl with
 | some v=>(v:Int)-(n:Int)
 | none=>(m:Int)
def ve {pl:Option Nat}{n:Nat}{bt:List My}(hp:ag pl n):fx bt none (some (Ap pl n bt.length))=bt.take (K1 pl n bt.length):=by
 cases pl with
 | none =>show fx bt none (some ((bt.length:Nat):Int))=_;rw[gJ];rfl
 | some v =>
  have:=hp v rfl;show fx bt none (some ((v:Int)-(n:Int)))=bt.take (min bt.length (v-n));have e:(v:Int)-(n:Int)=((v-n:Nat):Int):=by omega
  rw[e,gJ];by_cases hh:v-n<=bt.length
  .rw[QE hh]
  .rw[PH (by omega),NA (by omega),NA (by omega)]
def du {h r:My}{pl:Option Nat}{ps:List Pn}(hp:ag pl ps.length)(hl:ps.length+bt.length<=1000)(q:Q (.tuple [.tuple ((v5 pl ps bt).map pnD),.int ((bt.length-K1 pl ps.length bt.length:Nat):Int)]) F) :
  wp (aN [.dat (.tuple [h,plD pl,r]),.dat (.tuple (ps.map pnD)),.dat (.tuple (bt.map cmD))] F) Q:=by
 have rle:K1 pl ps.length bt.length<=bt.length:=by unfold K1;split <;> omega
 have fin:∀(E:DE) (room:Int) (a5:Option DV),room=Ap pl ps.length bt.length->E=[some (.dat (.tuple [h,plD pl,r])),some (.dat (.tuple (ps.map pnD))),some (.dat (.tuple (bt.map cmD))),some (.dat (plD pl)),some (.dat (.int room)),a5] ->
   wp (mSq (x8 5 (sLC (C6 (oO (sW 2) oNo (oI (sV 4)))) 2 [] (w6 2 (d8 (bN 0) (d8 (bN 1) x3))) A6 (E8 (c7 (sV 0) (c7 (sV 1) (c7 (sC (.bool false)) j6))))))
    (mRt (E8 (c7 (s2 N4 (sW 1) (sN K9 (c7 (sW 5) j6))) (c7 (s2 cw (sN T6 (c7 (sW 2) j6)) (sN T6 (c7 (sW 5) j6))) j6)))) E F) (lH Q):=by
  rintro E room a5 hroom rfl;have ec:fx (bt.map cmD) none (some room)=(bt.take (K1 pl ps.length bt.length)).map cmD:=by have:=ve (bt:=bt.map cmD) hp;rw[LX]at this;rw[hroom,this,List.map_take]
  refine m5.2 (r6.2 (N0.2 (B1.2 (ue.2 (j9.2 (l5 rfl (vV.2 (Bl.2 (j4.2 (j3 rfl (d6 En (d6 Cc (d6 Q7 ?_)))))))))))));rw[ec];refine⟨sz (by rw[LX,MX];omega),?_⟩;refine rB (x:=λc:Int×Int=>.int c.1) (y:=λc=>.int c.2) (f:=λc=>pnD (c.1,c.2,false)) _ _ _ (λc hc F Q q=>?_) ?_
  .walk_at "go";exact q
  .refine⟨j5 rfl,l0 ?_⟩;refine y9.2 (D4.2 (c6.2 (l9.2 (j9.2 (l5 rfl (D8.2 (c6.2 (j9.2 (l5 rfl (h7.2 (d6 eQ (d6 (Dh ?_) (c6.2 (l9.2 (D8.2 (c6.2 (j9.2 (l5 rfl (h7.2 (d6 Y9 (D8.2 (c6.2 (j9.2 (l5 rfl (h7.2 (d6 bX (d6 W1 (h7.2 ⟨y4 rfl,?_⟩))))))))))))))))))))))))))))
   .rw[LX,LX,MX];omega
   .have e1:ps.map pnD++(bt.take (K1 pl ps.length bt.length)).map (λc=>pnD (c.1,c.2,false))=(v5 pl ps bt).map pnD:=by unfold v5;rw[Nt,Mq];rfl
    have e2:((List.map cmD bt).length:Int)-((List.map (λc:Int×Int=>pnD (c.1,c.2,false)) (bt.take (K1 pl ps.length bt.length))).length:Int)=((bt.length-K1 pl ps.length bt.length:Nat):Int):=by rw[LX,LX,MX];omega
    rw[e1,e2];exact q
 unfold aN;refine C2.2 (m5.2 (r6.2 (l9.2 (j9.2 (l5 rfl (m9.2 (d6 rfl ⟨j5 rfl,l0 (m5.2 (r6.2 (vm.2 (ak.2 (l9.2 (j9.2 (l5 rfl (m9.2 (d6 rfl (d6 rfl ?_))))))))))⟩)))))));cases pl with
 | none =>refine G6 rfl ?_;refine D8.2 (c6.2 (j9.2 (l5 rfl (h7.2 (d6 Y9 ⟨j5 rfl,l0 ?_⟩)))));rw[LX];exact fin _ _ none rfl rfl
 | some v =>refine u9 rfl ?_;refine l9.2 (j9.2 (l5 rfl (D8.2 (c6.2 (j9.2 (l5 rfl (h7.2 (d6 Y9 (d6 W1 ⟨j5 rfl,l0 ?_⟩)))))))));rw[LX];exact fin _ _ none rfl rfl
end
variable [Fam]
def tnB:My->Bool
 | .str x=>decide (x = "turns")
 | _=>false
abbrev prD (q:Nat×Pn):My:=.tuple [.int (q.1:Int),pnD q.2]
def nh {r:My}(h:r∈W8):eqD false r (.str "turns")=some (.bool (tnB r)):=by obtain⟨x,rfl,hx⟩:=R6 h;show some (My.bool (if false=true then !decide (x = "turns") else decide (x = "turns")))=_;rw[Md (by decide)];rfl
def Br {c1 c2:DE->M DV}{E:DE}{F:FdS}{i j:Nat}{Q:Out->FdS->Prop}(h:wp (c1 E F) λx F1=>wp (c2 E F1) λy F2=>(i<E.length/\j<E.length)/\Q (.nx ((E.set i (some x)).set j (some y))) F2):wp (qN i j c1 c2 E F) Q:=by
 unfold qN;rw[d5];refine p6 h λx F1 h1=>?_
 rw[d5];refine p6 h1 λy F2 h2=>?_
 rw[Mb h2.1];exact d9.2 h2.2
def Dm {m:DE->M (List My)}{E:DE}{F:FdS}{Q:DV->FdS->Prop}(h:wp (m E F) λx F1=>Q (.own x) F1):wp (cO m E F) Q:=by unfold cO;rw[d5];exact p6 h λx F1 h1=>d9.2 h1
theorem gR:∀l:List (Nat×Pn),(l.map prD).mapM lB=some (l.map λq=>(q.1:Int))
 | []=>rfl
 | q::l=>by rw[Ma,Ob,gR l];rfl
def tj {l:List (Nat×Pn)}(h:l≠[]):O4 (l.map prD)=none:=by
 cases l with
 | nil=>exact absurd rfl h
 | cons q l=>rfl
def ze {l m:List (Nat×Pn)}(hp:m.Perm l)(hs:m.Pairwise λa b=>a.1<b.1)(h64:l.length<64):cM [.list (l.map prD)]=some (.list (m.map prD)):=by
 by_cases hl:l=[]
 .subst hl;have:=hp.symm.nil_eq;subst this;rfl
 .have nd:(l.map λq=>(q.1:Int)).Nodup:=by refine(hp.map λq=>(q.1:Int)).nodup_iff.mp ?_;rw[OQ,NV];exact hs.imp λh=>by omega
  simp only[cM,tj hl,gR,MF];rw[Mb ⟨nd,by rw[LX];exact h64⟩];have e:(l.map λq=>(q.1:Int)).zip (l.map prD)=l.map λq=>((q.1:Int),prD q):=Y7 _ _ l
  rw[e,rn (l:=l.map λq=>((q.1:Int),prD q)) (m:=m.map λq=>((q.1:Int),prD q)) (hp.map _) (by rw[NV];exact hs.imp λh=>by show(_:Int)<_;omega),Mq];rfl
section
variable {F:FdS}{Q:My->FdS->Prop}
def xq {r:My}{pl:My}{ps:List Pn}{h:Nat}(hr:r∈W8)(hl:ps.length<64)
  (q:Q (.tuple [.list ((U3 (tnB r) (A0 h (kOf r) (kb r) ps) ps).map λi=>prD (i,W5 (A0 h (kOf r) (kb r) ps) (kb r) ps i)),.tuple (t7 (A0 h (kOf r) (kb r) ps)),.tuple (t7 (P6 (A0 h (kOf r) (kb r) ps) ps))]) F) :
  wp (cW [.dat (.tuple [.int (h:Int),pl,r]),.dat (.tuple (ps.map pnD))] F) Q:=by
 have hsub:=jt (h:=h) (k:=kOf r) (kp:=kb r) (ps:=ps);have hnd:=eY (h:=h) (k:=kOf r) (kp:=kb r) (ps:=ps);have hplen:(A0 h (kOf r) (kb r) ps).length<=ps.length:=by rw[Z6];omega
 unfold cW;walk_at "go";refine wZ hr hl ?_;generalize A0 h (kOf r) (kb r) ps=P at q hsub hnd hplen;refine⟨j5 rfl,l0 (m5.2 (r6.2 (N0.2 (xg (j9.2 (l5 rfl (d6 Q7 ?_)))))))⟩;rw[tJ];refine⟨sz (by rw[LX,MB];omega),?_⟩;refine AM (x:=λi:Nat=>.int (i:Int)) (y:=λi=>pnD (pAt ps i)) (g:=λi=>!decide (i∈P)) (f:=λi=>prD (i,pAt ps i)) _ _ _ (λi hi F Q q=>?_) (λi hi _ F Q q=>?_) ?_
 .walk_at "go";refine d6 (rE λj hj=>by have:=hsub j hj;omega) ?_;exact d6 rfl q
 .walk_at "go";exact q
 have ew:((List.range ps.length).filter λi=>!decide (i∈P))=ai P ps:=rfl;rw[ew];refine⟨j5 rfl,l0 (m5.2 (Br (Dm (ay.2 (h7.2 ⟨sz (by decide),Dm (ay.2 (h7.2 ⟨sz (by decide),⟨j5 rfl,j5 rfl⟩,l0 (m5.2 (L1.2 (B1.2 (j4.2 (j3 rfl (d6 Q7 ?_))))))⟩))⟩)))))⟩;refine D9 (λm E F'=>F'=F/\∃o7 o8 o9 o10 o11,E=[some (.dat (.tuple [.int (h:Int),pl,r])),some (.dat (.tuple (ps.map pnD))),some (.dat r),some (.dat (.tuple (t7 P))),some (.dat (.list ((ai P ps).map λi=>prD (i,pAt ps i)))),some (.own ((M8 (P.take m) ps).map λi=>prD (i,fe (kb r) (pAt ps i)))),some (.own (t7 (P6 (P.take m) ps))),o7,o8,o9,o10,o11]) _ 0 _ F ⟨rfl,none,none,none,none,none,rfl⟩ ?_ ?_
 .rintro m d e E F1 ⟨rfl,o7,o8,o9,o10,o11,rfl⟩;obtain⟨i,ei,rfl⟩:=xm e;have hi:=hsub i (MU ei);have et:P.take (0+m+1)=P.take (0+m)++[i]:=by rw[MM,NU,ei];rfl
  refine⟨_,rfl,?_⟩;refine m5.2 (kl.2 (l9.2 (j9.2 (l5 rfl (j9.2 (l5 rfl (d6 (Aa hi) (d6 rfl (l0 ?_)))))))));refine V3.2 (ak.2 (l9.2 (j9.2 (l5 rfl (m9.2 (d6 vS (d6 rfl (R3 (λhc=>?_) λhc=>?_))))))))
  .have hc:1<(pAt ps i).2.1:=MD hc;have e1:M8 (P.take (0+m+1)) ps=M8 (P.take (0+m)) ps++[i]:=by unfold M8;rw[et,Ph,OC (by simp;omega),QS]
   have e2:P6 (P.take (0+m+1)) ps=P6 (P.take (0+m)) ps:=by unfold P6;rw[et,Ph,Pa (by simp;omega),QS,NC]
   refine dH rfl (by have:=NF (λi=>!decide ((pAt ps i).2.1<=1)) (P.take (0+m));have h2:=MX (i:=0+m) (l:=P);rw[LX];unfold M8;omega) ?_
   refine D4.2 (c6.2 (j4.2 (j3 rfl (c6.2 (D4.2 (c6.2 (j4.2 (j3 rfl (c6.2 (l9.2 (j9.2 (l5 rfl (m9.2 (d6 W1 (c6.2 (i9.2 (l7.2 (j4.2 (j3 rfl (l4.2 ?_))))))))))))))))))));refine pV hr (h7.2 ⟨y4 rfl,h7.2 ⟨y4 rfl,?_⟩⟩);exact⟨_,rfl,rfl,_,_,_,_,_,by rw[e1,e2,Nt];rfl⟩
  .have hc:¬1<(pAt ps i).2.1:=Nq hc;have e1:M8 (P.take (0+m+1)) ps=M8 (P.take (0+m)) ps:=by unfold M8;rw[et,Ph,Pa (by simp;omega),QS,NC]
   have e2:t7 (P6 (P.take (0+m+1)) ps)=t7 (P6 (P.take (0+m)) ps)++[.int (i:Int)]:=by unfold P6;rw[et,Ph,OC (by simp;omega),QS];simp only[t7,Nt,Ma,MI]
   refine dH rfl (by have:=NF (λi=>decide ((pAt ps i).2.1<=1)) (P.take (0+m));have h2:=MX (i:=0+m) (l:=P);rw[K4];unfold P6;omega) (j4.2 (j3 rfl ?_))
   exact⟨_,rfl,rfl,_,_,_,_,_,by rw[e1,e2];rfl⟩
 .rintro E F1 ⟨rfl,o7,o8,o9,o10,o11,rfl⟩;rw[K4,MM,OH];have lw:(ai P ps).length<=ps.length:=by have:=NF (λi=>!decide (i∈P)) (List.range ps.length);rw[MB]at this;exact this
  have ls:(M8 P ps).length<=ps.length:=by have:=NF (λi=>!decide ((pAt ps i).2.1<=1)) P;unfold M8;omega
  have eW:(ai P ps).map (λi=>prD (i,pAt ps i))=(ai P ps).map λi=>prD (i,W5 P (kb r) ps i):=MO λi hi=>by
   have h2:i ∉ P:=by have:=(MN.1 hi).2;simpa using this
   unfold W5;rw[Md h2]
  have eS:(M8 P ps).map (λi=>prD (i,fe (kb r) (pAt ps i)))=(M8 P ps).map λi=>prD (i,W5 P (kb r) ps i):=MO λi hi=>by have h2:i∈P:=(MN.1 hi).1;unfold W5;rw[Mb h2]
  have eA:(ai P ps).map (λi=>prD (i,pAt ps i))++(M8 P ps).map (λi=>prD (i,fe (kb r) (pAt ps i)))=((ai P ps++M8 P ps).map λi=>(i,W5 P (kb r) ps i)).map prD:=by rw[eW,eS,<-Nt,Mq];rfl
  have last:∀(E:DE) (st:My),st = .list ((U3 (tnB r) P ps).map λi=>prD (i,W5 P (kb r) ps i))->E=[some (.dat (.tuple [.int (h:Int),pl,r])),some (.dat (.tuple (ps.map pnD))),some (.dat r),some (.dat (.tuple (t7 P))),some (.dat (.list ((ai P ps).map λi=>prD (i,pAt ps i)))),some (.own ((M8 P ps).map λi=>prD (i,fe (kb r) (pAt ps i)))),some (.own (t7 (P6 P ps))),o7,o8,o9,o10,some (.dat st)] ->
    wp (mRt (E8 (c7 (sV 11) (c7 (sV 3) (c7 (sN K9 (c7 (sW 6) j6)) j6)))) E F1) (lH Q):=by rintro E st rfl rfl;walk_at "go";exact q
  refine l0 (m5.2 (r6.2 (vm.2 (ak.2 (l9.2 (j9.2 (l5 rfl (m9.2 (d6 (nh hr) (d6 rfl (R3 (λht=>?_) λht=>?_)))))))))))
  .refine l9.2 (j9.2 (l5 rfl (j9.2 (dG rfl (d6 (xM ?_) ⟨j5 rfl,l0 (last _ _ ?_ rfl)⟩)))))
   .rw[LX,LX];omega
   .rw[eA,Mq];unfold U3;rw[Mb ht];rfl
  .refine D8.2 (c6.2 (l9.2 (j9.2 (l5 rfl (j9.2 (dG rfl (d6 (xM ?_) (h7.2 ?_))))))))
   .rw[LX,LX];omega
   .rw[eA];have hperm:=(eK hsub hnd).symm.map λi=>(i,W5 P (kb r) ps i)
    have hsrt:((U3 false P ps).map λi=>(i,W5 P (kb r) ps i)).Pairwise λa b=>a.1<b.1:=by rw[NV];exact xG P ps
    have hlen:((ai P ps++M8 P ps).map λi=>(i,W5 P (kb r) ps i)).length<64:=by rw[LX,(eK hsub hnd).length_eq];have:=NF (λi=>!kj P ps i) (List.range ps.length);unfold U3;rw[Md (by simp)];rw[MB]at this;omega
    refine d6 (ze hperm hsrt hlen) ⟨j5 rfl,l0 (last _ _ ?_ rfl)⟩;rw[ht,Mq];rfl
def Bb {r:My}{pl:Option Nat}{ps:List Pn}{h:Nat}(hr:r∈W8)(hp:ag pl ps.length)(hl:ps.length+bt.length<64)
  (q:Q (.tuple [.tuple ((after h (kOf r) (kb r) (tnB r) (v5 pl ps bt)).map pnD),.int ((bt.length-K1 pl ps.length bt.length:Nat):Int),.tuple (t7 (P6 (A0 h (kOf r) (kb r) (v5 pl ps bt)) (v5 pl ps bt)))]) F) :
  wp (jW [.dat (.tuple [.int (h:Int),plD pl,r]),.dat (.tuple (ps.map pnD)),.dat (.tuple (bt.map cmD))] F) Q:=by
 have hfl:(v5 pl ps bt).length<64:=by rw[gS];unfold K1;split <;> omega
 unfold jW;walk_at "go";refine du hp (by omega) ?_;walk_at "go";refine xq hr hfl ?_;refine d6 rfl (l0 ?_);refine y9.2 (D4.2 (c6.2 (D8.2 (c6.2 (N0.2 (B1.2 (j9.2 (l5 rfl (d6 U0 ⟨sz ?_,?_⟩)))))))))
 .have h1:=(vQ (tn:=tnB r) (jt (h:=h) (k:=kOf r) (kp:=kb r) (ps:=v5 pl ps bt)) eY).length_eq;have h2:=NF (λi=>!kj (A0 h (kOf r) (kb r) (v5 pl ps bt)) (v5 pl ps bt) i) (List.range (v5 pl ps bt).length);rw[LX,h1];unfold U3;rw[Md (by simp)];rw[MB]at h2;omega
 .refine rB (x:=λi:Nat=>.int (i:Int)) (y:=λi=>pnD (W5 (A0 h (kOf r) (kb r) (v5 pl ps bt)) (kb r) (v5 pl ps bt) i)) (f:=λi=>pnD (W5 (A0 h (kOf r) (kb r) (v5 pl ps bt)) (kb r) (v5 pl ps bt) i)) _ _ _ (λi hi F Q q=>?_) ?_
  .walk_at "go";exact q
  .walk_at "go";unfold after at q;rw[Mq]at q;exact q
end
variable [Fam]
def pd {f:Nat->My}{n i:Nat}(h:i<n):atI ((List.range n).map f) (i:Int)=some (f i):=by refine jA ?_;rw[Mt,Ml (by simpa using h)];simp
def aW {n i:Nat}{d:My}{f:Nat->My}(h:((List.range n).map f)[i]? = some d):i<n/\d=f i:=by rw[Mt]at h;obtain⟨b,e,rfl⟩:=Ms.1 h;obtain⟨hi,rfl⟩:=Mj.1 e;simp only[MB]at hi;exact⟨hi,by simp⟩
section
variable {F:FdS}{Q:My->FdS->Prop}
end
variable [Fam]
section
variable {F:FdS}{Q:My->FdS->Prop}
end
variable [Fam]
variable [Fam]
def oG {me:DE->M My}{α:Type}{F:FdS}{x:α->My}{f:α->My}{rest:DE}{Q:List My->FdS->Prop}:∀(ds:List α) (o:Option DV),(∀d∈ds,∀(F:FdS) (Q:My->FdS->Prop),Q (f d) F->wp (me (some (.dat (x d))::rest) F) Q)->Q (ds.map f) F->wp (P8 (bN 0) A6 me (ds.map x) (o::rest) F) Q:=λds o h q=>by
 have key:∀(l:List α) (o:Option DV) (Q:List My->FdS->Prop),(∀d∈l,d∈ds)->Q (l.map f) F->wp (P8 (bN 0) A6 me (l.map x) (o::rest) F) Q:=by
  intro l;induction l with
  | nil=>intro o Q _ q;exact d9.2 q
  | cons d l ih =>intro o Q hs q;rw[Ma,P8];have e:bN 0 (x d) (o::rest)=some (some (.dat (x d))::rest):=rfl;rw[e,MF,d5];refine Z5.2 ?_;rw[Mb rfl,d5];refine h d (hs d Me) F _ ?_;rw[d5];exact ih _ _ (λz hz=>hs z (Mc _ hz)) (d9.2 q)
 exact key ds o Q (λd hd=>hd) q
variable [Fam]
def uz {i:Nat}{m:DE->M Out}{E:DE}{F:FdS}{ds:List My}{Q:Out->FdS->Prop}(he:eV E i=some ds)(q:wp (m (E.set i (some (.dat (.list ds)))) F) Q):wp (sO i m E F) Q:=by unfold sO;rw[he,MF];exact q
section
variable {F:FdS}{Q:My->FdS->Prop}
end
end
section
structure Sto {α:Type} (lt:α->α->Bool):Prop where
 irr:∀a,lt a a=false
 tr:∀a b c,lt a b=true->lt b c=true->lt a c=true
 tot:∀a b,a≠b->lt a b=true\/lt b a=true
def Sto.as {α:Type}{lt:α->α->Bool}(h:Sto lt){a b:α}(h1:lt a b=true):lt b a=false:=by
 cases e:lt b a
 .rfl
 .have:=h.tr a b a h1 e;rw[h.irr a]at this;cases this
section
variable {α:Type}[DecidableEq α]{lt:α->α->Bool}
def V7 (lt:α->α->Bool):List α->List α->Bool
 | [],[]=>false
 | [],_::_=>true
 | _::_,[]=>false
 | a::l,b::m=>if a=b then V7 lt l m else lt a b
theorem lZ (h:Sto lt):∀l:List α,V7 lt l l=false
 | []=>rfl
 | a::l=>by rw[V7,Mb rfl];exact lZ h l
theorem qS (h:Sto lt):∀l m n:List α,V7 lt l m=true->V7 lt m n=true->V7 lt l n=true
 | [],[],n,h1,h2=>by cases h1
 | [],b::m,[],h1,h2=>by cases h2
 | [],b::m,c::n,h1,h2=>rfl
 | a::l,[],n,h1,h2=>by cases h1
 | a::l,b::m,[],h1,h2=>by cases h2
 | a::l,b::m,c::n,h1,h2=>by
  rw[V7]at h1 h2 ⊢;by_cases e1:a=b
  .subst e1;rw[Mb rfl]at h1;by_cases e2:a=c
   .rw[Mb e2]at h2 ⊢;exact qS h l m n h1 h2
   .rw[Md e2]at h2 ⊢;exact h2
  .rw[Md e1]at h1;by_cases e2:b=c
   .subst e2;rw[Md e1];exact h1
   .rw[Md e2]at h2;have h3:=h.tr a b c h1 h2;rw[Md λz=>by subst z;rw[h.irr]at h3;cases h3];exact h3
theorem mH (h:Sto lt):∀l m:List α,l≠m->V7 lt l m=true\/V7 lt m l=true
 | [],[],n=>absurd rfl n
 | [],b::m,_=>.inl rfl
 | a::l,[],_=>.inr rfl
 | a::l,b::m,n=>by
  rw[V7,V7];by_cases e:a=b
  .rw[Mb e,Mb e.symm];exact mH h l m λz=>n (by rw[e,z])
  .rw[Md e,Md λz=>e z.symm];exact h.tot a b e
def xn (h:Sto lt):Sto (V7 lt):=⟨lZ h,qS h,mH h⟩
theorem tQ {p q:α->Bool}(h:∀x,p x=true->q x=true):∀l:List α,(l.filter p).length<=(l.filter q).length
 | []=>Mh _
 | a::l=>by
  have ih:=tQ h l;rw[Py,Py];by_cases hp:p a=true
  .rw[Mb hp,Mb (h a hp),Mf,Mf];omega
  .rw[Md hp];split
   .rw[Mf];omega
   .exact ih
theorem uX {p q:α->Bool}(h:∀x,p x=true->q x=true){x:α}(h1:p x=false)(h2:q x=true):∀{l:List α},x∈l->(l.filter p).length<(l.filter q).length
 | [],hm=>by cases hm
 | a::l,hm=>by
  rw[Py,Py];rcases Mi.1 hm with rfl | hm
  .have:=tQ h l;rw[Md (by rw[h1];decide),Mb h2,Mf];omega
  .have ih:=uX h h1 h2 hm;by_cases hp:p a=true
   .rw[Mb hp,Mb (h a hp),Mf,Mf];omega
   .rw[Md hp];split
    .rw[Mf];omega
    .exact ih
def qg (lt:α->α->Bool)(l:List α)(i:Nat):Int:=match l[i]? with
 | some a=>((l.filter λb=>lt b a).length:Nat)
 | none=>0
def ye (h:Sto lt){l:List α}(nd:l.Nodup){i j:Nat}{a b:α}(hij:i≠j)(ea:l[i]? = some a)(eb:l[j]? = some b):lt a b=decide (qg lt l i<qg lt l j):=by
 have hne:a≠b:=λz=>by subst z;obtain⟨h1,h2⟩:=Mj.1 ea;obtain⟨h3,h4⟩:=Mj.1 eb;exact hij ((Pp nd).1 (h2.trans h4.symm))
 have ma:a∈l:=MU ea;have mb:b∈l:=MU eb;unfold qg;rw[ea,eb];have key:∀{a b:α},a∈l->lt a b=true->(l.filter λc=>lt c a).length<(l.filter λc=>lt c b).length:=λ{a b} ha hab=>uX (λc hc=>h.tr c a b hc hab) (h.irr a) hab ha
 dsimp only;rcases h.tot a b hne with hab | hba
 .have:=key ma hab;rw[hab,Mv (by omega)]
 .have:=key mb hba;rw[h.as hba,Mw (by omega)]
def rF (lt:α->α->Bool)(d:α):List α->List α
 | []=>[d]
 | e::r=>if lt e d=true then e::rF lt d r else d::e::r
def qQ (lt:α->α->Bool):List α->List α
 | []=>[]
 | d::r=>rF lt d (qQ lt r)
theorem iW (lt:α->α->Bool)(d:α):∀l:List α,(rF lt d l).Perm (d::l)
 | []=>.refl _
 | e::r=>by
  rw[rF];split
  .exact((iW lt d r).cons e).trans (.swap d e r)
  .exact .refl _
theorem bW (lt:α->α->Bool):∀l:List α,(qQ lt l).Perm l
 | []=>.refl _
 | d::r=>(iW lt d _).trans ((bW lt r).cons d)
variable {x:α->My}
structure Itm (x:α->My) (lt:α->α->Bool):Prop where
 eq:∀a b,My.eqv (x a) (x b)=decide (a=b)
 lt:∀a b,a≠b->ltW (x a) (x b)=some (lt a b)
theorem kq (h:Itm x lt):∀l m:List α,ltM (l.map x) (m.map x)=some (V7 lt l m)
 | [],[]=>rfl
 | [],b::m=>rfl
 | a::l,[]=>rfl
 | a::l,b::m=>by
  rw[Ma,Ma,ltM,h.eq,V7];by_cases e:a=b
  .rw[Mb (Mv e),Mb e];exact kq h l m
  .rw[Md (by rw[Mw e];decide),Md e];exact h.lt a b e
abbrev rwD (x:α->My)(l:List α):My:=.tuple (l.map x)
theorem mK (h:Itm x lt)(d:List α):∀l:List (List α),sx (d.map x) (l.map (·.map x))=(rF (V7 lt) d l).map (·.map x)
 | []=>rfl
 | e::r=>by
  rw[Ma,sx,rF,kq h];by_cases z:V7 lt e d=true
  .rw[Mb (by rw[z]),Mb z,Ma,mK h d r]
  .rw[Md (by simpa using z),Md z];rfl
theorem jn (h:Itm x lt):∀l:List (List α),eZ (l.map (·.map x))=(qQ (V7 lt) l).map (·.map x)
 | []=>rfl
 | d::r=>by rw[Ma,eZ,jn h r,mK h];rfl
def jf (h:Itm x lt)(ho:Sto lt){as:List (List α)}(nd:as.Nodup)(h64:as.length<64)(hg:∀l∈as,fX (l.map x)):dB [.list (as.map (rwD x))]=some (.list ((qQ (V7 lt) as).map (rwD x))):=by
 have e:as.map (rwD x)=(as.map (·.map x)).map My.tuple:=by rw[Mq];rfl
 rw[e,yR (κ:=qg (V7 lt) as) ⟨by rw[LX];exact h64,λd hd=>by obtain⟨l,hl,rfl⟩:=ML.1 hd;exact hg l hl,λi j di dj hij ei ej=>?_⟩,jn h,Mq]
 .rfl
 .rw[Mt]at ei ej;obtain⟨a,ea,rfl⟩:=Ms.1 ei;obtain⟨b,eb,rfl⟩:=Ms.1 ej;rw[kq h,ye (xn ho) nd hij ea eb]
def cB {β:Type}(l:List (List α × β))(a:List α)(v:β):List (List α × β):=if a∈l.map (·.1) then l.map (λp=>if p.1=a then(p.1,v) else p) else l++[(a,v)]
def bF {β:Type}(l:List (List α × β))(a:List α):Option β:=(l.find? λp=>decide (p.1=a)).map (·.2)
structure Kys (x:α->My):Prop where
 is:∀l:List α,(O6 0 (rwD x l)).isSome=true
 inj:∀l m:List α,O6 0 (rwD x l)=O6 0 (rwD x m)↔l=m
abbrev kvD {β:Type}(x:α->My)(y:β->My)(p:List α × β):My×My:=(rwD x p.1,y p.2)
theorem dc {β:Type}{y:β->My}(h:Kys x)(a:List α):∀l:List (List α × β),O8 0 (l.map (kvD x y)) (rwD x a)=(bF l a).map y
 | []=>rfl
 | p::l=>by
  have ih:=dc (y:=y) h a l;unfold O8 bF at ih ⊢;rw[Ma];by_cases z:p.1=a
  .rw[NR (p:=λp:My×My=>decide (O6 0 p.1=O6 0 (rwD x a))) (Mv ((h.inj _ _).2 z)),NR (p:=λp:List α × β=>decide (p.1=a)) (Mv z)];rfl
  .rw[NS (p:=λp:My×My=>decide (O6 0 p.1=O6 0 (rwD x a))) (λq=>z ((h.inj _ _).1 (MD q))),NS (p:=λp:List α × β=>decide (p.1=a)) (λq=>z (MD q))];exact ih
theorem aH {β:Type}{a:List α}:∀{l:List (List α × β)},(bF l a).isSome=true↔a∈l.map (·.1)
 | []=>by simp[bF]
 | p::l=>by
  have ih:=aH (a:=a) (l:=l);unfold bF at ih ⊢;by_cases z:p.1=a
  .rw[NR (p:=λp:List α × β=>decide (p.1=a)) (Mv z)];simp[z]
  .rw[NS (p:=λp:List α × β=>decide (p.1=a)) (λq=>z (MD q)),ih,Ma,Mi];exact⟨.inr,λq=>q.resolve_left λe=>z e.symm⟩
def kR {β:Type}{y:β->My}(h:Kys x)(a:List α)(v:β)(l:List (List α × β)):aV 0 (l.map (kvD x y)) (rwD x a) (y v)=(cB l a v).map (kvD x y):=by
 unfold aV cB;rw[dc h];by_cases z:a∈l.map (·.1)
 .have:=aH.2 z;rw[Mb (by rw[Qm];exact this),Mb z,Mq,Mq];refine MO λp _=>?_
  by_cases q:p.1=a
  .simp only[Function.comp];rw[Mb ((h.inj _ _).2 q),Mb q]
  .simp only[Function.comp];rw[Md λw=>q ((h.inj _ _).1 w),Md q]
 .have:¬(bF l a).isSome=true:=λw=>z (aH.1 w)
  rw[Md (by rw[Qm];exact this),Md z,Nt];rfl
def iT {β:Type}{a:List α}{v:β}{l:List (List α × β)}(nd:(l.map (·.1)).Nodup):((cB l a v).map (·.1)).Nodup/\(cB l a v).length<=l.length+1:=by
 unfold cB;split
 .rename_i z;refine⟨?_,by rw[LX];omega⟩;have e:(l.map λp=>if p.1=a then(p.1,v) else p).map (·.1)=l.map (·.1):=by
   rw[Mq];refine MO λp _=>?_
   simp only[Function.comp];split <;> rfl
  rw[e];exact nd
 .rename_i z;refine⟨?_,by rw[MS];exact Mh _⟩;rw[Nt,List.nodup_append];exact⟨nd,by simp,λb hb c hc e=>z (by simp at hc;rw[<-hc,<-e];exact hb)⟩
def nj {β:Type}{P:List α × β->Prop}{a:List α}{v:β}{l:List (List α × β)}(h:∀p∈l,P p)(hv:P (a,v)):∀p∈cB l a v,P p:=λp hp=>by
 unfold cB at hp;split at hp
 .obtain⟨q,hq,rfl⟩:=ML.1 hp;split
  .rename_i e;rw[e];exact hv
  .exact h q hq
 .rcases NO.1 hp with hp | hp
  .exact h p hp
  .rw[Ni.1 hp];exact hv
theorem ja {β:Type}{a:List α}{v:β}:∀{l:List (List α × β)},bF l a=some v->(a,v)∈l
 | [],h=>by cases h
 | p::l,h=>by
  unfold bF at h;by_cases z:p.1=a
  .rw[NR (p:=λp:List α × β=>decide (p.1=a)) (Mv z)]at h;cases h;rw[<-z];exact Me
  .rw[NS (p:=λp:List α × β=>decide (p.1=a)) (λq=>z (MD q))]at h;exact Mc _ (ja h)
theorem qt {β:Type}{a:List α}{v:β}:∀{l:List (List α × β)},(l.map (·.1)).Nodup->(a,v)∈l->bF l a=some v
 | [],_,h=>by cases h
 | p::l,nd,h=>by
  rw[Ma,Ox]at nd;unfold bF;rcases Mi.1 h with rfl | h
  .rw[NR (p:=λp:List α × β=>decide (p.1=a)) (Mv rfl)];rfl
  .rw[NS (p:=λp:List α × β=>decide (p.1=a)) (λq=>nd.1 (by rw[MD q];exact ML.2 ⟨_,h,rfl⟩))];exact qt nd.2 h
def iX {β:Type}{l:List (List α × β)}(nd:(l.map (·.1)).Nodup){as:List (List α)}(hp:as.Perm (l.map (·.1))):∃rs:List (List α × β),rs.Perm l/\rs.map (·.1)=as/\∀p∈rs,bF l p.1=some p.2:=by
 have hall:∀a∈as,∃v,bF l a=some v:=λa ha=>Np.1 (aH.2 (hp.mem_iff.1 ha))
 have key:∀as:List (List α),(∀a∈as,∃v,bF l a=some v)->∃rs:List (List α × β),rs.map (·.1)=as/\∀p∈rs,bF l p.1=some p.2:=by
  intro as;induction as with
  | nil=>intro _;exact⟨[],rfl,λp hp=>by cases hp⟩
  | cons a as ih =>
   intro h;obtain⟨rs,e1,e2⟩:=ih λb hb=>h b (Mc _ hb)
   obtain⟨v,ev⟩:=h a Me;refine⟨(a,v)::rs,by rw[Ma,e1],λp hp=>?_⟩;rcases Mi.1 hp with rfl | hp
   .exact ev
   .exact e2 p hp
 obtain⟨rs,e1,e2⟩:=key as hall;refine⟨rs,?_,e1,e2⟩;have nd1:(rs.map (·.1)).Nodup:=by rw[e1];exact hp.nodup_iff.2 nd
 have nR:rs.Nodup:=(NV.1 nd1).imp λh e=>h (Nn _ e)
 have nL:l.Nodup:=(NV.1 nd).imp λh e=>h (Nn _ e)
 refine(Rl nR nL).2 λp=>⟨λh=>ja (e2 p h),λh=>?_⟩
 have:p.1∈rs.map (·.1):=by rw[e1];exact hp.mem_iff.2 (ML.2 ⟨p,h,rfl⟩)
 obtain⟨q,hq,eq⟩:=ML.1 this;have h1:=e2 q hq;have h2:=qt nd (show(p.1,p.2)∈l from h);rw[eq,h2]at h1;have:q=p:=PP eq (Mg h1).symm;rw[<-this];exact hq
end
def sg (a b:Int×Int):Bool:=if a.1=b.1 then decide (a.2<b.2) else decide (a.1<b.1)
def nY (a b:Pn):Bool:=if a.1=b.1 then(if a.2.1=b.2.1 then !a.2.2&&b.2.2 else decide (a.2.1<b.2.1)) else decide (a.1<b.1)
def EG :Sto sg:=by
 refine⟨λa=>?_,λa b c h1 h2=>?_,λa b h=>?_⟩
 .unfold sg;rw[Mb rfl];exact Mw (by omega)
 .unfold sg at *;split at h1 <;> split at h2 <;> split <;> simp only[NM] at * <;> omega
 .unfold sg;by_cases e:a.1=b.1
  .rw[Mb e,Mb e.symm];have:a.2≠b.2:=λz=>h (PP e z)
   simp only[NM];omega
  .rw[Md e,Md λz=>e z.symm];simp only[NM];omega
def Dt :Sto nY:=by
 refine⟨λa=>?_,λa b c h1 h2=>?_,λa b h=>?_⟩
 .unfold nY;rw[Mb rfl,Mb rfl];cases a.2.2 <;> rfl
 .obtain⟨a1,a2,a3⟩:=a;obtain⟨b1,b2,b3⟩:=b;obtain⟨c1,c2,c3⟩:=c;unfold nY at *;dsimp only at *;by_cases e1:a1=b1 <;> by_cases e2:b1=c1 <;> by_cases e3:a2=b2 <;> by_cases e4:b2=c2 <;> simp_all <;> (try omega);all_goals (first | omega | (split <;> first | omega | simp_all | (split <;> first | omega | simp_all)))
 .obtain⟨a1,a2,a3⟩:=a;obtain⟨b1,b2,b3⟩:=b;unfold nY;dsimp only;by_cases e1:a1=b1
  .rw[Mb e1,Mb e1.symm];by_cases e2:a2=b2
   .rw[Mb e2,Mb e2.symm];subst e1 e2;cases a3 <;> cases b3 <;> simp_all
   .rw[Md e2,Md λz=>e2 z.symm];simp only[NM];omega
  .rw[Md e1,Md λz=>e1 z.symm];simp only[NM];omega
def xX {a b:Int}:(My.int a).eqv (.int b)=decide (a=b):=by simp[My.eqv];rfl
def Bg {a b:Bool}:(My.bool a).eqv (.bool b)=decide (a=b):=by cases a <;> cases b <;> decide
def EA :Itm cmD sg:=by
 refine⟨λa b=>?_,λa b h=>?_⟩
 .show(My.tuple _).eqv _=_;simp only[My.eqv,My.eqvAll,Bool.and_true];rw[Ow];simp[Prod.ext_iff]
 .show ltM [.int a.1,.int a.2] [.int b.1,.int b.2]=_;unfold sg;rw[ltM,xX,ltM,xX];by_cases e:a.1=b.1
  .have e2:a.2≠b.2:=λz=>h (PP e z)
   rw[Mb (Mv e),Mb e,Md (by rw[Mw e2];decide)];rfl
  .rw[Md (by rw[Mw e];decide),Md e];rfl
def CG :Itm pnD nY:=by
 refine⟨λa b=>?_,λa b h=>?_⟩
 .show(My.tuple _).eqv _=_;simp only[My.eqv,My.eqvAll,Bool.and_true];rw[Ow];simp[Prod.ext_iff,and_assoc]
 .show ltM [.int a.1,.int a.2.1,.bool a.2.2] [.int b.1,.int b.2.1,.bool b.2.2]=_;unfold nY;rw[ltM,xX,ltM,xX,ltM,Bg];by_cases e:a.1=b.1
  .rw[Mb (Mv e),Mb e];by_cases e2:a.2.1=b.2.1
   .have e3:a.2.2≠b.2.2:=λz=>h (PP e (PP e2 z))
    rw[Mb (Mv e2),Mb e2,Md (by rw[Mw e3];decide)];rfl
   .rw[Md (by rw[Mw e2];decide),Md e2];rfl
  .rw[Md (by rw[Mw e];decide),Md e];rfl
end
section
theorem cN:∀l:List (Int×Int),X8 (l.map cmD)=some (l.map λc=>.inr [.inl c.1,.inl c.2])
 | []=>rfl
 | c::l=>by rw[Ma,X8,cN l];rfl
theorem cG:∀l:List Pn,X8 (l.map pnD)=some (l.map λp=>.inr [.inl p.1,.inl p.2.1,.inl (bIn p.2.2)])
 | []=>rfl
 | c::l=>by rw[Ma,X8,cG l];rfl
def yY {a b:Bool}(h:bIn a=bIn b):a=b:=by cases a <;> cases b <;> first | rfl | (exact absurd h (by decide))
def Ci :Kys cmD:=by
 have key:∀l:List (Int×Int),O6 0 (rwD cmD l)=X8 (l.map cmD):=λl=>rfl
 refine⟨λl=>?_,λl m=>?_⟩
 .rw[key,cN];rfl
 .rw[key,key,cN,cN];refine⟨λh=>?_,λh=>by rw[h]⟩;refine(List.map_inj_right λa b e=>?_).1 (Mg h);injection e with e
  injection e with e1 e2
  injection e2 with e2 _
  injection e1 with e1
  injection e2 with e2
  exact PP e1 e2
def kg :Kys pnD:=by
 have key:∀l:List Pn,O6 0 (rwD pnD l)=X8 (l.map pnD):=λl=>rfl
 refine⟨λl=>?_,λl m=>?_⟩
 .rw[key,cG];rfl
 .rw[key,key,cG,cG];refine⟨λh=>?_,λh=>by rw[h]⟩;refine(List.map_inj_right λa b e=>?_).1 (Mg h);injection e with e
  injection e with e1 e2
  injection e2 with e2 e3
  injection e3 with e3 _
  injection e1 with e1
  injection e2 with e2
  injection e3 with e3
  exact PP e1 (PP e2 (yY e3))
variable [Fam]
def AA (l:List (Int×Int)):fX (l.map cmD):=by
 refine⟨?_,?_,λx hx=>?_⟩
 .induction l with
  | nil=>rfl
  | cons c l ih=>rw[Ma];simp only[My.canLayAll0,My.canLay0,ih,Bool.and_self]
 .refine MK ((U4 (k:=2)).2 λd hd=>?_) (by decide);obtain⟨c,_,rfl⟩:=ML.1 hd;simp[My.depth,My.depthAll]
 .cases l with
  | nil=>cases hx
  | cons c l=>exact⟨_,(Mg hx).symm⟩
def vR (l:List Pn):fX (l.map pnD):=by
 refine⟨?_,?_,λx hx=>?_⟩
 .induction l with
  | nil=>rfl
  | cons c l ih=>rw[Ma];simp only[My.canLayAll0,My.canLay0,ih,Bool.and_self]
 .refine MK ((U4 (k:=2)).2 λd hd=>?_) (by decide);obtain⟨c,_,rfl⟩:=ML.1 hd;simp[My.depth,My.depthAll]
 .cases l with
  | nil=>cases hx
  | cons c l=>exact⟨_,(Mg hx).symm⟩
section
variable {E:DE}{F:FdS}{i c:Nat}
def pM {Q:Out->FdS->Prop}(h:i<E.length)(q:Q (.nx (E.set i (some (.dic true c [])))) F):wp (gg i c E F) Q:=by unfold gg;rw[Mb h];exact d9.2 q
def nS {Q:Out->FdS->Prop}{v k:DE->M My}{ps:List (My×My)}(he:aQ E i=some (true,c,ps))(q:wp (v E F) λx F1=>wp (k E F1) λy F2=>(O6 c y).isSome=true/\ps.length<=1000/\Q (.nx (E.set i (some (.dic true c (aV c ps y x))))) F2):wp (iH i c v k E F) Q:=by
 unfold iH;rw[d5];refine p6 q λx F1 h=>?_
 rw[d5];refine p6 h λy F2 h=>?_
 rw[he,MF];dsimp only;rw[Mb ⟨rfl,rfl,h.1,MJ h.2.1 (by rw[MQ];decide)⟩];exact d9.2 h.2.2
variable {Q:My->FdS->Prop}
def uH {w:Bool}{k:DE->M My}{ps:List (My×My)}(he:aQ E i=some (w,c,ps))(q:wp (k E F) λy F1=>(O6 c y).isSome=true/\oB (O8 c ps y) λz=>Q z F1):wp (fS i c k E F) Q:=by
 unfold fS;rw[d5];refine p6 q λy F1 h=>?_
 rw[he,MF];dsimp only;rw[Mb ⟨rfl,h.1⟩];obtain⟨z,e,q⟩:=h.2;rw[e,MF];exact d9.2 q
def yX {w:Bool}{k z:DE->M My}{ps:List (My×My)}(he:aQ E i=some (w,c,ps))(q:wp (k E F) λy F1=>wp (z E F1) λr F2=>(O6 c y).isSome=true/\Q ((O8 c ps y).getD r) F2):wp (kM i c k z E F) Q:=by
 unfold kM;rw[d5];refine p6 q λy F1 h=>?_
 rw[d5];refine p6 h λr F2 h=>?_
 rw[he,MF];dsimp only;rw[Mb ⟨rfl,h.1⟩];exact d9.2 h.2
def wb {w:Bool}{ps:List (My×My)}(he:aQ E i=some (w,c,ps))(q:Q (.list (ps.map (·.1))) F):wp (fV i c E F) Q:=by unfold fV;rw[he,MF,Mb rfl];exact d9.2 q
end
theorem tX {α:Type}{x:α->My}{P:α->Prop}:∀{ds:List My},(∀d∈ds,∃a,d=x a/\P a)->∃l:List α,ds=l.map x/\∀a∈l,P a
 | [],_=>⟨[],rfl,λ_ z=>by cases z⟩
 | d::ds,h=>by
  obtain⟨l,e,hl⟩:=tX λd hd=>h d (Mc _ hd)
  obtain⟨a,ea,ha⟩:=h d Me;refine⟨a::l,by rw[Ma,<-e,<-ea],λb hb=>?_⟩;rcases Mi.1 hb with rfl | hb
  .exact ha
  .exact hl b hb
def cK (nm:List Str):List DV->M My:=B9 nm (mSq (gg 4 0)
  (mSq (X2 (X7 (c7 (sV 1) j6)) (bN 5) (mSq (x8 6 (sN K9 (c7 (sLC (X7 (c7 (j8 C0 (vF 0 (vD (s2 N4 (sW 2) (sC (.int 1))) n9))) j6)) 1 [0,3] (bN 0) A6 (E8 (c7 (j8 C0 (vF 1 (vD (sC (.int 2)) n9))) (c7 (s2 N4 (sC (.int 1)) (j8 C0 (vF 1 (vD (sV 2) n9)))) j6)))) j6)))
  (iH 4 0 (s2 N4 (sC (.int 1)) (j8 C0 (vF 0 (vD (sC (.int 12)) n9)))) (sV 6))))
  (mRt (sN K9 (c7 (sLC (C6 (sN dB (c7 (fV 4 0) j6))) 1 [4] (bN 0) A6 (E8 (c7 (sV 0) (c7 (fS 1 0 (sV 0)) j6)))) j6)))))
abbrev Kw (α:Type):=List α×Int
abbrev kwD {α:Type}(x:α->My)(p:Kw α):My:=.tuple [rwD x p.1,.int p.2]
abbrev kiD {α:Type}(x:α->My)(p:Kw α):My×My:=kvD x My.int p
section
variable {F:FdS}
def uG {α:Type}[DecidableEq α]{x:α->My}{lt:α->α->Bool}(hi:Itm x lt)(ho:Sto lt)(hk:Kys x)(hg:∀l:List α,fX (l.map x)){l:List (Kw α)}(nd:(l.map (·.1)).Nodup)(h64:l.length<64){E:DE}{i:Nat}{w:Bool}(he:aQ E i=some (w,0,l.map (kiD x))){Q:My->FdS->Prop}
  (q:∀rs:List (Kw α),rs.Perm l->Q (.list (rs.map (kwD x))) F):wp (sLC (C6 (sN dB (c7 (fV i 0) j6))) 1 [i] (bN 0) A6 (E8 (c7 (sV 0) (c7 (fS 1 0 (sV 0)) j6))) E F) Q:=by
 refine N0.2 (B1.2 (D8.2 (c6.2 (wb he (h7.2 ?_)))));have ek:(l.map (kiD x)).map (·.1)=(l.map (·.1)).map (rwD x):=by rw[Mq,Mq];rfl
 rw[ek];refine d6 (jf hi ho nd (by rw[LX];exact h64) λl _=>hg l) (d6 U0 ?_);obtain⟨rs,hp,hf,hv⟩:=iX nd (bW (V7 lt) (l.map (·.1)));rw[<-hf,Mq];have hl:rs.length<64:=by rw[hp.length_eq];exact h64
 refine⟨sz (by rw[LX];omega),?_⟩;have hc:gX 1 [i] E=[none,some (.dic w 0 (l.map (kiD x)))]:=by unfold gX;rw[Ma,MI,S9 he];rfl
 rw[hc];refine oG (x:=λp:Kw α=>rwD x p.1) (f:=kwD x) rs _ (λp hp F Q q=>?_) (q rs hp);refine D4.2 (c6.2 (j4.2 (j3 rfl (c6.2 (uH rfl (j4.2 (j3 rfl ⟨hk.is p.1,d6 (by rw[dc hk,hv p hp];rfl) (h7.2 ⟨y4 rfl,q⟩)⟩)))))))
def BtB (m w:Nat)(b:Bt):Prop:=b.length<=m/\∀c∈b,(0<=c.1/\c.1<=1)/\1<=c.2/\c.2<=w
structure BsOk (n m w:Nat) (l:List (Kw (Int×Int))):Prop where
 n1:1<=l.length
 n2:l.length<=n
 ok:∀p∈l,BtB m w p.1/\1<=p.2/\p.2<=12
 nd:(l.map (·.1)).Nodup
def BsOk.perm {n m w:Nat}{l r:List (Kw (Int×Int))}(h:BsOk n m w l)(p:r.Perm l):BsOk n m w r:=⟨by rw[p.length_eq];exact h.n1,by rw[p.length_eq];exact h.n2,λq hq=>h.ok q (p.mem_iff.1 hq),(p.map _).nodup_iff.mpr h.nd⟩
def Z7 {n:Nat}(h:n<=100000):af [.int (n:Int)]=some ((List.range n).map λi=>.int (i:Int)):=by have:=wI (n:=n) h;rw[pU]at this;exact this
def sG {nm:List Str}(hnm:nm.length=7){n m w:Nat}(h1:1<=n)(hn:n<=24)(hm:m<=8)(hw1:1<=w)(hw:w<=1000):Tr (cK nm) [.feed,.dat (.int (n:Int)),.dat (.int (m:Int)),.dat (.int (w:Int))] (20*n) (λd=>∃l,d = .tuple (l.map (kwD cmD))/\BsOk n m w l):=Tr.of λF hF=>by
 unfold cK;refine C2.2 ?_;have es:q5 nm [.feed,.dat (.int (n:Int)),.dat (.int (m:Int)),.dat (.int (w:Int))]=[some .feed,some (.dat (.int (n:Int))),some (.dat (.int (m:Int))),some (.dat (.int (w:Int))),none,none,none]:=by unfold q5;rw[hnm];rfl
 rw[es];refine m5.2 (pM (j5 rfl) (l0 (m5.2 (L1.2 (P1.2 (c6.2 (j4.2 (j3 rfl (h7.2 (d6 (Z7 (by omega)) ?_))))))))));refine D9 (λj E F'=>F'.t<=F.t+20*j/\∃(l:List (Kw (Int×Int))) (o5 o6:Option DV),(l.map (·.1)).Nodup/\l.length<=j/\(0<j->1<=l.length)/\(∀p∈l,BtB m w p.1/\1<=p.2/\p.2<=12)/\E=[some .feed,some (.dat (.int (n:Int))),some (.dat (.int (m:Int))),some (.dat (.int (w:Int))),some (.dic true 0 (l.map (kiD cmD))),o5,o6]) _ 0 _ F ⟨by omega,[],none,none,QY,Mh _,λz=>absurd z (Nv 0),λp hp=>(nomatch hp),rfl⟩ ?_ ?_
 .rintro j d e E F1 ⟨ht,l,o5,o6,nd,hl,hp,hok,rfl⟩;rw[MM] at *;obtain⟨hj,rfl⟩:=aW (f:=λi:Nat=>My.int (i:Int)) e;refine⟨_,rfl,m5.2 (r6.2 (D8.2 (c6.2 (N0.2 (P1.2 (c6.2 (i9.2 (W9.2 (Y2 rfl (l7.2 (l9.2 (j9.2 (l5 rfl (m9.2 (d6 O3 (l4.2 ?_))))))))))))))))⟩;refine E7 (by omega) (by omega) (by omega) λr F2 r0 r1 t2=>?_
  obtain⟨k,rfl⟩:∃k:Nat,r=(k:Int):=⟨r.toNat,by omega⟩;refine h7.2 (d6 (Z7 (by omega)) ⟨sz (by simp;omega),?_⟩);refine Dc (P:=λ_ y=>∃c:Int×Int,y=cmD c/\(0<=c.1/\c.1<=1)/\1<=c.2/\c.2<=w) (c:=2) _ _ (by decide) (λd hd F hF=>?_) (by simp;omega) λzs F3 hlz hz t3=>?_
  .refine D4.2 (c6.2 (i9.2 (W9.2 (Y2 rfl (l7.2 (m9.2 (l4.2 ?_)))))));refine E7 (by decide) (by decide) (by omega) λa Fa a0 a1 ta=>c6.2 (l9.2 (m9.2 (i9.2 (W9.2 (Y2 rfl (l7.2 (j4.2 (j3 rfl (l4.2 ?_)))))))))
   refine E7 (by omega) (by omega) (by omega) λb Fb b0 b1 tb=>d6 O3 (h7.2 ⟨y4 rfl,by omega,(a,1+b),rfl,⟨a0,by show a<=1;omega⟩,by show 1<=1+b;omega,by show 1+b<=w;omega⟩)
  .rw[LX,MB]at hlz t3;obtain⟨b,rfl,hb⟩:=tX λz h=>(let ⟨_,_,h⟩:=hz z h;h)
   rw[LX]at hlz;refine h7.2 (d6 eQ ⟨j5 rfl,l0 (nS (ps:=l.map (kiD cmD)) rfl (l9.2 (m9.2 (i9.2 (W9.2 (Y2 rfl (l7.2 (m9.2 (l4.2 ?_)))))))))⟩);refine E7 (by decide) (by decide) (by omega) λa Fa a0 a1 ta=>d6 O3 (j4.2 (j3 rfl ⟨Ci.is b,by rw[LX];omega,?_⟩))
   have hput:=kR (y:=My.int) Ci b (1+a) l;obtain⟨k1,k2⟩:=iT (a:=b) (v:=1+a) nd;have hb1:BtB m w b:=⟨by omega,hb⟩;have k3:=nj (P:=λp:Kw (Int×Int)=>BtB m w p.1/\1<=p.2/\p.2<=12) (a:=b) (v:=1+a) hok ⟨hb1,by show 1<=1+a;omega,by show 1+a<=12;omega⟩;have k4:1<=(cB l b (1+a)).length:=by
    unfold cB;split
    .rename_i z;have:=List.length_pos_of_mem z;rw[LX]at this ⊢;omega
    .rw[MS];simp
   exact⟨_,rfl,by omega,cB l b (1+a),_,_,k1,by omega,λ_=>k4,k3,by rw[<-hput];rfl⟩
 .rintro E F1 ⟨ht,l,o5,o6,nd,hl,hp,hok,rfl⟩;rw[MM,LX,MB] at *;refine l0 (y9.2 (D8.2 (c6.2 (uG EA EG Ci AA nd (by omega) rfl λrs hrs=>h7.2 (d6 eQ (v7 ⟨by omega,rs,rfl,?_⟩))))));exact BsOk.perm ⟨hp (by omega),hl,hok,nd⟩ hrs
end
variable [Fam]
def dE (nm:List Str):List DV->M My:=B9 nm (mSq (x8 2 (s2 ixD (sC (.list [.str "first",.str "last",.str "short",.str "front",.str "lastoff",.str "shortoff",.str "frontoff",.str "turns"])) (j8 C0 (vF 0 (vD (sC (.int 8)) n9)))))
  (mSq (x8 3 (s2 N4 (sC (.int 1)) (j8 C0 (vF 0 (vD (sC (.int 3)) n9)))))
  (mSq (mIf (uB (s2 (eqD false) (j8 C0 (vF 0 (vD (sC (.int 3)) n9))) (sC (.int 0)))) (mRt (E8 (c7 (sV 3) (c7 (sC .none) (c7 (sV 2) j6))))) mNx)
  (mRt (E8 (c7 (sV 3) (c7 (j8 C0 (vF 0 (vD (s2 N4 (sW 1) (sC (.int 1))) n9))) (c7 (sV 2) j6))))))))
def M7 {E:DE}{i:Nat}{ds:List My}(h:E[i]? = some (some (.own ds))):eV E i=some ds:=by unfold eV;rw[h]
def HsB (m:Nat)(d:My):Prop:=∃(h:Nat) (pl:Option Nat) (r:My),d = .tuple [.int (h:Int),plD pl,r]/\1<=h/\h<=3/\r∈W8/\∀v,pl=some v->v<=m
def eqZ {a b:Int}:eqD false (.int a) (.int b)=some (.bool (decide (a=b))):=by show some (My.bool (if false=true then !(My.int _).eqv (.int _) else(My.int _).eqv (.int _)))=_;rw[Md (by decide),hU]
def sr {nm:List Str}(hnm:nm.length=4){m:Nat}(hm:m<=1000):Tr (dE nm) [.feed,.dat (.int (m:Int))] 4 (HsB m):=Tr.of λF hF=>by
 unfold dE;refine C2.2 ?_;have es:q5 nm [.feed,.dat (.int (m:Int))]=[some .feed,some (.dat (.int (m:Int))),none,none]:=by unfold q5;rw[hnm];rfl
 rw[es];refine m5.2 (r6.2 (l9.2 (m9.2 (i9.2 (W9.2 (Y2 rfl (l7.2 (m9.2 (l4.2 ?_)))))))));refine E7 (by decide) (by decide) (by omega) λy F1 y0 y1 t1=>?_
 obtain⟨r,e,hr⟩:∃d,ixD (.list W8) (.int y)=some d/\d∈W8:=by
  have:y=0\/y=1\/y=2\/y=3\/y=4\/y=5\/y=6\/y=7:=by omega
  rcases this with rfl | rfl | rfl | rfl | rfl | rfl | rfl | rfl <;> exact⟨_,rfl,by simp[W8]⟩
 refine d6 e ⟨j5 rfl,l0 (m5.2 (r6.2 (l9.2 (m9.2 (i9.2 (W9.2 (Y2 rfl (l7.2 (m9.2 (l4.2 ?_))))))))))⟩;refine E7 (by decide) (by decide) (by omega) λx F2 x0 x1 t2=>d6 O3 ⟨j5 rfl,l0 ?_⟩
 obtain⟨h,eh⟩:∃h:Nat,1+x=(h:Int):=⟨(1+x).toNat,by omega⟩;rw[eh];refine m5.2 (V3.2 (ak.2 (l9.2 (i9.2 (W9.2 (Y2 rfl (l7.2 (m9.2 (l4.2 ?_)))))))));refine E7 (by decide) (by decide) (by omega) λz F3 z0 z1 t3=>m9.2 (d6 eqZ (d6 rfl (R3 (λ_=>?_) λ_=>?_)))
 .exact y9.2 (D4.2 (c6.2 (j4.2 (j3 rfl (c6.2 (m9.2 (c6.2 (j4.2 (j3 rfl (h7.2 ⟨y4 rfl,qE (v7 ⟨by omega,h,none,r,rfl,by omega,by omega,hr,λv hv=>(nomatch hv)⟩)⟩))))))))))
 .refine bO.2 (l0 (y9.2 (D4.2 (c6.2 (j4.2 (j3 rfl (c6.2 (i9.2 (W9.2 (Y2 rfl (l7.2 (l9.2 (j9.2 (l5 rfl (m9.2 (d6 O3 (l4.2 ?_)))))))))))))))));refine E7 (by omega) (by omega) (by omega) λp F4 p0 p1 t4=>c6.2 (j4.2 (j3 rfl (h7.2 ⟨y4 rfl,v7 ⟨by omega,?_⟩⟩)))
  obtain⟨v,rfl⟩:∃v:Nat,p=(v:Int):=⟨p.toNat,by omega⟩;exact⟨h,some v,r,rfl,by omega,by omega,hr,λw hw=>by cases hw;omega⟩
def fK (nm:List Str):List DV->M My:=B9 nm (mSq (mIf (uB (s2 (isD true) (s2 ixD (sW 1) (sC (.int 1))) (sC .none))) (x8 2 (sN sH (c7 (sW 2) (c7 (s2 ixD (sW 1) (sC (.int 1))) j6)))) mNx)
  (mSq (x8 4 (s2 J9 (s2 ixD (sW 1) (sC (.int 0))) (sN fC (c7 (s2 (inD false) (s2 ixD (sW 1) (sC (.int 2))) (sC (.tuple [.str "first",.str "last",.str "short",.str "front"]))) j6))))
  (mSq (gT 5 (iq j6))
  (mSq (X2 (X7 (c7 (j8 C0 (vF 0 (vD (s2 N4 (sW 2) (sC (.int 1))) n9))) j6)) (bN 6) (mSq (x8 7 (sE (s2 gtD (sW 4) (sC (.int 0))) (s2 (eqD false) (j8 C0 (vF 0 (vD (sC (.int 3)) n9))) (sC (.int 0)))))
  (mSq (x8 4 (s2 cw (sW 4) (sN fC (c7 (sW 7) j6))))
  (ax 5 (E8 (c7 (j8 C0 (vF 0 (vD (sC (.int 2)) n9))) (c7 (s2 N4 (sC (.int 1)) (j8 C0 (vF 0 (vD (sV 3) n9)))) (c7 (sV 7) j6))))))))
  (mRt (sN K9 (c7 (sW 5) j6)))))))
structure StB (m L:Nat) (pl:Option Nat) (kp:Bool) (ps:List Pn):Prop where
 len:ps.length<=m
 fit:ag pl ps.length
 ok:∀p∈ps,(0<=p.1/\p.1<=1)/\(1<=p.2.1/\p.2.1<=L)/\(p.2.2=true->kp=true)
def w8k {r:My}(h:r∈W8):inD false r (.tuple [.str "first",.str "last",.str "short",.str "front"])=some (.bool (kb r)):=by obtain⟨x,rfl,hx⟩:=R6 h;exact in4 hx
def Cw {x y:Int}:sH [.int x,.int y]=some (.int (min x y)):=by show some (My.int (if y<x then y else x))=_;congr 2;split <;> omega
def tU {nm:List Str}(hnm:nm.length=8){h m L:Nat}{pl:Option Nat}{r:My}(hh:h<=1000)(hr:r∈W8)(hm:m<=40)(hL1:1<=L)(hL:L<=1000):Tr (fK nm) [.feed,.dat (.tuple [.int (h:Int),plD pl,r]),.dat (.int (m:Int)),.dat (.int (L:Int))] (1+3*m)
  (λd=>∃ps:List Pn,d = .tuple (ps.map pnD)/\StB m L pl (kb r) ps):=Tr.of λF hF=>by
 unfold fK;refine C2.2 ?_;have es:q5 nm [.feed,.dat (.tuple [.int (h:Int),plD pl,r]),.dat (.int (m:Int)),.dat (.int (L:Int))]=[some .feed,some (.dat (.tuple [.int (h:Int),plD pl,r])),some (.dat (.int (m:Int))),some (.dat (.int (L:Int))),none,none,none,none]:=by unfold q5;rw[hnm];rfl
 rw[es];refine m5.2 ?_;have rest:∀n:Nat,n<=m->ag pl n->wp ((mSq (x8 4 (s2 J9 (s2 ixD (sW 1) (sC (.int 0))) (sN fC (c7 (s2 (inD false) (s2 ixD (sW 1) (sC (.int 2))) (sC (.tuple [.str "first",.str "last",.str "short",.str "front"]))) j6))))
  (mSq (gT 5 (iq j6))
  (mSq (X2 (X7 (c7 (j8 C0 (vF 0 (vD (s2 N4 (sW 2) (sC (.int 1))) n9))) j6)) (bN 6) (mSq (x8 7 (sE (s2 gtD (sW 4) (sC (.int 0))) (s2 (eqD false) (j8 C0 (vF 0 (vD (sC (.int 3)) n9))) (sC (.int 0)))))
  (mSq (x8 4 (s2 cw (sW 4) (sN fC (c7 (sW 7) j6))))
  (ax 5 (E8 (c7 (j8 C0 (vF 0 (vD (sC (.int 2)) n9))) (c7 (s2 N4 (sC (.int 1)) (j8 C0 (vF 0 (vD (sV 3) n9)))) (c7 (sV 7) j6))))))))
  (mRt (sN K9 (c7 (sW 5) j6)))))) [some .feed,some (.dat (.tuple [.int (h:Int),plD pl,r])),some (.dat (.int (n:Int))),some (.dat (.int (L:Int))),none,none,none,none] F)
   (lH λd F'=>F'.t<=F.t+(1+3*m)/\∃ps:List Pn,d = .tuple (ps.map pnD)/\StB m L pl (kb r) ps):=λn hn hfit=>by
  refine m5.2 (r6.2 (l9.2 (l9.2 (j9.2 (l5 rfl (m9.2 (d6 rfl (D8.2 (c6.2 (l9.2 (l9.2 (j9.2 (l5 rfl (m9.2 (d6 rfl (m9.2 (d6 (w8k hr) (h7.2 (d6 vt ?_)))))))))))))))))))
  refine d6 (CC (.inr ⟨by omega,by split <;> decide⟩)) ⟨j5 rfl,l0 (m5.2 (cA.2 (ay.2 (h7.2 ⟨sz (by decide),j5 rfl,l0 (m5.2 ?_)⟩))))⟩
  obtain⟨b0,eb0,hb0⟩:∃b:Nat,(h:Int)*(if kb r=true then 1 else 0)=(b:Int)/\(0<b->kb r=true):=by
   by_cases hk:kb r=true
   .exact⟨h,by rw[Mb hk];omega,λ_=>hk⟩
   .exact⟨0,by rw[Md hk];omega,λz=>absurd z (Nv 0)⟩
  rw[eb0]
  refine L1.2 (P1.2 (c6.2 (i9.2 (W9.2 (Y2 rfl (l7.2 (l9.2 (j9.2 (l5 rfl (m9.2 (d6 O3 (l4.2 ?_))))))))))))
  refine E7 (by omega) (by omega) (by omega) λx F1 x0 x1 t1=>?_
  obtain⟨k,rfl⟩:∃k:Nat,x=(k:Int):=⟨x.toNat,by omega⟩
  refine h7.2 (d6 (Z7 (by omega)) ?_)
  refine D9 (λj E F'=>F'.t<=F1.t+3*j/\∃(ps:List Pn) (b:Nat) (o6 o7:Option DV),ps.length=j/\(∀p∈ps,(0<=p.1/\p.1<=1)/\(1<=p.2.1/\p.2.1<=L)/\(p.2.2=true->kb r=true))/\(0<b->kb r=true)/\E=[some .feed,some (.dat (.tuple [.int (h:Int),plD pl,r])),some (.dat (.int (n:Int))),some (.dat (.int (L:Int))),some (.dat (.int (b:Int))),some (.own (ps.map pnD)),o6,o7]) _ 0 _ F1 ⟨by omega,[],b0,none,none,rfl,λp hp=>(nomatch hp),hb0,rfl⟩ ?_ ?_
  .rintro j d e E F2 ⟨t2,ps,b,o6,o7,hl,hok,hb,rfl⟩
   rw[MM] at *
   obtain⟨hj,rfl⟩:=aW (f:=λi:Nat=>My.int (i:Int)) e
   refine⟨_,rfl,m5.2 (r6.2 (pH.2 (l9.2 (j9.2 (l5 rfl (m9.2 (d6 vS (d6 rfl ?_))))))))⟩
   have tail:∀(s:Bool) (b':Nat) (F3:FdS),(s=true->kb r=true)->(0<b'->kb r=true)->(b:Int)-(if s=true then 1 else 0)=(b':Int)->F3.t<=F2.t+1 ->
     wp ((mSq (x8 4 (s2 cw (sW 4) (sN fC (c7 (sW 7) j6)))) (ax 5 (E8 (c7 (j8 C0 (vF 0 (vD (sC (.int 2)) n9))) (c7 (s2 N4 (sC (.int 1)) (j8 C0 (vF 0 (vD (sV 3) n9)))) (c7 (sV 7) j6))))))
      [some .feed,some (.dat (.tuple [.int (h:Int),plD pl,r])),some (.dat (.int (n:Int))),some (.dat (.int (L:Int))),some (.dat (.int (b:Int))),some (.own (ps.map pnD)),some (.dat (.int (j:Int))),some (.dat (.bool s))] F3)
      λo F'=>∃E2,o = .nx E2/\F'.t<=F1.t+3*((j+1:Nat):Int)/\∃(ps:List Pn) (b:Nat) (o6 o7:Option DV),ps.length=j+1/\(∀p∈ps,(0<=p.1/\p.1<=1)/\(1<=p.2.1/\p.2.1<=L)/\(p.2.2=true->kb r=true))/\(0<b->kb r=true)/\E2=[some .feed,some (.dat (.tuple [.int (h:Int),plD pl,r])),some (.dat (.int (n:Int))),some (.dat (.int (L:Int))),some (.dat (.int (b:Int))),some (.own (ps.map pnD)),o6,o7]:=λs b' F3 hs hb' eb t3=>by
    refine m5.2 (r6.2 (l9.2 (j9.2 (l5 rfl (D8.2 (c6.2 (j9.2 (l5 rfl (h7.2 (d6 vt (d6 W1 ⟨j5 rfl,l0 ?_⟩)))))))))));rw[eb];refine dH (M7 rfl) (by rw[LX];omega) (D4.2 (c6.2 (i9.2 (W9.2 (Y2 rfl (l7.2 (m9.2 (l4.2 ?_))))))));refine E7 (by decide) (by decide) (by omega) λu F4 u0 u1 t4=>c6.2 (l9.2 (m9.2 (i9.2 (W9.2 (Y2 rfl (l7.2 (j4.2 (j3 rfl (l4.2 ?_)))))))))
    refine E7 (by omega) (by omega) (by omega) λv F5 v0 v1 t5=>d6 O3 (c6.2 (j4.2 (j3 rfl (h7.2 ⟨y4 rfl,?_⟩))))
    refine⟨_,rfl,by omega,ps++[(u,1+v,s)],b',_,_,by rw[MS,hl];rfl,λp hp=>?_,hb',by rw[Nt];rfl⟩;rcases NO.1 hp with hp | hp
    .exact hok p hp
    .rw[Ni.1 hp];exact⟨⟨u0,by show u<=1;omega⟩,⟨by show 1<=1+v;omega,by show 1+v<=L;omega⟩,hs⟩
   refine R3 (λhc=>?_) λhc=>⟨j5 rfl,l0 (tail false b F2 (λz=>(nomatch z)) hb (by rw[Md (by decide)];omega) (by omega))⟩
   have hc:=MD hc
   refine l9.2 (i9.2 (W9.2 (Y2 rfl (l7.2 (m9.2 (l4.2 ?_))))))
   refine E7 (by decide) (by decide) (by omega) λz F3 z0 z1 t3=>m9.2 (d6 eqZ ⟨j5 rfl,l0 ?_⟩)
   have hkb:=hb (by omega)
   by_cases hz:z=0
   .rw[Mv hz]
    exact tail true (b-1) F3 (λ_=>hkb) (λ_=>hkb) (by rw[Mb rfl];omega) (by omega)
   .rw[Mw hz]
    exact tail false b F3 (λ_=>hkb) hb (by rw[Md (by decide)];omega) (by omega)
  .rintro E F2 ⟨t2,ps,b,o6,o7,hl,hok,hb,rfl⟩
   rw[MM,LX,MB] at *
   exact l0 (y9.2 (D8.2 (c6.2 (j9.2 (dG rfl (h7.2 (d6 eQ (v7 ⟨by omega,ps,rfl,by omega,λv hv=>by have:=hfit v hv;omega,hok⟩))))))))
 refine V3.2 (ak.2 (l9.2 (l9.2 (j9.2 (l5 rfl (m9.2 (d6 rfl (m9.2 ?_))))))));cases pl with
 | none=>exact d6 rfl (d6 rfl (u9 rfl (bO.2 (l0 (rest m (Mh _) λv hv=>(nomatch hv))))))
 | some v =>
  refine d6 rfl (d6 rfl (G6 rfl (r6.2 (D8.2 (c6.2 (j9.2 (l5 rfl (c6.2 (l9.2 (j9.2 (l5 rfl (m9.2 (d6 rfl (h7.2 (d6 Cw ⟨j5 rfl,l0 ?_⟩)))))))))))))));have e:min (m:Int) (v:Nat)=((min m v:Nat):Int):=by omega
  rw[e];exact rest (min m v) (by omega) λw hw=>by cases hw;omega
end
end L3
namespace L3
open PySem PySem.Spec PyProof.Rows L2 Bz
variable [Fam]
def fH (nm nms:List Str):List DV->M My:=B9 nm (mSq (gg 4 0)
  (mSq (X2 (X7 (c7 (sV 2) j6)) (bN 5) (iH 4 0 (s2 N4 (sC (.int 1)) (j8 C0 (vF 0 (vD (sC (.int 12)) n9)))) (j8 (fK nms) (vF 0 (vD (sV 1) (vD (sV 3) (vD (sC (.int 6)) n9)))))))
  (mRt (sLC (C6 (sN dB (c7 (fV 4 0) j6))) 1 [4] (bN 0) A6 (E8 (c7 (sV 0) (c7 (fS 1 0 (sV 0)) j6)))))))
structure LsOk (n m L:Nat) (pl:Option Nat) (kp:Bool) (l:List (Kw Pn)):Prop where
 n1:1<=l.length
 n2:l.length<=n
 ok:∀p∈l,StB m L pl kp p.1/\1<=p.2/\p.2<=12
 nd:(l.map (·.1)).Nodup
def LsOk.perm {n m L:Nat}{pl:Option Nat}{kp:Bool}{l r:List (Kw Pn)}(h:LsOk n m L pl kp l)(p:r.Perm l):LsOk n m L pl kp r:=⟨by rw[p.length_eq];exact h.n1,by rw[p.length_eq];exact h.n2,λq hq=>h.ok q (p.mem_iff.1 hq),(p.map _).nodup_iff.mpr h.nd⟩
def ua {nm nms:List Str}(hnm:nm.length=6)(hnms:nms.length=8){h n m:Nat}{pl:Option Nat}{r:My}(hh:h<=1000)(hr:r∈W8)(hm:m<=40)(h1:1<=n)(hn:n<=20):Tr (fH nm nms) [.feed,.dat (.tuple [.int (h:Int),plD pl,r]),.dat (.int (n:Int)),.dat (.int (m:Int))] (130*n)
  (λd=>∃l,d = .list (l.map (kwD pnD))/\LsOk n m 6 pl (kb r) l):=Tr.of λF hF=>by
 unfold fH;refine C2.2 ?_;have es:q5 nm [.feed,.dat (.tuple [.int (h:Int),plD pl,r]),.dat (.int (n:Int)),.dat (.int (m:Int))]=[some .feed,some (.dat (.tuple [.int (h:Int),plD pl,r])),some (.dat (.int (n:Int))),some (.dat (.int (m:Int))),none,none]:=by unfold q5;rw[hnm];rfl
 rw[es];refine m5.2 (pM (j5 rfl) (l0 (m5.2 (L1.2 (P1.2 (c6.2 (j4.2 (j3 rfl (h7.2 (d6 (Z7 (by omega)) ?_))))))))));refine D9 (λj E F'=>F'.t<=F.t+130*j/\∃(l:List (Kw Pn)) (o5:Option DV),(l.map (·.1)).Nodup/\l.length<=j/\(0<j->1<=l.length)/\(∀p∈l,StB m 6 pl (kb r) p.1/\1<=p.2/\p.2<=12)/\E=[some .feed,some (.dat (.tuple [.int (h:Int),plD pl,r])),some (.dat (.int (n:Int))),some (.dat (.int (m:Int))),some (.dic true 0 (l.map (kiD pnD))),o5]) _ 0 _ F ⟨by omega,[],none,QY,Mh _,λz=>absurd z (Nv 0),λp hp=>(nomatch hp),rfl⟩ ?_ ?_
 .rintro j d e E F1 ⟨ht,l,o5,nd,hl,hp,hok,rfl⟩;rw[MM] at *;obtain⟨hj,rfl⟩:=aW (f:=λi:Nat=>My.int (i:Int)) e;refine⟨_,rfl,nS (ps:=l.map (kiD pnD)) rfl (l9.2 (m9.2 (i9.2 (W9.2 (Y2 rfl (l7.2 (m9.2 (l4.2 ?_))))))))⟩;refine E7 (by decide) (by decide) (by omega) λa Fa a0 a1 ta=>d6 O3 (i9.2 (W9.2 (Y2 rfl (l7.2 (j4.2 (j3 rfl (l7.2 (j4.2 (j3 rfl (l7.2 (m9.2 (l4.2 ?_))))))))))))
  refine(tU hnms (L:=6) hh hr hm (by decide) (by decide)).wp (by omega) λd F3 t3 hd=>?_
  obtain⟨ps,rfl,hps⟩:=hd;refine⟨kg.is ps,by rw[LX];omega,?_⟩;have hput:=kR (y:=My.int) kg ps (1+a) l;obtain⟨k1,k2⟩:=iT (a:=ps) (v:=1+a) nd;have k3:=nj (P:=λp:Kw Pn=>StB m 6 pl (kb r) p.1/\1<=p.2/\p.2<=12) (a:=ps) (v:=1+a) hok ⟨hps,by show 1<=1+a;omega,by show 1+a<=12;omega⟩;have k4:1<=(cB l ps (1+a)).length:=by
   unfold cB;split
   .rename_i z;have:=List.length_pos_of_mem z;rw[LX]at this ⊢;omega
   .rw[MS];simp
  exact⟨_,rfl,by omega,cB l ps (1+a),_,k1,by omega,λ_=>k4,k3,by rw[<-hput];rfl⟩
 .rintro E F1 ⟨ht,l,o5,nd,hl,hp,hok,rfl⟩;rw[MM,LX,MB] at *;refine l0 (y9.2 (uG CG Dt kg vR nd (by omega) rfl λrs hrs=>v7 ⟨by omega,rs,rfl,?_⟩));exact LsOk.perm ⟨hp (by omega),hl,hok,nd⟩ hrs
def kY (nm:List Str):List DV->M My:=B9 nm (mSq (gg 1 0)
  (mSq (X2 (C6 (sV 0)) (w6 2 (d8 (bN 2) (d8 (bN 3) x3))) (iH 1 0 (s2 N4 (kM 1 0 (sV 2) (sC (.int 0))) (sW 3)) (sV 2)))
  (mSq (x8 4 (sN S4 (c7 (sLC (C6 (sW 0)) 2 [] (w6 2 (d8 (bN 0) (d8 (bN 1) x3))) A6 (sV 1)) j6)))
  (mRt (sN K9 (c7 (sLC (C6 (sN dB (c7 (fV 1 0) j6))) 1 [4,1] (bN 0) A6 (E8 (c7 (sV 0) (c7 (j8 dy (vD (fS 2 0 (sV 0)) (vD (sV 1) n9))) j6)))) j6))))))
abbrev shD (W:Nat)(p:Kw Pn):My:=.tuple [rwD pnD p.1,qd (mkRat p.2 W)]
def r9 {α:Type}(l:List (Kw α)):Int:=(l.map λp=>p.2).sum
def dz {α:Type}{l:List (Kw α)}(h:∀p∈l,1<=p.2/\p.2<=12):(l.length:Int)<=r9 l/\r9 l<=12*l.length:=by
 unfold r9;induction l with
 | nil=>exact⟨Pj _,Pj _⟩
 | cons p l ih =>
  have a:=h p Me;have i:=ih λq hq=>h q (Mc _ hq)
  rw[Ma,Om,Mf];omega
def BU {nm:List Str}(hnm:nm.length=5){n m L:Nat}{pl:Option Nat}{kp:Bool}{l:List (Kw Pn)}(hl:LsOk n m L pl kp l)(hn:n<=40){F:FdS}{Q:My->FdS->Prop}(q:∀rs:List (Kw Pn),rs.Perm l->Q (.tuple (rs.map (shD (r9 l).toNat))) F) :
  wp (kY nm [.dat (.list (l.map (kwD pnD)))] F) Q:=by
 have hlen:=hl.n2;have h1:=hl.n1;obtain⟨w1,w2⟩:=dz λp hp=>(hl.ok p hp).2
 unfold kY;refine C2.2 ?_;have es:q5 nm [.dat (.list (l.map (kwD pnD)))]=[some (.dat (.list (l.map (kwD pnD)))),none,none,none,none]:=by unfold q5;rw[hnm];rfl
 rw[es];refine m5.2 (pM (j5 rfl) (l0 (m5.2 (L1.2 (B1.2 (j4.2 (j3 rfl (d6 U0 ?_))))))));refine D9 (λj E F'=>F'=F/\∃o2 o3,E=[some (.dat (.list (l.map (kwD pnD)))),some (.dic true 0 ((l.take j).map (kiD pnD))),o2,o3,none]) _ 0 _ F ⟨rfl,none,none,rfl⟩ ?_ ?_
 .rintro j d e E F1 ⟨rfl,o2,o3,rfl⟩;rw[MM];rw[Mt]at e;obtain⟨p,ep,rfl⟩:=Ms.1 e;have hj:=(Mj.1 ep).1;have hnot:p.1 ∉ (l.take j).map (·.1):=λz=>by
   obtain⟨q,hq,eq⟩:=ML.1 z;obtain⟨i,hi,ei⟩:=QT.1 hq;have hil:i<j/\i<l.length:=by rw[MX]at hi;omega
   rw[Ro]at ei;have nd:=hl.nd;have e1:(l.map (·.1))[i]'(by rw[LX];omega)=(l.map (·.1))[j]'(by rw[LX];omega):=by rw[OF,OF,ei,eq];rw[<-(Mj.1 ep).2]
   have:=(Pp nd).1 e1;omega
  have hget:bF (l.take j) p.1=none:=by
   cases eg:bF (l.take j) p.1 with
   | none=>rfl
   | some v=>exact absurd (aH.1 (by rw[eg];rfl)) hnot
  refine⟨_,rfl,nS (ps:=(l.take j).map (kiD pnD)) rfl (l9.2 (yX (ps:=(l.take j).map (kiD pnD)) rfl (j4.2 (j3 rfl (m9.2 ⟨kg.is p.1,?_⟩)))))⟩;rw[dc kg,hget];refine j9.2 (l5 rfl (d6 O3 (j4.2 (j3 rfl ⟨kg.is p.1,by rw[LX,MX];omega,?_⟩))));have hput:=kR (y:=My.int) kg p.1 (0+p.2) (l.take j);have e1:cB (l.take j) p.1 (0+p.2)=l.take (j+1):=by unfold cB;rw[Md hnot,NU,ep,Int.zero_add];rfl
  rw[e1]at hput;exact⟨_,rfl,rfl,_,_,by rw[<-hput];rfl⟩
 .rintro E F1 ⟨rfl,o2,o3,rfl⟩;rw[MM,LX,OH];refine l0 (m5.2 (r6.2 (D8.2 (c6.2 (N0.2 (B1.2 (j9.2 (l5 rfl (d6 U0 ⟨sz (by rw[LX];omega),?_⟩)))))))));refine rB (x:=λp:Kw Pn=>rwD pnD p.1) (y:=λp=>.int p.2) (f:=λp=>.int p.2) _ _ _ (λp _ F Q q=>j4.2 (j3 rfl q)) (h7.2 ?_);have esum:l.map (λp:Kw Pn=>My.int p.2)=(l.map λp=>p.2).map My.int:=by rw[Mq];rfl
  rw[esum];refine d6 cm ⟨j5 rfl,l0 (y9.2 (D8.2 (c6.2 (N0.2 (B1.2 (D8.2 (c6.2 (wb rfl (h7.2 ?_)))))))))⟩;have ek:(l.map (kiD pnD)).map (·.1)=(l.map (·.1)).map (rwD pnD):=by rw[Mq,Mq];rfl
  rw[ek];refine d6 (jf CG Dt hl.nd (by rw[LX];omega) λl _=>vR l) (d6 U0 ?_);obtain⟨rs,hp,hf,hv⟩:=iX hl.nd (bW (V7 nY) (l.map (·.1)));rw[<-hf,Mq];have hrl:rs.length<=n:=by rw[hp.length_eq];exact hlen
  refine⟨sz (by rw[LX];omega),?_⟩;refine oG (x:=λp:Kw Pn=>rwD pnD p.1) (f:=shD (r9 l).toNat) rs _ (λp hp' F Q q=>?_) (h7.2 (d6 eQ (v7 (q rs hp))));obtain⟨_,p1,p2⟩:=hl.ok p (hp.mem_iff.1 hp');refine D4.2 (c6.2 (j4.2 (j3 rfl (c6.2 (i9.2 (l7.2 (uH rfl (j4.2 (j3 rfl ⟨kg.is p.1,d6 (by rw[dc kg,hv p hp'];rfl) (l7.2 (j4.2 (j3 rfl (l4.2 ?_))))⟩)))))))));have e1:p.2=((p.2.toNat:Nat):Int):=by omega
  have e2:(l.map λp:Kw Pn=>p.2).sum=(((r9 l).toNat:Nat):Int):=by have:(l.map λp:Kw Pn=>p.2).sum=r9 l:=rfl;rw[this];omega
  rw[e2];have q':Q (My.tuple [rwD pnD p.1,qd (mkRat ((p.2.toNat:Nat):Int) (r9 l).toNat)]) F:=by rw[<-e1];exact q
  rw[e1];have big:12*40<2 ^ 9000:=Mx (show 12*40<2 ^ 10 by decide) (NQ (by decide) (by decide));exact qb (by omega) (MJ (show(r9 l).toNat<=12*40 by omega) big) (h7.2 ⟨y4 rfl,q'⟩)
end L3
namespace L3
open PySem PySem.Spec PyProof.Rows L2
section
def FI (K:Fg)(x:Str)(st:RK):Prop:=∃(f:RD) (oc:RC) (od:Option RD) (kV doc pm:RC) (an:Option RD) (Si ct:RC) (osl:Array (Option RC)),
 PySem.W.nsIn K RU x=some (some (.ref f))/\K.lookup f=some ⟨oc,od,.func (PySem.W.fnOf x x (defArgs st) (defBody st) (defScope st) .none kV doc pm an Si ct),osl⟩/\PySem.W.codeIn K Si x=true/\PySem.W.keepIn K (.ref f)=true
variable {P:RF}{w:RG}{K:Fg}{mg:Str->Option RC}{base h:RM}{x q:Str}{st:RK}{f:RD}{fd:RJ}{ps:List Str}{k:Nat}{sp:Sp}
def FI.of {oc:RC}{od:Option RD}{kV doc pm:RC}{an:Option RD}{Si ct:RC}{osl:Array (Option RC)}(a:PySem.W.nsIn K RU x=some (some (.ref f)))(b:K.lookup f=some ⟨oc,od,.func (PySem.W.fnOf x x (defArgs st) (defBody st) (defScope st) .none kV doc pm an Si ct),osl⟩)
  (c:PySem.W.codeIn K Si x=true) (d:PySem.W.keepIn K (.ref f)=true):FI K x st:=⟨f,oc,od,kV,doc,pm,an,Si,ct,osl,a,b,c,d⟩
def FI.mk (X:K.In h)(G:h.Ns RU mg)(ps:List Str)(F:FI K x st)
  (hb:∀(kV doc pm:RC) (an:Option RD) (Si ct:RC) (us:List RC),us.length=ps.length->bindArgs (PySem.W.fnOf x x (defArgs st) (defBody st) (defScope st) .none kV doc pm an Si ct) ⟨us,[]⟩=pure (ps.zip us)) :
  ∃f fd,Fun K x x st f fd/\mg x=some (.ref f)/\fm K fd ps []/\(∃oc od osl,K.lookup f=some ⟨oc,od,.func fd,osl⟩)/\PySem.W.nsIn K RU x=some (some (.ref f)):=by obtain⟨f,oc,od,kV,doc,pm,an,Si,ct,osl,a,b,c,d⟩:=F;have Fn:=fun_mk b c d;exact⟨f,_,Fn,Qy X G a,Fn.binds hb,⟨oc,od,osl,b⟩,a⟩
def cal (P:RF)(w:RG)(base:RM)(F:FnOk P w K mg base CX0 k f fd ps sp)(m:mg x=some (.ref f))(Fn:Fun K x q st f fd)(b:fm K fd ps []):g9 P w K mg base x k ps sp:=⟨f,fd,F,m,Fn.kp,b⟩
end
section
def ro (z t:Int):Int:=((z % 1999999973+65537*t+11) ^ 3 % 2147483629+7919*t*t)*40692 % 2147483399 / 32
def fh (m:Int)(F:FdS):Option (Int×FdS):=if 0<m/\m<1073741824/\F.t<199999 then
  some (if 0<F.l then(F.l % m,⟨F.ns,F.a,F.l / m,F.t+1⟩)
   else if 10 ^ 18<=F.cellL/\F.a<F.ns.length then(F.cellL % m,⟨F.ns,F.a+1,F.cellL / m,F.t+1⟩)
   else(ro F.cellL (F.t+1) % m,⟨F.ns,F.a+1,F.l,F.t+1⟩))
 else none
def nG {m:Int}{F:FdS}(h0:0<m)(h1:m<1073741824)(h2:F.t<199999):∃r F',fh m F=some (r,F')/\0<=r/\r<m/\F'.t=F.t+1:=by
 have b:∀x:Int,0<=x % m/\x % m<m:=λx=>⟨QQ _ (by omega),Qc _ h0⟩
 unfold fh;rw[Mb ⟨h0,h1,h2⟩];by_cases hl:0<F.l
 .rw[Mb hl];exact⟨_,_,rfl,(b _).1,(b _).2,rfl⟩
 .rw[Md hl];by_cases hc:10 ^ 18<=F.cellL/\F.a<F.ns.length
  .rw[Mb hc];exact⟨_,_,rfl,(b _).1,(b _).2,rfl⟩
  .rw[Md hc];exact⟨_,_,rfl,(b _).1,(b _).2,rfl⟩
def bdB {z t:Int}(h0:0<=t)(h1:t<=200000):(z % 1999999973+65537*t+11).natAbs<2 ^ 64:=by obtain⟨q1,q2⟩:=uJ (x:=z) (m:=1999999973) (by decide);omega
@[reducible] def EX (l:List Str):Fam where
 At:=λd c H F=>H d=some (.dK (v4 c F.a F.l F.t))/\H c=some (.lst (F.ns.map V.int))/\F.ns.length<=63/\0<=F.a/\0<=F.t
 some1:=λh=>⟨_,h.1,⟨λ_ z=>(by cases z),λ_ z=>(by cases z)⟩⟩
 some2:=λh=>⟨_,h.2.1,⟨λ_ z=>(by cases z),λ_ z=>(by cases z)⟩⟩
 lam:=l
 congr:=λh e1 e2=>⟨e1.trans h.1,e2.trans h.2.1,h.2.2⟩
 drawF:=fh
 draw_some:=nG
end
section
end
end L3
namespace K40
open PySem L2 L3
section
def top (i:Nat):RK:=PySem.Challenge.pw_hatchwaits_k40_means_of_a_beat.main.body.getD i (.Pass ⟨0,0,0,0⟩)
instance famI:Fam:=EX ["lined_up","picked"]
abbrev FV:RK:=top 1
abbrev Ht:RK:=top 2
abbrev Gz:RK:=top 3
abbrev Ge:RK:=top 5
abbrev Gh:RK:=top 6
abbrev IA:RK:=top 9
abbrev Gn:RK:=top 10
abbrev HR:RK:=top 11
abbrev HK:RK:=top 13
abbrev FW:RK:=top 14
abbrev HL:RK:=top 15
abbrev GQ:RK:=top 16
abbrev Jq:RK:=top 17
abbrev FC:RK:=top 19
abbrev HS:RK:=top 20
abbrev GC:RK:=top 21
abbrev GR:RK:=top 22
abbrev HU:RK:=top 23
abbrev Gu:RK:=top 24
abbrev Gp:RK:=top 25
abbrev GS:RK:=top 26
abbrev Hu:RK:=top 27
abbrev Gv:RK:=top 28
abbrev GT:RK:=top 29
abbrev GU:RK:=top 30
abbrev GV:RK:=top 32
abbrev GW:RK:=top 33
abbrev Hv:RK:=top 34
abbrev Gk:RK:=top 35
abbrev GE:RK:=top 36
abbrev FN:RK:=top 37
abbrev Gq:RK:=top 38
abbrev Gr:RK:=top 39
abbrev GG:RK:=top 40
abbrev FO:RK:=top 41
abbrev FM:RK:=top 42
abbrev Gc:RK:=top 43
abbrev FX:RK:=top 44
abbrev FG:RK:=top 45
abbrev FA:RK:=top 46
structure Txt (K:Fg) (mg:Str->Option RC):Prop where
 abs:mg "abs" = none
 enumerate:mg "enumerate" = none
 int:mg "int" = none
 len:mg "len" = none
 list:mg "list" = none
 min:mg "min" = none
 range:mg "range" = none
 repr:mg "repr" = none
 sorted:mg "sorted" = none
 sum:mg "sum" = none
 tuple:mg "tuple" = none
 zip:mg "zip" = none
 g_KEEPING:GD K mg "KEEPING" (.tuple [.str "first",.str "last",.str "short",.str "front"])
section
variable {P:RF}{w:RG}{K:Fg}{mg:Str->Option RC}{base:RM}
def N2:FnScope ["one","other"] ["one","other"] (defScope FV):={}
abbrev D2:=D3
def HM {f:RD}{fd:RJ}(Fn:Fun K "common_divisor" "common_divisor" FV f fd)(T:Txt K mg) :FnOk P w K mg base CX0 1 f fd ["one","other"] (spD K 2 D2):=by
 refine t9 Fn N2 λSi A outer s H E hr=>?_
 exact⟨_,(d7 (jD 0 1 rfl N2.nd (d0 (k9 (oy) T.abs pQ (j7 (h8 0) m7)) (d0 (k9 (oy) T.abs pQ (j7 (h8 1) m7)) l3)))
   (d7 (mM (A1 qW (h8 1) (Ev.bw i4)) (h9 (jD 0 1 rfl N2.nd (d0 (f7 1) (d0 (u5 wd (h8 0) (h8 1)) l3)))))
   (h9 (m8 (f7 0)))))⟩
def aG:FnScope ["top","bottom","divisor"] ["top","bottom"] (defScope Ht):={}
abbrev fP:=Z1
def JJ {f:RD}{fd:RJ}(Fn:Fun K "fraction" "fraction" Ht f fd)(T:Txt K mg)(FB:g9 P w K mg base "common_divisor" 1 ["one","other"] (spD K 2 D2)):FnOk P w K mg base CX0 2 f fd ["top","bottom"] (spD K 2 fP):=by
 refine t9 Fn aG λSi A outer s H E hr=>?_
 exact⟨_,(d7 (p7 2 aG.nd (f9 FB (hr.mono (by decide)) (i8 (f7 0) (i8 (f7 1) i6)) (i7 (i7 i5))))
   (d7 (Q4 (A1 qC (h8 1) (Ev.bw i4)) (h9 (p7 2 aG.nd (Dv AU (h8 2)))) Q6)
   (h9 (m8 (x9 (d0 (u5 aY (h8 0) (h8 2)) (d0 (u5 aY (h8 1) (h8 2)) l3)))))))⟩
def fU:FnScope ["pairs","weighed"] ["pairs"] (defScope Gz):={}
abbrev y6:=bc
def Kj {f:RD}{fd:RJ}(Fn:Fun K "mean_of" "mean_of" Gz f fd)(T:Txt K mg)(Hw:g9 P w K mg base "fraction" 2 ["top","bottom"] (spD K 2 fP)):FnOk P w K mg base CX0 3 f fd ["pairs"] (spD K 1 y6):=by
 refine t9 Fn fU λSi A outer s H E hr=>?_
 exact⟨_,(d7 (p7 1 fU.nd (k9 (V2 rfl rfl) T.sum aF (j7 (Ev.bw (O0 (osc:=(defScope Gz)) (N:=["number","lot"]) (k:=2) (cap:=[]) rfl rfl ⟨rfl,by decide +kernel,by decide +kernel,by decide +kernel,rfl,rfl,by decide +kernel⟩ (B7 (h8 0)) (λcl C ex vv s H=>(r8 (n:=2) rfl (d4 (m4 (i:=0) (show List.Nodup (["number","lot"]:List Str) by decide +kernel)) (d4 (m4 (i:=1) (show List.Nodup (["number","lot"]:List Str) by decide +kernel)) l8)))) (λcl C ex vv s H=>u8) (λcl C ex vv s H=>(u5 (J3 rfl) (h8 0) (h8 1))))) m7)))
   (h9 (m8 (f9 Hw (hr.mono (by decide)) (i8 (f7 1) (i8 (k9 (V2 rfl rfl) T.sum aF (j7 (Ev.bw (O0 (osc:=(defScope Gz)) (N:=["number","lot"]) (k:=2) (cap:=[]) rfl rfl ⟨rfl,by decide +kernel,by decide +kernel,by decide +kernel,rfl,rfl,by decide +kernel⟩ (B7 (h8 0)) (λcl C ex vv s H=>(r8 (n:=2) rfl (d4 (m4 (i:=0) (show List.Nodup (["number","lot"]:List Str) by decide +kernel)) (d4 (m4 (i:=1) (show List.Nodup (["number","lot"]:List Str) by decide +kernel)) l8)))) (λcl C ex vv s H=>u8) (λcl C ex vv s H=>(f7 1)))) m7)) i6)) (i7 (i7 i5))))))⟩
def D7:FnScope ["row","bottom","thing","share"] ["row"] (defScope Ge):={}
def F0:List DV->M My:=B9 ["row","bottom","thing","share"] (mSq (x8 1 (sC (.int 1)))
  (mSq (X2 (C6 (sV 0)) (w6 2 (d8 (bN 2) (d8 (bN 3) x3))) (x8 1 (s2 dw (s2 J9 (sW 1) (s2 ixD (sW 3) (sC (.int 1)))) (j8 D2 (vD (sV 1) (vD (s2 ixD (sW 3) (sC (.int 1))) n9))))))
  (mRt (sV 1))))
def HV {f:RD}{fd:RJ}(Fn:Fun K "common_bottom" "common_bottom" Ge f fd)(T:Txt K mg)(FB:g9 P w K mg base "common_divisor" 1 ["one","other"] (spD K 2 D2)):FnOk P w K mg base CX0 2 f fd ["row"] (spD K 1 F0):=by
 refine t9 Fn D7 λSi A outer s H E hr=>?_
 exact⟨_,(d7 (p7 1 D7.nd i4)
   (d7 (N5 rfl (Q9 (f7 0)) (r8 (n:=2) rfl (d4 (m4 (i:=2) D7.nd) (d4 (m4 (i:=3) D7.nd) l8))) (h9 (p7 1 D7.nd (u5 aY (Ev.bw (u5 (J3 rfl) (h8 1) (Ev.bw (x4 (x5 rfl) (h8 3) (Ev.bw i4))))) (Ev.bw (f9 FB (hr.mono (by decide)) (i8 (f7 1) (i8 (x4 (x5 rfl) (h8 3) (Ev.bw i4)) i6)) (i7 (i7 i5))))))))
   (h9 (m8 (f7 1)))))⟩
def bK:FnScope ["row","bottom"] ["row"] (defScope Gh):={}
def u7:List DV->M My:=B9 ["row","bottom"] (mSq (x8 1 (j8 F0 (vD (sV 0) n9)))
  (mRt (sLC (C6 (sW 0)) 3 [1] (w6 2 (d8 (bN 0) (d8 (w6 2 (d8 (bN 1) (d8 (bN 2) x3))) x3))) A6 (s2 J9 (sW 1) (s2 dw (sW 3) (sW 2))))))
def Jc {f:RD}{fd:RJ}(Fn:Fun K "weights_of" "weights_of" Gh f fd)(T:Txt K mg)(Gf:g9 P w K mg base "common_bottom" 2 ["row"] (spD K 1 F0)):FnOk P w K mg base CX0 3 f fd ["row"] (spD K 1 u7):=by
 refine t9 Fn bK λSi A outer s H E hr=>?_
 exact⟨_,(d7 (p7 1 bK.nd (f9 Gf (hr.mono (by decide)) (i8 (f7 0) i6) (i7 i5)))
   (h9 (m8 (O0 (osc:=(defScope Gh)) (N:=["thing","top","below","bottom"]) (k:=3) (cap:=[1]) rfl rfl ⟨rfl,by decide +kernel,by decide +kernel,by decide +kernel,rfl,rfl,by decide +kernel⟩ (B7 (h8 0)) (λcl C ex vv s H=>(r8 (n:=2) rfl (d4 (m4 (i:=0) (show List.Nodup (["thing","top","below","bottom"]:List Str) by decide +kernel)) (d4 (r8 (n:=2) rfl (d4 (m4 (i:=1) (show List.Nodup (["thing","top","below","bottom"]:List Str) by decide +kernel)) (d4 (m4 (i:=2) (show List.Nodup (["thing","top","below","bottom"]:List Str) by decide +kernel)) l8))) l8)))) (λcl C ex vv s H=>u8) (λcl C ex vv s H=>(u5 (J3 rfl) (h8 1) (Ev.bw (u5 aY (h8 3) (h8 2)))))))))⟩
def wA:FnScope ["rule"] ["rule"] (defScope IA):={}
abbrev kh:=cV
def Ln {f:RD}{fd:RJ}(Fn:Fun K "keeps" "keeps" IA f fd)(T:Txt K mg) :FnOk P w K mg base CX0 1 f fd ["rule"] (spD K 1 kh):=by
 refine t9 Fn wA λSi A outer s H E hr=>?_
 have hu5:(A.deeper (PyProof.Rows.envOfC "keeps" (defScope IA) s.heap.objs.size f Si)).units+65<Sa:=by have:=hr.un;omega
 exact⟨_,(h9 (m8 (Y4 (jk rfl hu5) (h8 0) (Ev.bw (EE T.g_KEEPING)))))⟩
def jG:FnScope ["stand"] ["stand"] (defScope Gn):={}
def M3:List DV->M My:=B9 ["stand"] (mRt (sN S4 (c7 (sLC (C6 (sW 0)) 3 [] (w6 3 (d8 (bN 0) (d8 (bN 1) (d8 (bN 2) x3)))) A6 (sV 1)) j6)))
def Jr {f:RD}{fd:RJ}(Fn:Fun K "work_left" "work_left" Gn f fd)(T:Txt K mg) :FnOk P w K mg base CX0 1 f fd ["stand"] (spD K 1 M3):=by
 refine t9 Fn jG λSi A outer s H E hr=>?_
 exact⟨_,(h9 (m8 (k9 (V2 rfl rfl) T.sum aF (j7 (Ev.bw (O0 (osc:=(defScope Gn)) (N:=["rank","left","begun"]) (k:=3) (cap:=[]) rfl rfl ⟨rfl,by decide +kernel,by decide +kernel,by decide +kernel,rfl,rfl,by decide +kernel⟩ (B7 (h8 0)) (λcl C ex vv s H=>(r8 (n:=3) rfl (d4 (m4 (i:=0) (show List.Nodup (["rank","left","begun"]:List Str) by decide +kernel)) (d4 (m4 (i:=1) (show List.Nodup (["rank","left","begun"]:List Str) by decide +kernel)) (d4 (m4 (i:=2) (show List.Nodup (["rank","left","begun"]:List Str) by decide +kernel)) l8))))) (λcl C ex vv s H=>u8) (λcl C ex vv s H=>(f7 1)))) m7))))⟩
def nT:FnScope ["house","stand"] ["house","stand"] (defScope HR):={}
abbrev bA:=bo
def Kk {f:RD}{fd:RJ}(Fn:Fun K "in_hand" "in_hand" HR f fd)(T:Txt K mg) :FnOk P w K mg base CX0 1 f fd ["house","stand"] (spD K 2 bA):=by
 refine t9 Fn nT λSi A outer s H E hr=>?_
 exact⟨_,(h9 (m8 (k9 (nO rfl rfl) T.min oj (j7 (Ev.bw (x4 (x5 rfl) (h8 0) (Ev.bw i4))) (j7 (Ev.bw (k9 (G3 rfl) T.len G7 (j7 (h8 1) m7))) m7)))))⟩
def bg:FnScope ["house","stand","beat","places","room","entered"] ["house","stand","beat"] (defScope HK):={}
abbrev N7:=aN
def KS {f:RD}{fd:RJ}(Fn:Fun K "let_in" "let_in" HK f fd)(T:Txt K mg) :FnOk P w K mg base CX0 1 f fd ["house","stand","beat"] (spD K 3 N7):=by
 refine t9 Fn bg λSi A outer s H E hr=>?_
 exact⟨_,(d7 (p7 3 bg.nd (x4 (x5 rfl) (h8 0) (Ev.bw i4)))
   (d7 (p7 4 bg.nd (zR (A1 Ah (h8 3) (Ev.bw fY)) (k9 (G3 rfl) T.len G7 (j7 (h8 2) m7)) (u5 W3 (h8 3) (Ev.bw (k9 (G3 rfl) T.len G7 (j7 (h8 1) m7))))))
   (d7 (cH 5 (hN:=bg.nd) (osc:=(defScope HK)) (N:=["rank","work"]) (k:=2) (cap:=[]) (hc:=rfl) (hosc:=rfl) (hcap:=⟨rfl,by decide +kernel,by decide +kernel,by decide +kernel,rfl,rfl,by decide +kernel⟩) (B7 (Ev.bw (uA (h8 2) zN (Ep (f7 4))))) (λcl C ex vv s H=>(r8 (n:=2) rfl (d4 (m4 (i:=0) (show List.Nodup (["rank","work"]:List Str) by decide +kernel)) (d4 (m4 (i:=1) (show List.Nodup (["rank","work"]:List Str) by decide +kernel)) l8)))) (λcl C ex vv s H=>u8) (λcl C ex vv s H=>(x9 (d0 (f7 0) (d0 (f7 1) (d0 hZ l3))))))
   (h9 (m8 (x9 (d0 (u5 (E3 rfl) (h8 1) (Ev.bw (J8 (Q1 rfl) T.tuple P5 (j7 (h8 5) m7)))) (d0 (u5 W3 (Ev.bw (k9 (G3 rfl) T.len G7 (j7 (h8 2) m7))) (Ev.bw (k9 (G3 rfl) T.len G7 (j7 (h8 5) m7)))) l3))))))))⟩
def fo:FnScope ["rule","stand","places"] ["rule","stand"] (defScope FW):={}
abbrev gz:=Gj
def JK {f c P0:RD}{fd:RJ}(Fn:Fun K "lined_up" "lined_up" FW f fd)(T:Txt K mg)(LB:LamB K mg base "lined_up" fd c P0) :FnOk P w K mg base CX0 1 f fd ["rule","stand"] (spD K 2 gz):=by
 refine qL Fn fo λSi A outer s H E hcd hr=>?_
 obtain rfl:Si = .ref c:=hcd.symm.trans LB.code;have hu5:(A.deeper (PyProof.Rows.envOfC "lined_up" (defScope FW) s.heap.objs.size f (.ref c))).units+65<Sa:=by have:=hr.un;omega
 exact⟨_,(d7 (p7 2 fo.nd (uD (d0 (k9 (G3 rfl) T.len G7 (j7 (h8 1) m7)) l3) rfl T.range T.list bq))
   (d7 (Q4 (A1 (jk rfl hu5) (h8 0) (Ev.bw (kf (.tuple [.str "last",.str "lastoff"]) rfl))) (h9 (m8 (BC (h8 2)))) Q6)
   (d7 (Q4 (A1 (jk rfl hu5) (h8 0) (Ev.bw (kf (.tuple [.str "short",.str "shortoff"]) rfl))) (h9 (m8 (vw (osc:=(defScope FW)) (N:=["place","stand"]) (cap:=[1]) (y:="place") LB rfl T.sorted hr rfl (d0 (f7 2) l3) rfl ⟨rfl,rfl,rfl,by decide +kernel,rfl,rfl,by decide +kernel,rfl,rfl,by decide +kernel⟩ rfl rfl (λcl f c' Y s H=>(x4 (x5 rfl) (Ev.bw (x4 (x5 rfl) (h8 1) (h8 0))) (Ev.bw i4)))))) Q6)
   (d7 (Q4 (A1 (jk rfl hu5) (h8 0) (Ev.bw (kf (.tuple [.str "front",.str "frontoff"]) rfl))) (h9 (m8 (vw (osc:=(defScope FW)) (N:=["place","stand"]) (cap:=[1]) (y:="place") LB rfl T.sorted hr rfl (d0 (f7 2) l3) rfl ⟨rfl,rfl,rfl,by decide +kernel,rfl,rfl,by decide +kernel,rfl,rfl,by decide +kernel⟩ rfl rfl (λcl f c' Y s H=>(x4 (x5 rfl) (Ev.bw (x4 (x5 rfl) (h8 1) (h8 0))) (Ev.bw i4)))))) Q6)
   (h9 (m8 (f7 2)))))))⟩
def R8:FnScope ["house","stand","hands","places","rule","order"] ["house","stand"] (defScope HL):={}
abbrev ny:=GP
def KU {f c P0:RD}{fd:RJ}(Fn:Fun K "picked" "picked" HL f fd)(T:Txt K mg)(LB:LamB K mg base "picked" fd c P0)(Hx:g9 P w K mg base "lined_up" 1 ["rule","stand"] (spD K 2 gz))(Hr:g9 P w K mg base "keeps" 1 ["rule"] (spD K 1 kh)):FnOk P w K mg base CX0 2 f fd ["house","stand"] (spD K 2 ny):=by
 refine qL Fn R8 λSi A outer s H E hcd hr=>?_
 obtain rfl:Si = .ref c:=hcd.symm.trans LB.code;exact⟨_,(d7 (dO (f7 0) (r8 (n:=3) rfl (d4 (m4 (i:=2) R8.nd) (d4 (m4 (i:=3) R8.nd) (d4 (m4 (i:=4) R8.nd) l8)))))
   (d7 (p7 5 R8.nd (f9 Hx (hr.mono (by decide)) (i8 (f7 4) (i8 (f7 1) i6)) (i7 (i7 i5))))
   (d7 (Q4 (pP (Ev.bw (f9 Hr (hr.mono (by decide)) (i8 (f7 4) i6) (i7 i5)))) (h9 (p7 5 R8.nd (vw (osc:=(defScope HL)) (N:=["place","stand"]) (cap:=[1]) (y:="place") LB rfl T.sorted hr rfl (d0 (f7 5) l3) rfl ⟨rfl,rfl,rfl,by decide +kernel,rfl,rfl,by decide +kernel,rfl,rfl,by decide +kernel⟩ rfl rfl (λcl f c' Y s H=>(Cg (x4 (x5 rfl) (Ev.bw (x4 (x5 rfl) (h8 1) (h8 0))) (Ev.bw i4))))))) Q6)
   (h9 (m8 (J8 (Q1 rfl) T.tuple P5 (j7 (Ev.bw (k9 (iO rfl) T.sorted X5 (j7 (Ev.bw (uA (h8 5) zN (Ep (f7 2)))) m7))) m7)))))))⟩
def G0:FnScope ["house","stand","rule","hands_on","waiting","served","gone","place","rank","left","begun","staying"] ["house","stand"] (defScope GQ):={}
abbrev ni:=cW
def KW {f:RD}{fd:RJ}(Fn:Fun K "worked" "worked" GQ f fd)(T:Txt K mg)(IB:g9 P w K mg base "picked" 2 ["house","stand"] (spD K 2 ny))(Hr:g9 P w K mg base "keeps" 1 ["rule"] (spD K 1 kh)):FnOk P w K mg base CX0 3 f fd ["house","stand"] (spD K 2 ni):=by
 refine t9 Fn G0 λSi A outer s H E hr=>?_
 have hu5:(A.deeper (PyProof.Rows.envOfC "worked" (defScope GQ) s.heap.objs.size f Si)).units+65<Sa:=by have:=hr.un;omega
 exact⟨_,(d7 (p7 2 G0.nd (x4 (x5 rfl) (h8 0) (Ev.bw i4)))
   (d7 (p7 3 G0.nd (f9 IB (hr.mono (by decide)) (i8 (f7 0) (i8 (f7 1) i6)) (i7 (i7 i5))))
   (d7 (cH 4 (hN:=G0.nd) (osc:=(defScope GQ)) (N:=["place","person","hands_on"]) (k:=2) (cap:=[3]) (hc:=rfl) (hosc:=rfl) (hcap:=⟨rfl,by decide +kernel,by decide +kernel,by decide +kernel,rfl,rfl,by decide +kernel⟩) (tO (h8 1) T.enumerate) (λcl C ex vv s H=>(r8 (n:=2) rfl (d4 (m4 (i:=0) (show List.Nodup (["place","person","hands_on"]:List Str) by decide +kernel)) (d4 (m4 (i:=1) (show List.Nodup (["place","person","hands_on"]:List Str) by decide +kernel)) l8)))) (λcl C ex vv s H=>(ko (A1 (gH rfl hu5) (h8 0) (h8 2)))) (λcl C ex vv s H=>(x9 (d0 (f7 0) (d0 (f7 1) l3)))))
   (d7 (zr 5 6 rfl G0.nd (Eh (bV l3)) (Eh (bV l3)))
   (d7 (N5 rfl (Q9 (f7 3)) (m4 (i:=7) G0.nd) (d7 (dO (x4 (x5 rfl) (h8 1) (h8 7)) (r8 (n:=3) rfl (d4 (m4 (i:=8) G0.nd) (d4 (m4 (i:=9) G0.nd) (d4 (m4 (i:=10) G0.nd) l8)))))
   (h9 (Q4 (A1 qW (h8 9) (Ev.bw i4)) (h9 (Y6 5 rfl (x9 (d0 (f7 7) (d0 (x9 (d0 (f7 8) (d0 (u5 W3 (h8 9) (Ev.bw i4)) (d0 (f9 Hr (hr.mono (by decide)) (i8 (f7 2) i6) (i7 i5)) l3)))) l3))))) (h9 (Y6 6 rfl (f7 7)))))))
   (d7 (p7 11 G0.nd (zR (A1 (aJ rfl hr.units) (h8 2) (Ev.bw Z0)) (u5 (E3 rfl) (h8 4) (h8 5)) (k9 (iO rfl) T.sorted X5 (j7 (Ev.bw (u5 (E3 rfl) (h8 4) (h8 5))) m7))))
   (h9 (m8 (x9 (d0 (f7 11) (d0 (f7 3) (d0 (J8 (Q1 rfl) T.tuple P5 (j7 (h8 6) m7)) l3))))))))))))⟩
def aU:FnScope ["house","stand","beat","filled","lost","staying","hands_on","gone"] ["house","stand","beat"] (defScope Jq):={}
abbrev jF:=jW
def LA {f:RD}{fd:RJ}(Fn:Fun K "step" "step" Jq f fd)(T:Txt K mg)(FJ:g9 P w K mg base "let_in" 1 ["house","stand","beat"] (spD K 3 N7))(ID:g9 P w K mg base "worked" 3 ["house","stand"] (spD K 2 ni)):FnOk P w K mg base CX0 4 f fd ["house","stand","beat"] (spD K 3 jF):=by
 refine t9 Fn aU λSi A outer s H E hr=>?_
 exact⟨_,(d7 (dO (f9 FJ (hr.mono (by decide)) (i8 (f7 0) (i8 (f7 1) (i8 (f7 2) i6))) (i7 (i7 (i7 i5)))) (r8 (n:=2) rfl (d4 (m4 (i:=3) aU.nd) (d4 (m4 (i:=4) aU.nd) l8))))
   (d7 (dO (f9 ID (hr.mono (by decide)) (i8 (f7 0) (i8 (f7 3) i6)) (i7 (i7 i5))) (r8 (n:=3) rfl (d4 (m4 (i:=5) aU.nd) (d4 (m4 (i:=6) aU.nd) (d4 (m4 (i:=7) aU.nd) l8)))))
   (h9 (m8 (x9 (d0 (J8 (Q1 rfl) T.tuple P5 (j7 (Ev.bw (O0 (osc:=(defScope Jq)) (N:=["place","person"]) (k:=2) (cap:=[]) rfl rfl ⟨rfl,by decide +kernel,by decide +kernel,by decide +kernel,rfl,rfl,by decide +kernel⟩ (B7 (h8 5)) (λcl C ex vv s H=>(r8 (n:=2) rfl (d4 (m4 (i:=0) (show List.Nodup (["place","person"]:List Str) by decide +kernel)) (d4 (m4 (i:=1) (show List.Nodup (["place","person"]:List Str) by decide +kernel)) l8)))) (λcl C ex vv s H=>u8) (λcl C ex vv s H=>(f7 1)))) m7)) (d0 (f7 4) (d0 (f7 7) l3))))))))⟩
def nN:FnScope ["house","stand","beat"] ["house","stand","beat"] (defScope HS):={}
def M0:List DV->M My:=B9 ["house","stand","beat"] (mRt (s2 ixD (j8 N7 (vD (sV 0) (vD (sV 1) (vD (sV 2) n9)))) (sC (.int 1))))
def Kl {f:RD}{fd:RJ}(Fn:Fun K "lost_in" "lost_in" HS f fd)(T:Txt K mg)(FJ:g9 P w K mg base "let_in" 1 ["house","stand","beat"] (spD K 3 N7)):FnOk P w K mg base CX0 2 f fd ["house","stand","beat"] (spD K 3 M0):=by
 refine t9 Fn nN λSi A outer s H E hr=>?_
 exact⟨_,(h9 (m8 (x4 (x5 rfl) (Ev.bw (f9 FJ (hr.mono (by decide)) (i8 (f7 0) (i8 (f7 1) (i8 (f7 2) i6))) (i7 (i7 (i7 i5))))) (Ev.bw i4))))⟩
def iF:FnScope ["house","stand","beat"] ["house","stand","beat"] (defScope GC):={}
def G9:List DV->M My:=B9 ["house","stand","beat"] (mRt (s2 cw (sN T6 (c7 (sW 2) j6)) (j8 M0 (vD (sV 0) (vD (sV 1) (vD (sV 2) n9))))))
def Jd {f:RD}{fd:RJ}(Fn:Fun K "entered_in" "entered_in" GC f fd)(T:Txt K mg)(Gi:g9 P w K mg base "lost_in" 2 ["house","stand","beat"] (spD K 3 M0)):FnOk P w K mg base CX0 3 f fd ["house","stand","beat"] (spD K 3 G9):=by
 refine t9 Fn iF λSi A outer s H E hr=>?_
 exact⟨_,(h9 (m8 (u5 W3 (Ev.bw (k9 (G3 rfl) T.len G7 (j7 (h8 2) m7))) (Ev.bw (f9 Gi (hr.mono (by decide)) (i8 (f7 0) (i8 (f7 1) (i8 (f7 2) i6))) (i7 (i7 (i7 i5))))))))⟩
def jJ:FnScope ["house","stand","beat"] ["house","stand","beat"] (defScope GR):={}
def L6:List DV->M My:=B9 ["house","stand","beat"] (mRt (j8 bA (vD (sV 0) (vD (s2 ixD (j8 N7 (vD (sV 0) (vD (sV 1) (vD (sV 2) n9)))) (sC (.int 0))) n9))))
def Js {f:RD}{fd:RJ}(Fn:Fun K "picked_in" "picked_in" GR f fd)(T:Txt K mg)(HW:g9 P w K mg base "in_hand" 1 ["house","stand"] (spD K 2 bA))(FJ:g9 P w K mg base "let_in" 1 ["house","stand","beat"] (spD K 3 N7)):FnOk P w K mg base CX0 2 f fd ["house","stand","beat"] (spD K 3 L6):=by
 refine t9 Fn jJ λSi A outer s H E hr=>?_
 exact⟨_,(h9 (m8 (f9 HW (hr.mono (by decide)) (i8 (f7 0) (i8 (x4 (x5 rfl) (Ev.bw (f9 FJ (hr.mono (by decide)) (i8 (f7 0) (i8 (f7 1) (i8 (f7 2) i6))) (i7 (i7 (i7 i5))))) (Ev.bw i4)) i6)) (i7 (i7 i5)))))⟩
def oh:FnScope ["house","stand","beat"] ["house","stand","beat"] (defScope HU):={}
def R7:List DV->M My:=B9 ["house","stand","beat"] (mRt (sN T6 (c7 (s2 ixD (j8 jF (vD (sV 0) (vD (sV 1) (vD (sV 2) n9)))) (sC (.int 2))) j6)))
def Km {f:RD}{fd:RJ}(Fn:Fun K "gone_in" "gone_in" HU f fd)(T:Txt K mg)(Kn:g9 P w K mg base "step" 4 ["house","stand","beat"] (spD K 3 jF)):FnOk P w K mg base CX0 5 f fd ["house","stand","beat"] (spD K 3 R7):=by
 refine t9 Fn oh λSi A outer s H E hr=>?_
 exact⟨_,(h9 (m8 (k9 (G3 rfl) T.len G7 (j7 (Ev.bw (x4 (x5 rfl) (Ev.bw (f9 Kn (hr.mono (by decide)) (i8 (f7 0) (i8 (f7 1) (i8 (f7 2) i6))) (i7 (i7 (i7 i5))))) (Ev.bw i4))) m7))))⟩
def fN:FnScope ["house","stand","beat"] ["house","stand","beat"] (defScope Gu):={}
def G1:List DV->M My:=B9 ["house","stand","beat"] (mRt (s2 cw (j8 M3 (vD (s2 ixD (j8 N7 (vD (sV 0) (vD (sV 1) (vD (sV 2) n9)))) (sC (.int 0))) n9)) (j8 M3 (vD (sV 1) n9))))
def IE {f:RD}{fd:RJ}(Fn:Fun K "work_let_in" "work_let_in" Gu f fd)(T:Txt K mg)(Gs:g9 P w K mg base "work_left" 1 ["stand"] (spD K 1 M3))(FJ:g9 P w K mg base "let_in" 1 ["house","stand","beat"] (spD K 3 N7)):FnOk P w K mg base CX0 2 f fd ["house","stand","beat"] (spD K 3 G1):=by
 refine t9 Fn fN λSi A outer s H E hr=>?_
 exact⟨_,(h9 (m8 (u5 W3 (Ev.bw (f9 Gs (hr.mono (by decide)) (i8 (x4 (x5 rfl) (Ev.bw (f9 FJ (hr.mono (by decide)) (i8 (f7 0) (i8 (f7 1) (i8 (f7 2) i6))) (i7 (i7 (i7 i5))))) (Ev.bw i4)) i6) (i7 i5))) (Ev.bw (f9 Gs (hr.mono (by decide)) (i8 (f7 1) i6) (i7 i5))))))⟩
def jP:FnScope ["beats"] ["beats"] (defScope Gp):={}
def M5:List DV->M My:=B9 ["beats"] (mRt (j8 y6 (vD (sLC (C6 (sW 0)) 2 [] (w6 2 (d8 (bN 0) (d8 (bN 1) x3))) A6 (E8 (c7 (sN T6 (c7 (sW 0) j6)) (c7 (sV 1) j6)))) n9)))
def Jt {f:RD}{fd:RJ}(Fn:Fun K "come_mean" "come_mean" Gp f fd)(T:Txt K mg)(Fy:g9 P w K mg base "mean_of" 3 ["pairs"] (spD K 1 y6)):FnOk P w K mg base CX0 4 f fd ["beats"] (spD K 1 M5):=by
 refine t9 Fn jP λSi A outer s H E hr=>?_
 exact⟨_,(h9 (m8 (f9 Fy (hr.mono (by decide)) (i8 (O0 (osc:=(defScope Gp)) (N:=["beat","lot"]) (k:=2) (cap:=[]) rfl rfl ⟨rfl,by decide +kernel,by decide +kernel,by decide +kernel,rfl,rfl,by decide +kernel⟩ (B7 (h8 0)) (λcl C ex vv s H=>(r8 (n:=2) rfl (d4 (m4 (i:=0) (show List.Nodup (["beat","lot"]:List Str) by decide +kernel)) (d4 (m4 (i:=1) (show List.Nodup (["beat","lot"]:List Str) by decide +kernel)) l8)))) (λcl C ex vv s H=>u8) (λcl C ex vv s H=>(x9 (d0 (k9 (G3 rfl) T.len G7 (j7 (h8 0) m7)) (d0 (f7 1) l3))))) i6) (i7 i5))))⟩
def R9:FnScope ["house","beats","row","measure"] ["house","beats","row","measure"] (defScope FC):={}
def C9:List DV->M My:=B9 ["house","beats","row","measure"] (mRt (j8 y6 (vD (kC (Z2 (sV 2) (j8 u7 (vD (sV 2) n9))) 5 [3,0,1] (w6 2 (d8 (w6 2 (d8 (bN 0) (d8 (bN 1) x3))) (d8 (bN 2) x3))) A6 (C6 (sV 7)) (w6 2 (d8 (bN 3) (d8 (bN 4) x3))) A6 (E8 (c7 (V9 5 "lost_in" M0 (vD (sV 6) (vD (sV 0) (vD (sV 3) n9)))) (c7 (s2 J9 (sW 2) (sW 4)) j6)))) n9)))
def GX {f:RD}{fd:RJ}(Fn:Fun K "mean_in" "mean_in" FC f fd)(T:Txt K mg)(Fy:g9 P w K mg base "mean_of" 3 ["pairs"] (spD K 1 y6))(Fo:g9 P w K mg base "weights_of" 3 ["row"] (spD K 1 u7))(Gi:g9 P w K mg base "lost_in" 2 ["house","stand","beat"] (spD K 3 M0))(FY:FnG K mg "lost_in"):FnOk P w K mg base CX0 4 f fd ["house","beats","row","measure"] (spD K 4 C9):=by
 walk_at "kad"
 exact⟨_,(h9 (m8 (f9 Fy (hr.mono (by decide)) (i8 (gn (osc:=(defScope FC)) (N:=["stand","share","weight","beat","lot","measure","house","beats"]) (k:=5) (cap:=[3,0,1]) rfl rfl ⟨rfl,by decide +kernel,by decide +kernel,by decide +kernel,rfl,rfl,by decide +kernel⟩ (Ei.bw (ao (f7 2) (f9 Fo (hr.mono (by decide)) (i8 (f7 2) i6) (i7 i5)) T.zip)) (λcl C ex vv s H=>(r8 (n:=2) rfl (d4 (r8 (n:=2) rfl (d4 (m4 (i:=0) (show List.Nodup (["stand","share","weight","beat","lot","measure","house","beats"]:List Str) by decide +kernel)) (d4 (m4 (i:=1) (show List.Nodup (["stand","share","weight","beat","lot","measure","house","beats"]:List Str) by decide +kernel)) l8))) (d4 (m4 (i:=2) (show List.Nodup (["stand","share","weight","beat","lot","measure","house","beats"]:List Str) by decide +kernel)) l8)))) (λcl C ex vv s H=>u8) (λcl C ex vv s H=>(Q9 (f7 7))) (λcl C ex vv s H=>(r8 (n:=2) rfl (d4 (m4 (i:=3) (show List.Nodup (["stand","share","weight","beat","lot","measure","house","beats"]:List Str) by decide +kernel)) (d4 (m4 (i:=4) (show List.Nodup (["stand","share","weight","beat","lot","measure","house","beats"]:List Str) by decide +kernel)) l8)))) (λcl C ex vv s H=>u8) (λcl C ex vv s H=>(x9 (d0 (au 5 Gi FY (hr.mono (by decide)) (i8 (f7 6) (i8 (f7 0) (i8 (f7 3) i6))) (i7 (i7 (i7 i5)))) (d0 (u5 (J3 rfl) (h8 2) (h8 4)) l3))))) i6) (i7 i5))))⟩
def jO:FnScope ["house","beats","row"] ["house","beats","row"] (defScope GS):={}
def M4:List DV->M My:=B9 ["house","beats","row"] (mRt (j8 C9 (vD (sV 0) (vD (sV 1) (vD (sV 2) (vG "lost_in" n9))))))
def Ju {f:RD}{fd:RJ}(Fn:Fun K "lost_mean" "lost_mean" GS f fd)(T:Txt K mg)(FQ:g9 P w K mg base "mean_in" 4 ["house","beats","row","measure"] (spD K 4 C9))(FY:FnG K mg "lost_in"):FnOk P w K mg base CX0 5 f fd ["house","beats","row"] (spD K 3 M4):=by
 refine t9 Fn jO λSi A outer s H E hr=>?_
 exact⟨_,(h9 (m8 (f9 FQ (hr.mono (by decide)) (i8 (f7 0) (i8 (f7 1) (i8 (f7 2) (uI FY i6)))) (i7 (i7 (i7 (tT i5)))))))⟩
def A5:List DV->M My:=B9 ["house","beats","row","measure"] (mRt (j8 y6 (vD (kC (Z2 (sV 2) (j8 u7 (vD (sV 2) n9))) 5 [3,0,1] (w6 2 (d8 (w6 2 (d8 (bN 0) (d8 (bN 1) x3))) (d8 (bN 2) x3))) A6 (C6 (sV 7)) (w6 2 (d8 (bN 3) (d8 (bN 4) x3))) A6 (E8 (c7 (V9 5 "entered_in" G9 (vD (sV 6) (vD (sV 0) (vD (sV 3) n9)))) (c7 (s2 J9 (sW 2) (sW 4)) j6)))) n9)))
def GA {f:RD}{fd:RJ}(Fn:Fun K "mean_in" "mean_in" FC f fd)(T:Txt K mg)(Fy:g9 P w K mg base "mean_of" 3 ["pairs"] (spD K 1 y6))(Fo:g9 P w K mg base "weights_of" 3 ["row"] (spD K 1 u7))(GH:g9 P w K mg base "entered_in" 3 ["house","stand","beat"] (spD K 3 G9))(FK:FnG K mg "entered_in"):FnOk P w K mg base CX0 4 f fd ["house","beats","row","measure"] (spD K 4 A5):=by
 walk_at "kad"
 exact⟨_,(h9 (m8 (f9 Fy (hr.mono (by decide)) (i8 (gn (osc:=(defScope FC)) (N:=["stand","share","weight","beat","lot","measure","house","beats"]) (k:=5) (cap:=[3,0,1]) rfl rfl ⟨rfl,by decide +kernel,by decide +kernel,by decide +kernel,rfl,rfl,by decide +kernel⟩ (Ei.bw (ao (f7 2) (f9 Fo (hr.mono (by decide)) (i8 (f7 2) i6) (i7 i5)) T.zip)) (λcl C ex vv s H=>(r8 (n:=2) rfl (d4 (r8 (n:=2) rfl (d4 (m4 (i:=0) (show List.Nodup (["stand","share","weight","beat","lot","measure","house","beats"]:List Str) by decide +kernel)) (d4 (m4 (i:=1) (show List.Nodup (["stand","share","weight","beat","lot","measure","house","beats"]:List Str) by decide +kernel)) l8))) (d4 (m4 (i:=2) (show List.Nodup (["stand","share","weight","beat","lot","measure","house","beats"]:List Str) by decide +kernel)) l8)))) (λcl C ex vv s H=>u8) (λcl C ex vv s H=>(Q9 (f7 7))) (λcl C ex vv s H=>(r8 (n:=2) rfl (d4 (m4 (i:=3) (show List.Nodup (["stand","share","weight","beat","lot","measure","house","beats"]:List Str) by decide +kernel)) (d4 (m4 (i:=4) (show List.Nodup (["stand","share","weight","beat","lot","measure","house","beats"]:List Str) by decide +kernel)) l8)))) (λcl C ex vv s H=>u8) (λcl C ex vv s H=>(x9 (d0 (au 5 GH FK (hr.mono (by decide)) (i8 (f7 6) (i8 (f7 0) (i8 (f7 3) i6))) (i7 (i7 (i7 i5)))) (d0 (u5 (J3 rfl) (h8 2) (h8 4)) l3))))) i6) (i7 i5))))⟩
def mT:FnScope ["house","beats","row"] ["house","beats","row"] (defScope Hu):={}
def O1:List DV->M My:=B9 ["house","beats","row"] (mRt (j8 A5 (vD (sV 0) (vD (sV 1) (vD (sV 2) (vG "entered_in" n9))))))
def JL {f:RD}{fd:RJ}(Fn:Fun K "let_mean" "let_mean" Hu f fd)(T:Txt K mg)(FH:g9 P w K mg base "mean_in" 4 ["house","beats","row","measure"] (spD K 4 A5))(FK:FnG K mg "entered_in"):FnOk P w K mg base CX0 5 f fd ["house","beats","row"] (spD K 3 O1):=by
 refine t9 Fn mT λSi A outer s H E hr=>?_
 exact⟨_,(h9 (m8 (f9 FH (hr.mono (by decide)) (i8 (f7 0) (i8 (f7 1) (i8 (f7 2) (uI FK i6)))) (i7 (i7 (i7 (tT i5)))))))⟩
def B8:List DV->M My:=B9 ["house","beats","row","measure"] (mRt (j8 y6 (vD (kC (Z2 (sV 2) (j8 u7 (vD (sV 2) n9))) 5 [3,0,1] (w6 2 (d8 (w6 2 (d8 (bN 0) (d8 (bN 1) x3))) (d8 (bN 2) x3))) A6 (C6 (sV 7)) (w6 2 (d8 (bN 3) (d8 (bN 4) x3))) A6 (E8 (c7 (V9 5 "picked_in" L6 (vD (sV 6) (vD (sV 0) (vD (sV 3) n9)))) (c7 (s2 J9 (sW 2) (sW 4)) j6)))) n9)))
def GJ {f:RD}{fd:RJ}(Fn:Fun K "mean_in" "mean_in" FC f fd)(T:Txt K mg)(Fy:g9 P w K mg base "mean_of" 3 ["pairs"] (spD K 1 y6))(Fo:g9 P w K mg base "weights_of" 3 ["row"] (spD K 1 u7))(GY:g9 P w K mg base "picked_in" 2 ["house","stand","beat"] (spD K 3 L6))(FP:FnG K mg "picked_in"):FnOk P w K mg base CX0 4 f fd ["house","beats","row","measure"] (spD K 4 B8):=by
 walk_at "kad"
 exact⟨_,(h9 (m8 (f9 Fy (hr.mono (by decide)) (i8 (gn (osc:=(defScope FC)) (N:=["stand","share","weight","beat","lot","measure","house","beats"]) (k:=5) (cap:=[3,0,1]) rfl rfl ⟨rfl,by decide +kernel,by decide +kernel,by decide +kernel,rfl,rfl,by decide +kernel⟩ (Ei.bw (ao (f7 2) (f9 Fo (hr.mono (by decide)) (i8 (f7 2) i6) (i7 i5)) T.zip)) (λcl C ex vv s H=>(r8 (n:=2) rfl (d4 (r8 (n:=2) rfl (d4 (m4 (i:=0) (show List.Nodup (["stand","share","weight","beat","lot","measure","house","beats"]:List Str) by decide +kernel)) (d4 (m4 (i:=1) (show List.Nodup (["stand","share","weight","beat","lot","measure","house","beats"]:List Str) by decide +kernel)) l8))) (d4 (m4 (i:=2) (show List.Nodup (["stand","share","weight","beat","lot","measure","house","beats"]:List Str) by decide +kernel)) l8)))) (λcl C ex vv s H=>u8) (λcl C ex vv s H=>(Q9 (f7 7))) (λcl C ex vv s H=>(r8 (n:=2) rfl (d4 (m4 (i:=3) (show List.Nodup (["stand","share","weight","beat","lot","measure","house","beats"]:List Str) by decide +kernel)) (d4 (m4 (i:=4) (show List.Nodup (["stand","share","weight","beat","lot","measure","house","beats"]:List Str) by decide +kernel)) l8)))) (λcl C ex vv s H=>u8) (λcl C ex vv s H=>(x9 (d0 (au 5 GY FP (hr.mono (by decide)) (i8 (f7 6) (i8 (f7 0) (i8 (f7 3) i6))) (i7 (i7 (i7 i5)))) (d0 (u5 (J3 rfl) (h8 2) (h8 4)) l3))))) i6) (i7 i5))))⟩
def fZ:FnScope ["house","beats","row"] ["house","beats","row"] (defScope Gv):={}
def G2:List DV->M My:=B9 ["house","beats","row"] (mRt (j8 B8 (vD (sV 0) (vD (sV 1) (vD (sV 2) (vG "picked_in" n9))))))
def IF {f:RD}{fd:RJ}(Fn:Fun K "picked_mean" "picked_mean" Gv f fd)(T:Txt K mg)(FL:g9 P w K mg base "mean_in" 4 ["house","beats","row","measure"] (spD K 4 B8))(FP:FnG K mg "picked_in"):FnOk P w K mg base CX0 5 f fd ["house","beats","row"] (spD K 3 G2):=by
 refine t9 Fn fZ λSi A outer s H E hr=>?_
 exact⟨_,(h9 (m8 (f9 FL (hr.mono (by decide)) (i8 (f7 0) (i8 (f7 1) (i8 (f7 2) (uI FP i6)))) (i7 (i7 (i7 (tT i5)))))))⟩
def C7:List DV->M My:=B9 ["house","beats","row","measure"] (mRt (j8 y6 (vD (kC (Z2 (sV 2) (j8 u7 (vD (sV 2) n9))) 5 [3,0,1] (w6 2 (d8 (w6 2 (d8 (bN 0) (d8 (bN 1) x3))) (d8 (bN 2) x3))) A6 (C6 (sV 7)) (w6 2 (d8 (bN 3) (d8 (bN 4) x3))) A6 (E8 (c7 (V9 5 "gone_in" R7 (vD (sV 6) (vD (sV 0) (vD (sV 3) n9)))) (c7 (s2 J9 (sW 2) (sW 4)) j6)))) n9)))
def GZ {f:RD}{fd:RJ}(Fn:Fun K "mean_in" "mean_in" FC f fd)(T:Txt K mg)(Fy:g9 P w K mg base "mean_of" 3 ["pairs"] (spD K 1 y6))(Fo:g9 P w K mg base "weights_of" 3 ["row"] (spD K 1 u7))(HX:g9 P w K mg base "gone_in" 5 ["house","stand","beat"] (spD K 3 R7))(FZ:FnG K mg "gone_in"):FnOk P w K mg base CX0 6 f fd ["house","beats","row","measure"] (spD K 4 C7):=by
 walk_at "kad"
 exact⟨_,(h9 (m8 (f9 Fy (hr.mono (by decide)) (i8 (gn (osc:=(defScope FC)) (N:=["stand","share","weight","beat","lot","measure","house","beats"]) (k:=5) (cap:=[3,0,1]) rfl rfl ⟨rfl,by decide +kernel,by decide +kernel,by decide +kernel,rfl,rfl,by decide +kernel⟩ (Ei.bw (ao (f7 2) (f9 Fo (hr.mono (by decide)) (i8 (f7 2) i6) (i7 i5)) T.zip)) (λcl C ex vv s H=>(r8 (n:=2) rfl (d4 (r8 (n:=2) rfl (d4 (m4 (i:=0) (show List.Nodup (["stand","share","weight","beat","lot","measure","house","beats"]:List Str) by decide +kernel)) (d4 (m4 (i:=1) (show List.Nodup (["stand","share","weight","beat","lot","measure","house","beats"]:List Str) by decide +kernel)) l8))) (d4 (m4 (i:=2) (show List.Nodup (["stand","share","weight","beat","lot","measure","house","beats"]:List Str) by decide +kernel)) l8)))) (λcl C ex vv s H=>u8) (λcl C ex vv s H=>(Q9 (f7 7))) (λcl C ex vv s H=>(r8 (n:=2) rfl (d4 (m4 (i:=3) (show List.Nodup (["stand","share","weight","beat","lot","measure","house","beats"]:List Str) by decide +kernel)) (d4 (m4 (i:=4) (show List.Nodup (["stand","share","weight","beat","lot","measure","house","beats"]:List Str) by decide +kernel)) l8)))) (λcl C ex vv s H=>u8) (λcl C ex vv s H=>(x9 (d0 (au 5 HX FZ (hr.mono (by decide)) (i8 (f7 6) (i8 (f7 0) (i8 (f7 3) i6))) (i7 (i7 (i7 i5)))) (d0 (u5 (J3 rfl) (h8 2) (h8 4)) l3))))) i6) (i7 i5))))⟩
def ki:FnScope ["house","beats","row"] ["house","beats","row"] (defScope GT):={}
def L7:List DV->M My:=B9 ["house","beats","row"] (mRt (j8 C7 (vD (sV 0) (vD (sV 1) (vD (sV 2) (vG "gone_in" n9))))))
def Jv {f:RD}{fd:RJ}(Fn:Fun K "gone_mean" "gone_mean" GT f fd)(T:Txt K mg)(FR:g9 P w K mg base "mean_in" 6 ["house","beats","row","measure"] (spD K 4 C7))(FZ:FnG K mg "gone_in"):FnOk P w K mg base CX0 7 f fd ["house","beats","row"] (spD K 3 L7):=by
 refine t9 Fn ki λSi A outer s H E hr=>?_
 exact⟨_,(h9 (m8 (f9 FR (hr.mono (by decide)) (i8 (f7 0) (i8 (f7 1) (i8 (f7 2) (uI FZ i6)))) (i7 (i7 (i7 (tT i5)))))))⟩
def z9:List DV->M My:=B9 ["house","beats","row","measure"] (mRt (j8 y6 (vD (kC (Z2 (sV 2) (j8 u7 (vD (sV 2) n9))) 5 [3,0,1] (w6 2 (d8 (w6 2 (d8 (bN 0) (d8 (bN 1) x3))) (d8 (bN 2) x3))) A6 (C6 (sV 7)) (w6 2 (d8 (bN 3) (d8 (bN 4) x3))) A6 (E8 (c7 (V9 5 "work_let_in" G1 (vD (sV 6) (vD (sV 0) (vD (sV 3) n9)))) (c7 (s2 J9 (sW 2) (sW 4)) j6)))) n9)))
def Gw {f:RD}{fd:RJ}(Fn:Fun K "mean_in" "mean_in" FC f fd)(T:Txt K mg)(Fy:g9 P w K mg base "mean_of" 3 ["pairs"] (spD K 1 y6))(Fo:g9 P w K mg base "weights_of" 3 ["row"] (spD K 1 u7))(Gx:g9 P w K mg base "work_let_in" 2 ["house","stand","beat"] (spD K 3 G1))(FD:FnG K mg "work_let_in"):FnOk P w K mg base CX0 4 f fd ["house","beats","row","measure"] (spD K 4 z9):=by
 walk_at "kad"
 exact⟨_,(h9 (m8 (f9 Fy (hr.mono (by decide)) (i8 (gn (osc:=(defScope FC)) (N:=["stand","share","weight","beat","lot","measure","house","beats"]) (k:=5) (cap:=[3,0,1]) rfl rfl ⟨rfl,by decide +kernel,by decide +kernel,by decide +kernel,rfl,rfl,by decide +kernel⟩ (Ei.bw (ao (f7 2) (f9 Fo (hr.mono (by decide)) (i8 (f7 2) i6) (i7 i5)) T.zip)) (λcl C ex vv s H=>(r8 (n:=2) rfl (d4 (r8 (n:=2) rfl (d4 (m4 (i:=0) (show List.Nodup (["stand","share","weight","beat","lot","measure","house","beats"]:List Str) by decide +kernel)) (d4 (m4 (i:=1) (show List.Nodup (["stand","share","weight","beat","lot","measure","house","beats"]:List Str) by decide +kernel)) l8))) (d4 (m4 (i:=2) (show List.Nodup (["stand","share","weight","beat","lot","measure","house","beats"]:List Str) by decide +kernel)) l8)))) (λcl C ex vv s H=>u8) (λcl C ex vv s H=>(Q9 (f7 7))) (λcl C ex vv s H=>(r8 (n:=2) rfl (d4 (m4 (i:=3) (show List.Nodup (["stand","share","weight","beat","lot","measure","house","beats"]:List Str) by decide +kernel)) (d4 (m4 (i:=4) (show List.Nodup (["stand","share","weight","beat","lot","measure","house","beats"]:List Str) by decide +kernel)) l8)))) (λcl C ex vv s H=>u8) (λcl C ex vv s H=>(x9 (d0 (au 5 Gx FD (hr.mono (by decide)) (i8 (f7 6) (i8 (f7 0) (i8 (f7 3) i6))) (i7 (i7 (i7 i5)))) (d0 (u5 (J3 rfl) (h8 2) (h8 4)) l3))))) i6) (i7 i5))))⟩
def kO:FnScope ["house","beats","row"] ["house","beats","row"] (defScope GU):={}
def L8:List DV->M My:=B9 ["house","beats","row"] (mRt (j8 z9 (vD (sV 0) (vD (sV 1) (vD (sV 2) (vG "work_let_in" n9))))))
def Jw {f:RD}{fd:RJ}(Fn:Fun K "work_mean" "work_mean" GU f fd)(T:Txt K mg)(FE:g9 P w K mg base "mean_in" 4 ["house","beats","row","measure"] (spD K 4 z9))(FD:FnG K mg "work_let_in"):FnOk P w K mg base CX0 5 f fd ["house","beats","row"] (spD K 3 L8):=by
 refine t9 Fn kO λSi A outer s H E hr=>?_
 exact⟨_,(h9 (m8 (f9 FE (hr.mono (by decide)) (i8 (f7 0) (i8 (f7 1) (i8 (f7 2) (uI FD i6)))) (i7 (i7 (i7 (tT i5)))))))⟩
def jB (K:Fg):Sp:=λvs H Q _=>∃(a:RD) (ns:List Int),vs=[.ref a]/\SqL K H a (ns.map V.int)/\ns.length<=63 /\
 ∀(d c:RD) (H':Hp),Feeds.At d c H' (nq ns)->l6 H H'->Q (.ref d) H'
def Dp {ns:List Int}(h:ns.length<=63):ee (ns.map V.int) none (some 63)=ns.map V.int:=by unfold ee;have e:HT.sIx (ns.map V.int).length (ns.map V.int).length (some 63)=min 63 (ns.map V.int).length:=HT.sIx_nat _ _ 63;rw[e,HT.sIx_none,List.drop_zero,Nat.sub_zero,NA (by rw[LX];omega)]
def oD (q:RD):dI [] (v4 q 0 0 0)=v4 q 0 0 0:=by
 have e1:L4 ([]:List (Key×V)) (Sum.inr "cells") (V.ref q)=([(Sum.inr "cells",V.ref q)]:List (Key×V)):=dC _ rfl;have e2:L4 ([(Sum.inr "cells",V.ref q)]:List (Key×V)) (Sum.inr "at") (V.int 0)=([(Sum.inr "cells",V.ref q),(Sum.inr "at",V.int 0)]:List (Key×V)):=dC _ (by rw[B4 (by rw[L5];exact n1)];rfl);have e3:L4 ([(Sum.inr "cells",V.ref q),(Sum.inr "at",V.int 0)]:List (Key×V)) (Sum.inr "left") (V.int 0)=([(Sum.inr "cells",V.ref q),(Sum.inr "at",V.int 0),(Sum.inr "left",V.int 0)]:List (Key×V)) :=
  dC _ (by rw[B4 (by rw[L5];exact n2),B4 (by rw[L5];exact n4)];rfl)
 have e4:L4 ([(Sum.inr "cells",V.ref q),(Sum.inr "at",V.int 0),(Sum.inr "left",V.int 0)]:List (Key×V)) (Sum.inr "turn") (V.int 0)=v4 q 0 0 0 :=
  dC _ (by rw[B4 (by rw[L5];exact n3),B4 (by rw[L5];exact n5),B4 (by rw[L5];exact n6)];rfl)
 show L4 (L4 (L4 (L4 ([]:List (Key×V)) (Sum.inr "cells") (V.ref q)) (Sum.inr "at") (V.int 0)) (Sum.inr "left") (V.int 0)) (Sum.inr "turn") (V.int 0)=_;rw[e1,e2,e3,e4]
def jE:FnScope ["_law_script"] ["_law_script"] (defScope GV):={}
def Jx {f:RD}{fd:RJ}(F:Fun K "_law_feed" "_law_feed" GV f fd)(T:Txt K mg):FnOk P w K mg base CX0 1 f fd ["_law_script"] (jB K):=by
 refine F.ok jE (λvs H Q E h=>?_) (λSi A outer s H vs Q E hr h=>?_)
 .obtain⟨a,ns,rfl,_⟩:=h;rfl
 .obtain⟨a,ns,rfl,hS,hl,k⟩:=h;refine⟨_,cQ (eN (yt (cZ J5 (X1 dm rfl T.list bq (A3 (mJ qZ (pv 0) qy (jV A7)) J6)) (cZ J5 A7 (cZ J5 A7 (cZ J5 A7 yM)))) rfl rfl (by simp) (by decide))),?_⟩;intro p hp;have s1:l6 H (upd H p (.dK [])):=l6.upd hp;refine⟨_,rfl,63,rfl,a,_,rfl,s1.seq hS,λq0 hq0=>?_⟩;rw[Dp hl];have s0:l6 H (upd (upd H p (.dK [])) q0 (.lst (ns.map V.int))):=λb o e=>by rw[i3 (m6 (s1 b o e) hq0)];exact s1 b o e
  have np0:p≠q0:=m6 k8 hq0;refine⟨q0,_,rfl,.inl (SqL.of k8),λq hq=>?_⟩;have hp0:upd (upd H p (.dK [])) q0 (.lst (ns.map V.int)) p=some (.dK []):=by rw[i3 np0];exact k8
  have npq:p≠q:=m6 hp0 hq;refine⟨by rw[i3 npq];exact hp0,v4 q 0 0 0,rfl,by show 4<=15;decide,?_⟩;rw[oD];refine k p q _ ⟨k8,by rw[i3 (OU npq)];exact k8,hl,(by show(0:Int)<=0;decide),(by show(0:Int)<=0;decide)⟩ λb o e=>?_
  have e1:=s0 b o e;rw[i3 (m6 e hp),i3 (m6 e1 hq)];exact e1
def C3:FnScope ["_law_feed_here","_law_many","_law_found","_law_at","_law_cells","_law_cell","_law_turn","_law_mixed"] ["_law_feed_here","_law_many"] (defScope GW):={}
def Jy {f:RD}{fd:RJ}(Fn:Fun K "_law_draw" "_law_draw" GW f fd)(T:Txt K mg):FnOk P w K mg base CX0 1 f fd ["_law_feed_here","_law_many"] (spD K 2 C0):=by
 refine Fn.ok C3 (λvs H Q E h=>?_) (λSi A outer s H vs Q E hr h=>?_)
 .obtain⟨G,B,F,args,d,F',hl,_⟩:=h;exact hl
 .obtain⟨G,B,F,args,dd,F',hl,fB,bk,fa,ha,hm0,q⟩:=h;obtain⟨m,rfl⟩:∃m,args=[.feed,.dat (.int m)]:=by
   unfold C0 at hm0;split at hm0
   .exact⟨_,rfl⟩
   .cases hm0
  obtain⟨v,r,rfl,_,⟨d,c,rfl,rfl⟩,v2,r2,rfl,_,hv2,rfl⟩:=ha;have hv2:v2 = .int m:=by simpa only[DVr,c8] using hv2
  subst hv2;obtain⟨⟨r0,F1⟩,e1,e2⟩:=bS9 hm0;cases e2;replace e1:fh m F=some (r0,F1):=e1;have hcond:0<m/\m<1073741824/\F.t<199999:=by
   unfold fh at e1;split at e1
   .assumption
   .cases e1
  obtain⟨hm,hm2,htl⟩:=hcond;obtain⟨ns,a,l,t⟩:=F;obtain⟨⟨hd,hc,hl63,ha0,ht0⟩,tbo⟩:=fa;simp only at hd hc hl63 ha0 ht0 htl;have k:∀(r:Int) (H':Hp) (F2:FdS),fh m ⟨ns,a,l,t⟩=some (r,F2)->Feeds.At d c H' F2->(∀b o,H b=some o->b≠d->H' b=some o)->Q (.int r) H':=λr H' F2 er fa' kp=>by rw[er]at e1;cases e1;exact q _ H' (λb o e nb=>kp b o e λz=>nb (by simp[p9,z])) ⟨fa',tbo.but hd ⟨λ_ z=>(by cases z),λ_ z=>(by cases z)⟩ kp⟩ c8.int
  have hdr:fh m ⟨ns,a,l,t⟩=some (if 0<l then(l % m,⟨ns,a,l / m,t+1⟩) else if 10 ^ 18<=(FdS.cellL ⟨ns,a,l,t⟩)/\a<ns.length then((FdS.cellL ⟨ns,a,l,t⟩) % m,⟨ns,a+1,(FdS.cellL ⟨ns,a,l,t⟩) / m,t+1⟩) else((ro (FdS.cellL ⟨ns,a,l,t⟩) (t+1)) % m,⟨ns,a+1,l,t+1⟩)):=by unfold fh;rw[Mb ⟨hm,hm2,htl⟩]
  have hu:=CI hr;have hu0:=hr.units0;have ncd:c≠d:=Ak hc hd (by intro z;cases z);refine⟨_,B6 (fF hu (pv 0) J5 (G4 eu (Z9 hu (pv 0) J5 (λ_ _=>rfl)) A7) rfl)
   (B6 (xo (dg Ad (Z9 hu (pv 0) J5 (λ_ _=>rfl)) A7 (dZ _))
    (B6 (S7 (i:=2) C3.nd rfl (Or.inl rfl) (G4 aA (Z9 hu (pv 0) J5 (λ_ _=>rfl)) (pv 1)))
     (B6 (fF hu (pv 0) J5 (G4 kJ (Z9 hu (pv 0) J5 (λ_ _=>rfl)) (pv 1)) rfl) (cQ (eN (pv 2))))) ju)
   (B6 (S7 (i:=3) C3.nd rfl (Or.inl rfl) (Z9 hu (pv 0) J5 (λ_ _=>rfl)))
   (B6 (fF hu (pv 0) J5 (G4 eu (pv 3) A7) rfl)
   (B6 (S7 (i:=4) C3.nd rfl (Or.inl rfl) (Z9 hu (pv 0) J5 (λ_ _=>rfl)))
   (B6 (S7 (i:=5) C3.nd rfl (Or.inl rfl) (mF (dg (vp hu0) (pv 4) (jH J6) (dZ _))
    (zS qT (pv 4) (G4 aA (pv 3) (hX Z8 (by rfl) T.len PySem.boot_len (A3 (pv 4) J6))) (λ_ _=>rfl)) A7))
   (B6 (xo (PW.pt (wK (dg Ek (pv 5) (G4 nH A7 A7) (dZ _)) (pS (dg An (pv 3) (hX Z8 (by rfl) T.len PySem.boot_len (A3 (pv 4) J6)) (dZ _)))))
    (B6 (fF hu (pv 0) J5 (G4 kJ (pv 5) (pv 1)) rfl) (cQ (eN (G4 aA (pv 5) (pv 1))))) ju)
   (B6 (S7 (i:=6) C3.nd rfl (Or.inl rfl) (Z9 hu (pv 0) J5 (λ_ _=>rfl)))
   (B6 (S7 (i:=7) C3.nd rfl (Or.inl rfl) (G4 aA (G4 nH (G4 eu (G4 eu (G4 aA (pv 5) A7) (G4 kH A7 (pv 6))) A7) A7) A7))
   (B6 (S7 (i:=7) C3.nd rfl (Or.inl rfl) (G4 aA (G4 kH (G4 eu (pv 7) (G4 kH (G4 kH A7 (pv 6)) (pv 6))) A7) A7))
   (cQ (eN (G4 aA (G4 kJ (pv 7) A7) (pv 1))))))))))))),?_⟩
  refine⟨_,rfl,d,_,rfl,ik hd,_,_,rfl,rfl,_,rfl,d,_,rfl,AB _ hd,?_⟩;have hd1:(upd H d (.dK (v4 c a l (t+1)))) d=some (.dK (v4 c a l (t+1))):=k8;have hc1:(upd H d (.dK (v4 c a l (t+1)))) c=some (.lst (ns.map V.int)):=by rw[i3 ncd];exact hc
  have kp1:∀b o,H b=some o->b≠d->(upd H d (.dK (v4 c a l (t+1)))) b=some o:=λb o e hb=>by rw[i3 hb];exact e
  generalize upd H d (.dK (v4 c a l (t+1)))=H1 at hd1 hc1 kp1;refine⟨_,rfl,d,_,rfl,pf hd1,_,_,rfl,rfl,_,rfl,?_⟩;refine rP (λhleft=>?_) (λhleft=>?_)
  .have hleft:0<l:=MD hleft;refine⟨_,rfl,d,_,rfl,pf hd1,_,rfl,_,_,rfl,rfl,hm,?_⟩;refine⟨_,rfl,d,_,rfl,pf hd1,_,rfl,_,_,rfl,rfl,⟨hm,hm2⟩,_,rfl,d,_,rfl,pq _ hd1,_,rfl,?_⟩;exact k _ _ ⟨ns,a,l / m,t+1⟩ (by rw[hdr,Mb hleft]) ⟨k8,by rw[i3 ncd];exact hc1,hl63,ha0,by simp only;omega⟩ (λb o e hb=>by rw[i3 hb];exact kp1 b o e hb)
  .have hleft:¬0<l:=λz=>hleft (Mv z)
   refine⟨_,rfl,d,_,rfl,EW hd1,_,rfl,_,_,rfl,rfl,_,rfl,d,_,rfl,Fe _ hd1,?_⟩;have hd2:(upd H1 d (.dK (v4 c (a+1) l (t+1)))) d=some (.dK (v4 c (a+1) l (t+1))):=k8;have hc2:(upd H1 d (.dK (v4 c (a+1) l (t+1)))) c=some (.lst (ns.map V.int)):=by rw[i3 ncd];exact hc1
   have kp2:∀b o,H b=some o->b≠d->(upd H1 d (.dK (v4 c (a+1) l (t+1)))) b=some o:=λb o e hb=>by rw[i3 hb];exact kp1 b o e hb
   generalize upd H1 d (.dK (v4 c (a+1) l (t+1)))=H2 at hd2 hc2 kp2;refine⟨_,rfl,d,_,rfl,za hd2,?_⟩;refine⟨_,rfl,Nj _,λp hp=>⟨c,p,_,rfl,rfl,SqL.of (by rw[i3 (m6 hc2 hp)];exact hc2),SqL.of k8,_,rfl,?_⟩⟩;have hd3:(upd H2 p (.lst [])) d=some (.dK (v4 c (a+1) l (t+1))):=by rw[i3 (m6 hd2 hp)];exact hd2
   have hc3:(upd H2 p (.lst [])) c=some (.lst (ns.map V.int)):=by rw[i3 (m6 hc2 hp)];exact hc2
   have kp3:∀b o,H b=some o->b≠d->(upd H2 p (.lst [])) b=some o:=λb o e hb=>by rw[i3 (m6 (kp2 b o e hb) hp)];exact kp2 b o e hb
   generalize upd H2 p (.lst [])=H3 at hd3 hc3 kp3;refine rP (λhne=>?_) (λhe=>?_)
   .have h0:¬ns=[]:=by intro e;rw[e]at hne;exact absurd hne (by decide)
    refine⟨_,rfl,_,rfl,_,rfl,c,_,rfl,.inl (SqL.of hc3),_,_,rfl,rfl,(by have:=QW.2 h0;show(0:Int)<((ns.map V.int).length:Int);rw[LX];omega),c,_,_,_,rfl,rfl,SqL.of hc3,vq (F:=⟨ns,a,l,t⟩) h0,?_⟩
    walk_at "ke"
    generalize FdS.cellL ⟨ns,a,l,t⟩=z at big small;unfold ro at small;have ht2:0<=t+1:=by omega
    walk_at "kq"
    .have hb1:=MD hb1;have hb2:=MD hb2;rw[LX]at hb2;exact⟨_,rfl,_,rfl,_,_,rfl,rfl,⟨hm,hm2⟩,_,rfl,d,_,rfl,pq _ hd3,_,rfl,_,rfl,_,_,rfl,rfl,hm,big ⟨hb1,hb2⟩ _ rfl⟩
    .exact⟨_,rfl,d,_,rfl,ik hd3,_,rfl,_,_,rfl,rfl,(by show(0:Int)<1999999973;decide),_,rfl,_,_,rfl,rfl,.inl ⟨by decide,by decide⟩,_,_,rfl,rfl,_,_,rfl,rfl,_,_,rfl,rfl,⟨by decide,by decide,bdB ht2 ht3⟩,_,_,rfl,rfl,(by show(0:Int)<2147483629;decide),_,rfl,_,rfl,_,_,rfl,rfl,.inl ⟨by decide,by decide⟩,_,rfl,_,_,rfl,rfl,.inl ⟨by omega,by omega⟩,_,_,rfl,rfl,_,_,rfl,rfl,.inr ⟨by decide,by decide⟩,_,_,rfl,rfl,(by show(0:Int)<2147483399;decide),_,rfl,_,_,rfl,rfl,⟨by decide,by decide⟩,_,rfl,_,_,rfl,rfl,hm,small λhb=>hb2 (Mv (by rw[LX];exact hb.2))⟩
    .exact⟨_,rfl,d,_,rfl,ik hd3,_,rfl,_,_,rfl,rfl,(by show(0:Int)<1999999973;decide),_,rfl,_,_,rfl,rfl,.inl ⟨by decide,by decide⟩,_,_,rfl,rfl,_,_,rfl,rfl,_,_,rfl,rfl,⟨by decide,by decide,bdB ht2 ht3⟩,_,_,rfl,rfl,(by show(0:Int)<2147483629;decide),_,rfl,_,rfl,_,_,rfl,rfl,.inl ⟨by decide,by decide⟩,_,rfl,_,_,rfl,rfl,.inl ⟨by omega,by omega⟩,_,_,rfl,rfl,_,_,rfl,rfl,.inr ⟨by decide,by decide⟩,_,_,rfl,rfl,(by show(0:Int)<2147483399;decide),_,rfl,_,_,rfl,rfl,⟨by decide,by decide⟩,_,rfl,_,_,rfl,rfl,hm,small λhb=>hb1 (Mv hb.1)⟩
   .have h0:ns=[]:=by
     cases ns with
     | nil=>rfl
     | cons x y=>exact absurd rfl he
    have hcell:FdS.cellL ⟨ns,a,l,t⟩=0:=by unfold FdS.cellL;rw[Mb h0]
    walk_at "ke"
    rw[hcell]at big small;unfold ro at small;have ht2:0<=t+1:=by omega
    walk_at "kq"
    .have hb1:=MD hb1;have hb2:=MD hb2;rw[LX]at hb2;exact⟨_,rfl,_,rfl,_,_,rfl,rfl,⟨hm,hm2⟩,_,rfl,d,_,rfl,pq _ hd3,_,rfl,_,rfl,_,_,rfl,rfl,hm,big ⟨hb1,hb2⟩ _ rfl⟩
    .exact⟨_,rfl,d,_,rfl,ik hd3,_,rfl,_,_,rfl,rfl,(by show(0:Int)<1999999973;decide),_,rfl,_,_,rfl,rfl,.inl ⟨by decide,by decide⟩,_,_,rfl,rfl,_,_,rfl,rfl,_,_,rfl,rfl,⟨by decide,by decide,bdB ht2 ht3⟩,_,_,rfl,rfl,(by show(0:Int)<2147483629;decide),_,rfl,_,rfl,_,_,rfl,rfl,.inl ⟨by decide,by decide⟩,_,rfl,_,_,rfl,rfl,.inl ⟨by omega,by omega⟩,_,_,rfl,rfl,_,_,rfl,rfl,.inr ⟨by decide,by decide⟩,_,_,rfl,rfl,(by show(0:Int)<2147483399;decide),_,rfl,_,_,rfl,rfl,⟨by decide,by decide⟩,_,rfl,_,_,rfl,rfl,hm,small λhb=>hb2 (Mv (by rw[LX];exact hb.2))⟩
    .exact⟨_,rfl,d,_,rfl,ik hd3,_,rfl,_,_,rfl,rfl,(by show(0:Int)<1999999973;decide),_,rfl,_,_,rfl,rfl,.inl ⟨by decide,by decide⟩,_,_,rfl,rfl,_,_,rfl,rfl,_,_,rfl,rfl,⟨by decide,by decide,bdB ht2 ht3⟩,_,_,rfl,rfl,(by show(0:Int)<2147483629;decide),_,rfl,_,rfl,_,_,rfl,rfl,.inl ⟨by decide,by decide⟩,_,rfl,_,_,rfl,rfl,.inl ⟨by omega,by omega⟩,_,_,rfl,rfl,_,_,rfl,rfl,.inr ⟨by decide,by decide⟩,_,_,rfl,rfl,(by show(0:Int)<2147483399;decide),_,rfl,_,_,rfl,rfl,⟨by decide,by decide⟩,_,rfl,_,_,rfl,rfl,hm,small λhb=>hb1 (Mv hb.1)⟩
def aq:FnScope ["_law_top","_law_bottom","_law_one","_law_other"] ["_law_top","_law_bottom"] (defScope Hv):={}
abbrev S8:=Bz.dy
def JM {f:RD}{fd:RJ}(Fn:Fun K "_law_low" "_law_low" Hv f fd)(T:Txt K mg) :FnOk P w K mg base CX0 1 f fd ["_law_top","_law_bottom"] (spD K 2 S8):=by
 refine t9 Fn aq λSi A outer s H E hr=>?_
 exact⟨_,(d7 (jD 2 3 rfl aq.nd (d0 (k9 (oy) T.abs pQ (j7 (h8 0) m7)) (d0 (f7 1) l3)))
   (d7 (mM (A1 qW (h8 3) (Ev.bw i4)) (h9 (jD 2 3 rfl aq.nd (d0 (f7 3) (d0 (u5 wd (h8 2) (h8 3)) l3)))))
   (h9 (m8 (x9 (d0 (u5 aY (h8 0) (h8 2)) (d0 (u5 aY (h8 1) (h8 2)) l3)))))))⟩
def C1:FnScope ["_law_house_here","_law_line_here","_law_beat_here","_law_found","_law_lost","_law_rank","_law_work"] ["_law_house_here","_law_line_here","_law_beat_here"] (defScope Gk):={}
def B5:List DV->M My:=B9 ["_law_house_here","_law_line_here","_law_beat_here","_law_found","_law_lost","_law_rank","_law_work"] (mSq (gT 3 (qe (sW 1)))
  (mSq (x8 4 (sC (.int 0)))
  (mSq (X2 (C6 (sV 2)) (w6 2 (d8 (bN 5) (d8 (bN 6) x3))) (mIf (uOr (uB (s2 (isD false) (s2 ixD (sW 0) (sC (.int 1))) (sC .none))) (uB (s2 ltD (sN T6 (c7 (sW 3) j6)) (s2 ixD (sW 0) (sC (.int 1)))))) (ax 3 (E8 (c7 (sV 5) (c7 (sV 6) (c7 (sC (.bool false)) (c7 (sC (.int 0)) j6)))))) (x8 4 (s2 N4 (sW 4) (sC (.int 1))))))
  (sO 3 (mRt (E8 (c7 (sV 3) (c7 (sV 4) j6))))))))
def Iw {f:RD}{fd:RJ}(Fn:Fun K "_law_entered" "_law_entered" Gk f fd)(T:Txt K mg) :FnOk P w K mg base CX0 1 f fd ["_law_house_here","_law_line_here","_law_beat_here"] (spD K 3 B5):=by
 refine t9 Fn C1 λSi A outer s H E hr=>?_
 exact⟨_,(d7 (dU 3 C1.nd (yq T.list bq (h8 1) rfl))
   (d7 (p7 4 C1.nd i4)
   (d7 (N5 rfl (Q9 (f7 2)) (r8 (n:=2) rfl (d4 (m4 (i:=5) C1.nd) (d4 (m4 (i:=6) C1.nd) l8))) (h9 (Q4 (Ew.t (uR (A1 Ah (Ev.bw (x4 (x5 rfl) (h8 0) (Ev.bw i4))) (Ev.bw fY)) (oF (A1 qC (Ev.bw (k9 (G3 rfl) T.len G7 (j7 (h8 3) m7))) (Ev.bw (x4 (x5 rfl) (h8 0) (Ev.bw i4))))))) (h9 (Y6 3 rfl (x9 (d0 (f7 5) (d0 (f7 6) (d0 hZ (d0 i4 l3))))))) (h9 (p7 4 C1.nd (u5 (E3 rfl) (h8 4) (Ev.bw i4)))))))
   (h9 (uO 3 (m8 (x9 (d0 (f7 3) (d0 (f7 4) l3)))))))))⟩
def iE:FnScope ["_law_rule","_law_one","_law_other"] ["_law_rule","_law_one","_law_other"] (defScope GE):={}
def J0:List DV->M My:=B9 ["_law_rule","_law_one","_law_other"] (mSq (mIf (uOr (uB (s2 (eqD false) (sW 0) (sC (.str "last")))) (uB (s2 (eqD false) (sW 0) (sC (.str "lastoff"))))) (mRt (sC (.bool true))) mNx)
  (mSq (mIf (uOr (uB (s2 (eqD false) (sW 0) (sC (.str "short")))) (uB (s2 (eqD false) (sW 0) (sC (.str "shortoff"))))) (mRt (s2 ltD (s2 ixD (sW 1) (sC (.int 1))) (s2 ixD (sW 2) (sC (.int 1))))) mNx)
  (mRt (sE (sOr (s2 (eqD false) (sW 0) (sC (.str "front"))) (s2 (eqD false) (sW 0) (sC (.str "frontoff")))) (s2 ltD (s2 ixD (sW 1) (sC (.int 0))) (s2 ixD (sW 2) (sC (.int 0))))))))
def Je {f:RD}{fd:RJ}(Fn:Fun K "_law_ahead" "_law_ahead" GE f fd)(T:Txt K mg) :FnOk P w K mg base CX0 1 f fd ["_law_rule","_law_one","_law_other"] (spD K 3 J0):=by
 refine t9 Fn iE λSi A outer s H E hr=>?_
 exact⟨_,(d7 (Q4 (Ew.t (uR (A1 (aJ rfl hr.units) (h8 0) (Ev.bw Z0)) (oF (A1 (aJ rfl hr.units) (h8 0) (Ev.bw Z0))))) (h9 (m8 hZ)) Q6)
   (d7 (Q4 (Ew.t (uR (A1 (aJ rfl hr.units) (h8 0) (Ev.bw Z0)) (oF (A1 (aJ rfl hr.units) (h8 0) (Ev.bw Z0))))) (h9 (m8 (Y4 qC (Ev.bw (x4 (x5 rfl) (h8 1) (Ev.bw i4))) (Ev.bw (x4 (x5 rfl) (h8 2) (Ev.bw i4)))))) Q6)
   (h9 (m8 (xp (CV (Y4 (aJ rfl hr.units) (h8 0) (Ev.bw Z0)) (nQ (Y4 (aJ rfl hr.units) (h8 0) (Ev.bw Z0)))) (nQ (Y4 qC (Ev.bw (x4 (x5 rfl) (h8 1) (Ev.bw i4))) (Ev.bw (x4 (x5 rfl) (h8 2) (Ev.bw i4))))))))))⟩
def y8:FnScope ["_law_house_here","_law_line_here","_law_found","_law_turn","_law_left","_law_begun","_law_best","_law_k"] ["_law_house_here","_law_line_here"] (defScope FN):={}
def N6:List DV->M My:=B9 ["_law_house_here","_law_line_here","_law_found","_law_turn","_law_left","_law_begun","_law_best","_law_k"] (mSq (gT 2 (iq j6))
  (mSq (X2 (X7 (c7 (sN sH (c7 (s2 ixD (sW 0) (sC (.int 0))) (c7 (sN T6 (c7 (sW 1) j6)) j6))) j6)) (bN 3) (mSq (x8 4 (sLC (X7 (c7 (sN T6 (c7 (sW 1) j6)) j6)) 1 [2] (bN 0) (uB (s2 (inD true) (sW 0) (sW 1))) (sV 0)))
  (mSq (x8 5 (sLC (C6 (sW 4)) 1 [1] (bN 0) (uT (s2 ixD (s2 ixD (sW 1) (sW 0)) (sC (.int 2)))) (sV 0)))
  (mSq (mIf (uB (s2 (eqD true) (sW 5) (sC (.list [])))) (x8 4 (sV 5)) mNx)
  (mSq (x8 6 (s2 ixD (sW 4) (sC (.int 0))))
  (mSq (X2 (C6 (sV 4)) (bN 7) (mIf (uU (uB (s2 (eqD true) (sW 7) (sW 6))) (uT (j8 J0 (vD (s2 ixD (sW 0) (sC (.int 2))) (vD (s2 ixD (sW 1) (sW 7)) (vD (s2 ixD (sW 1) (sW 6)) n9)))))) (x8 6 (sV 7)) mNx))
  (ax 2 (sV 6))))))))
  (mRt (sW 2))))
def Jf {f:RD}{fd:RJ}(Fn:Fun K "_law_taken" "_law_taken" FN f fd)(T:Txt K mg)(GK:g9 P w K mg base "_law_ahead" 1 ["_law_rule","_law_one","_law_other"] (spD K 3 J0)):FnOk P w K mg base CX0 2 f fd ["_law_house_here","_law_line_here"] (spD K 2 N6):=by
 refine t9 Fn y8 λSi A outer s H E hr=>?_
 have hu5:(A.deeper (PyProof.Rows.envOfC "_law_taken" (defScope FN) s.heap.objs.size f Si)).units+65<Sa:=by have:=hr.un;omega
 exact⟨_,(d7 (dU 2 y8.nd (bV l3))
   (d7 (N5 rfl (R5 (d0 (k9 (nO rfl rfl) T.min oj (j7 (Ev.bw (x4 (x5 rfl) (h8 0) (Ev.bw i4))) (j7 (Ev.bw (k9 (G3 rfl) T.len G7 (j7 (h8 1) m7))) m7))) l3) T.range) (m4 (i:=3) y8.nd) (d7 (cH 4 (hN:=y8.nd) (osc:=(defScope FN)) (N:=["_law_k","_law_found"]) (k:=1) (cap:=[2]) (hc:=rfl) (hosc:=rfl) (hcap:=⟨rfl,by decide +kernel,by decide +kernel,by decide +kernel,rfl,rfl,by decide +kernel⟩) (Ei.bw (R5 (d0 (k9 (G3 rfl) T.len G7 (j7 (h8 1) m7)) l3) T.range)) (λcl C ex vv s H=>(m4 (i:=0) (show List.Nodup (["_law_k","_law_found"]:List Str) by decide +kernel))) (λcl C ex vv s H=>(ko (A1 (gH rfl hu5) (h8 0) (h8 1)))) (λcl C ex vv s H=>(f7 0)))
   (d7 (cH 5 (hN:=y8.nd) (osc:=(defScope FN)) (N:=["_law_k","_law_line_here"]) (k:=1) (cap:=[1]) (hc:=rfl) (hosc:=rfl) (hcap:=⟨rfl,by decide +kernel,by decide +kernel,by decide +kernel,rfl,rfl,by decide +kernel⟩) (B7 (h8 4)) (λcl C ex vv s H=>(m4 (i:=0) (show List.Nodup (["_law_k","_law_line_here"]:List Str) by decide +kernel))) (λcl C ex vv s H=>(ko (pP (Ev.bw (x4 (x5 rfl) (Ev.bw (x4 (x5 rfl) (h8 1) (h8 0))) (Ev.bw i4)))))) (λcl C ex vv s H=>(f7 0)))
   (d7 (Q4 (A1 (uW rfl hr.units) (h8 5) (Ev.bw (kf (.list []) rfl))) (h9 (p7 4 y8.nd (f7 5))) Q6)
   (d7 (p7 6 y8.nd (x4 (x5 rfl) (h8 4) (Ev.bw i4)))
   (d7 (N5 rfl (Q9 (f7 4)) (m4 (i:=7) y8.nd) (h9 (Q4 (Ew.t (Be (A1 (uW rfl hr.units) (h8 7) (h8 6)) (zo (pP (Ev.bw (f9 GK (hr.mono (by decide)) (i8 (x4 (x5 rfl) (h8 0) (Ev.bw i4)) (i8 (x4 (x5 rfl) (h8 1) (h8 7)) (i8 (x4 (x5 rfl) (h8 1) (h8 6)) i6))) (i7 (i7 (i7 i5))))))))) (h9 (p7 6 y8.nd (f7 7))) Q6)))
   (h9 (Y6 2 rfl (f7 6)))))))))
   (h9 (yQ 2))))⟩
def v8:FnScope ["_law_house_here","_law_line_here","_law_beat_here","_law_found","_law_lost","_law_some","_law_stay","_law_come_next","_law_gone","_law_k","_law_rank","_law_left","_law_begun","_law_name"] ["_law_house_here","_law_line_here","_law_beat_here"] (defScope Gq):={}
def P4:List DV->M My:=B9 ["_law_house_here","_law_line_here","_law_beat_here","_law_found","_law_lost","_law_some","_law_stay","_law_come_next","_law_gone","_law_k","_law_rank","_law_left","_law_begun","_law_name"] (mSq (jz (w6 2 (d8 (bN 3) (d8 (bN 4) x3))) (j8 B5 (vD (sV 0) (vD (sV 1) (vD (sV 2) n9)))))
  (mSq (x8 5 (j8 N6 (vD (sV 0) (vD (sV 3) n9))))
  (mSq (gT 6 (iq j6))
  (mSq (gT 7 (iq j6))
  (mSq (gT 8 (iq j6))
  (mSq (X2 (jl (sV 3)) (w6 2 (d8 (bN 9) (d8 (w6 4 (d8 (bN 10) (d8 (bN 11) (d8 (bN 12) (d8 (bN 13) x3))))) x3))) (mIf (uB (s2 (inD true) (sW 9) (sW 5))) (ax 6 (E8 (c7 (sV 10) (c7 (sV 11) (c7 (sV 12) (c7 (sV 13) j6)))))) (mIf (uB (s2 (eqD false) (sW 11) (sC (.int 1)))) (ax 8 (sV 13)) (mIf (uB (s2 (eqD false) (s2 ixD (sW 0) (sC (.int 2))) (sC (.str "turns")))) (ax 7 (E8 (c7 (sV 10) (c7 (s2 cw (sW 11) (sC (.int 1))) (c7 (sC (.bool false)) (c7 (sV 13) j6)))))) (ax 6 (E8 (c7 (sV 10) (c7 (s2 cw (sW 11) (sC (.int 1))) (c7 (s2 (inD false) (s2 ixD (sW 0) (sC (.int 2))) (sC (.tuple [.str "first",.str "last",.str "short",.str "front"]))) (c7 (sV 13) j6))))))))))
  (sO 8 (mRt (E8 (c7 (s2 N4 (sW 6) (sW 7)) (c7 (sV 4) (c7 (sV 8) (c7 (sN T6 (c7 (sW 5) j6)) j6)))))))))))))
def Jz {f:RD}{fd:RJ}(Fn:Fun K "_law_beat" "_law_beat" Gq f fd)(T:Txt K mg)(FF:g9 P w K mg base "_law_entered" 1 ["_law_house_here","_law_line_here","_law_beat_here"] (spD K 3 B5))(GL:g9 P w K mg base "_law_taken" 2 ["_law_house_here","_law_line_here"] (spD K 2 N6)):FnOk P w K mg base CX0 3 f fd ["_law_house_here","_law_line_here","_law_beat_here"] (spD K 3 P4):=by
 refine t9 Fn v8 λSi A outer s H E hr=>?_
 have hu5:(A.deeper (PyProof.Rows.envOfC "_law_beat" (defScope Gq) s.heap.objs.size f Si)).units+65<Sa:=by have:=hr.un;omega
 exact⟨_,(d7 (dO (f9 FF (hr.mono (by decide)) (i8 (f7 0) (i8 (f7 1) (i8 (f7 2) i6))) (i7 (i7 (i7 i5)))) (r8 (n:=2) rfl (d4 (m4 (i:=3) v8.nd) (d4 (m4 (i:=4) v8.nd) l8))))
   (d7 (p7 5 v8.nd (f9 GL (hr.mono (by decide)) (i8 (f7 0) (i8 (f7 3) i6)) (i7 (i7 i5))))
   (d7 (dU 6 v8.nd (bV l3))
   (d7 (dU 7 v8.nd (bV l3))
   (d7 (dU 8 v8.nd (bV l3))
   (d7 (N5 rfl (yH (f7 3) T.enumerate) (r8 (n:=2) rfl (d4 (m4 (i:=9) v8.nd) (d4 (r8 (n:=4) rfl (d4 (m4 (i:=10) v8.nd) (d4 (m4 (i:=11) v8.nd) (d4 (m4 (i:=12) v8.nd) (d4 (m4 (i:=13) v8.nd) l8))))) l8))) (h9 (Q4 (A1 (gH rfl hu5) (h8 9) (h8 5)) (h9 (Y6 6 rfl (x9 (d0 (f7 10) (d0 (f7 11) (d0 (f7 12) (d0 (f7 13) l3))))))) (h9 (Q4 (A1 (aJ rfl hr.units) (h8 11) (Ev.bw i4)) (h9 (Y6 8 rfl (f7 13))) (h9 (Q4 (A1 (aJ rfl hr.units) (Ev.bw (x4 (x5 rfl) (h8 0) (Ev.bw i4))) (Ev.bw Z0)) (h9 (Y6 7 rfl (x9 (d0 (f7 10) (d0 (u5 W3 (h8 11) (Ev.bw i4)) (d0 hZ (d0 (f7 13) l3))))))) (h9 (Y6 6 rfl (x9 (d0 (f7 10) (d0 (u5 W3 (h8 11) (Ev.bw i4)) (d0 (Y4 (jk rfl hu5) (Ev.bw (x4 (x5 rfl) (h8 0) (Ev.bw i4))) (Ev.bw (kf (.tuple [.str "first",.str "last",.str "short",.str "front"]) rfl))) (d0 (f7 13) l3))))))))))))))
   (h9 (uO 8 (m8 (x9 (d0 (u5 (E3 rfl) (h8 6) (h8 7)) (d0 (f7 4) (d0 (f7 8) (d0 (k9 (G3 rfl) T.len G7 (j7 (h8 5) m7)) l3))))))))))))))⟩
def kx:FnScope ["_law_stand"] ["_law_stand"] (defScope Gr):={}
def Q3:List DV->M My:=B9 ["_law_stand"] (mRt (sLC (C6 (sW 0)) 1 [] (bN 0) A6 (s2 N4 (sW 0) (sC (.tuple [.int 0])))))
def JA {f:RD}{fd:RJ}(Fn:Fun K "_law_line" "_law_line" Gr f fd)(T:Txt K mg) :FnOk P w K mg base CX0 1 f fd ["_law_stand"] (spD K 1 Q3):=by
 refine t9 Fn kx λSi A outer s H E hr=>?_
 exact⟨_,(h9 (m8 (O0 (osc:=(defScope Gr)) (N:=["_law_person"]) (k:=1) (cap:=[]) rfl rfl ⟨rfl,by decide +kernel,by decide +kernel,by decide +kernel,rfl,rfl,by decide +kernel⟩ (B7 (h8 0)) (λcl C ex vv s H=>(m4 (i:=0) (show List.Nodup (["_law_person"]:List Str) by decide +kernel))) (λcl C ex vv s H=>u8) (λcl C ex vv s H=>(u5 (E3 rfl) (h8 0) (Ev.bw (kf (.tuple [.int 0]) rfl)))))))⟩
def W4:FnScope ["_law_feed_here","_law_most","_law_rule","_law_hands"] ["_law_feed_here","_law_most"] (defScope GG):={}
abbrev N3:=dE ["_law_feed_here","_law_most","_law_rule","_law_hands"]
def Jg {f:RD}{fd:RJ}(Fn:Fun K "_law_house" "_law_house" GG f fd)(T:Txt K mg)(Ff:g9 P w K mg base "_law_draw" 1 ["_law_feed_here","_law_many"] (spD K 2 C0)):FnOk P w K mg base CX0 2 f fd ["_law_feed_here","_law_most"] (spD K 2 N3):=by
 refine t9 Fn W4 λSi A outer s H E hr=>?_
 exact⟨_,(d7 (p7 2 W4.nd (x4 (x5 rfl) (Ev.bw (kf (.list [.str "first",.str "last",.str "short",.str "front",.str "lastoff",.str "shortoff",.str "frontoff",.str "turns"]) rfl)) (Ev.bw (f9 Ff (hr.mono (by decide)) (aa 0 (i8 i4 i6)) (Z3 (i7 i5))))))
   (d7 (p7 3 W4.nd (u5 (E3 rfl) (Ev.bw i4) (Ev.bw (f9 Ff (hr.mono (by decide)) (aa 0 (i8 i4 i6)) (Z3 (i7 i5))))))
   (d7 (Q4 (A1 (aJ rfl hr.units) (Ev.bw (f9 Ff (hr.mono (by decide)) (aa 0 (i8 i4 i6)) (Z3 (i7 i5)))) (Ev.bw i4)) (h9 (m8 (x9 (d0 (f7 3) (d0 fY (d0 (f7 2) l3)))))) Q6)
   (h9 (m8 (x9 (d0 (f7 3) (d0 (f9 Ff (hr.mono (by decide)) (aa 0 (i8 (u5 (E3 rfl) (h8 1) (Ev.bw i4)) i6)) (Z3 (i7 i5))) (d0 (f7 2) l3)))))))))⟩
def O9:FnScope ["_law_feed_here","_law_many","_law_most","_law_works","_law_found","_law_k","_law_beat_here"] ["_law_feed_here","_law_many","_law_most","_law_works"] (defScope FO):={}
abbrev M6:=cK ["_law_feed_here","_law_many","_law_most","_law_works","_law_found","_law_k","_law_beat_here"]
def Jh {f:RD}{fd:RJ}(Fn:Fun K "_law_beats" "_law_beats" FO f fd)(T:Txt K mg)(Ff:g9 P w K mg base "_law_draw" 1 ["_law_feed_here","_law_many"] (spD K 2 C0)):FnOk P w K mg base CX0 2 f fd ["_law_feed_here","_law_many","_law_most","_law_works"] (spD K 4 M6):=by
 refine t9 Fn O9 λSi A outer s H E hr=>?_
 have hu5:(A.deeper (PyProof.Rows.envOfC "_law_beats" (defScope FO) s.heap.objs.size f Si)).units+65<Sa:=by have:=hr.un;omega
 exact⟨_,(d7 (kZ 4 0 O9.nd)
   (d7 (N5 rfl (R5 (d0 (f7 1) l3) T.range) (m4 (i:=5) O9.nd) (d7 (p7 6 O9.nd (J8 (Q1 rfl) T.tuple P5 (j7 (Ev.bw (O0 (osc:=(defScope FO)) (N:=["_law_j","_law_feed_here","_law_works"]) (k:=1) (cap:=[0,3]) rfl rfl ⟨rfl,by decide +kernel,by decide +kernel,by decide +kernel,rfl,rfl,by decide +kernel⟩ (Ei.bw (R5 (d0 (f9 Ff (hr.mono (by decide)) (aa 0 (i8 (u5 (E3 rfl) (h8 2) (Ev.bw i4)) i6)) (Z3 (i7 i5))) l3) T.range)) (λcl C ex vv s H=>(m4 (i:=0) (show List.Nodup (["_law_j","_law_feed_here","_law_works"]:List Str) by decide +kernel))) (λcl C ex vv s H=>u8) (λcl C ex vv s H=>(x9 (d0 (f9 Ff (hr.mono (by decide)) (aa 1 (i8 i4 i6)) (Z3 (i7 i5))) (d0 (u5 (E3 rfl) (Ev.bw i4) (Ev.bw (f9 Ff (hr.mono (by decide)) (aa 1 (i8 (f7 2) i6)) (Z3 (i7 i5))))) l3)))))) m7)))
   (h9 (kT 4 0 (MJ (Nu (by decide) _) hu5) (u5 (E3 rfl) (Ev.bw i4) (Ev.bw (f9 Ff (hr.mono (by decide)) (aa 0 (i8 i4 i6)) (Z3 (i7 i5))))) (f7 6) rfl))))
   (h9 (m8 (J8 (Q1 rfl) T.tuple P5 (j7 (Ev.bw (O0 (osc:=(defScope FO)) (N:=["_law_beat_here","_law_found"]) (k:=1) (cap:=[4]) rfl rfl ⟨rfl,by decide +kernel,by decide +kernel,by decide +kernel,rfl,rfl,by decide +kernel⟩ (B7 (Ev.bw (k9 (gh rfl (MJ (Nu (by decide) _) hu5)) T.sorted X5 (j7 (Ev.bw (jS 4 0 hr.hd T.list (hv:=bq))) m7)))) (λcl C ex vv s H=>(m4 (i:=0) (show List.Nodup (["_law_beat_here","_law_found"]:List Str) by decide +kernel))) (λcl C ex vv s H=>u8) (λcl C ex vv s H=>(x9 (d0 (f7 0) (d0 (lu 1 0 (MJ (Nu (by decide) _) hu5) (f7 0) rfl (λ_ _=>rfl)) l3)))))) m7))))))⟩
def w4:FnScope ["_law_feed_here","_law_house_here","_law_most","_law_lefts","_law_begun","_law_stand","_law_k","_law_starts"] ["_law_feed_here","_law_house_here","_law_most","_law_lefts"] (defScope FM):={}
abbrev U9:=fK ["_law_feed_here","_law_house_here","_law_most","_law_lefts","_law_begun","_law_stand","_law_k","_law_starts"]
def Hy {f:RD}{fd:RJ}(Fn:Fun K "_law_some_stand" "_law_some_stand" FM f fd)(T:Txt K mg)(Ff:g9 P w K mg base "_law_draw" 1 ["_law_feed_here","_law_many"] (spD K 2 C0)):FnOk P w K mg base CX0 2 f fd ["_law_feed_here","_law_house_here","_law_most","_law_lefts"] (spD K 4 U9):=by
 refine t9 Fn w4 λSi A outer s H E hr=>?_
 have hu5:(A.deeper (PyProof.Rows.envOfC "_law_some_stand" (defScope FM) s.heap.objs.size f Si)).units+65<Sa:=by have:=hr.un;omega
 exact⟨_,(d7 (Q4 (A1 vj (Ev.bw (x4 (x5 rfl) (h8 1) (Ev.bw i4))) (Ev.bw fY)) (h9 (p7 2 w4.nd (k9 (nO rfl rfl) T.min oj (j7 (h8 2) (j7 (Ev.bw (x4 (x5 rfl) (h8 1) (Ev.bw i4))) m7))))) Q6)
   (d7 (p7 4 w4.nd (u5 (J3 rfl) (Ev.bw (x4 (x5 rfl) (h8 1) (Ev.bw i4))) (Ev.bw (J8 (wO) T.int vo (j7 (Ev.bw (Y4 (jk rfl hu5) (Ev.bw (x4 (x5 rfl) (h8 1) (Ev.bw i4))) (Ev.bw (kf (.tuple [.str "first",.str "last",.str "short",.str "front"]) rfl)))) m7)))))
   (d7 (dU 5 w4.nd (bV l3))
   (d7 (N5 rfl (R5 (d0 (f9 Ff (hr.mono (by decide)) (aa 0 (i8 (u5 (E3 rfl) (h8 2) (Ev.bw i4)) i6)) (Z3 (i7 i5))) l3) T.range) (m4 (i:=6) w4.nd) (d7 (p7 7 w4.nd (xp (Y4 qW (h8 4) (Ev.bw i4)) (nQ (Y4 (aJ rfl hr.units) (Ev.bw (f9 Ff (hr.mono (by decide)) (aa 0 (i8 i4 i6)) (Z3 (i7 i5)))) (Ev.bw i4)))))
   (d7 (p7 4 w4.nd (u5 W3 (h8 4) (Ev.bw (J8 (wO) T.int vo (j7 (h8 7) m7)))))
   (h9 (Y6 5 rfl (x9 (d0 (f9 Ff (hr.mono (by decide)) (aa 0 (i8 i4 i6)) (Z3 (i7 i5))) (d0 (u5 (E3 rfl) (Ev.bw i4) (Ev.bw (f9 Ff (hr.mono (by decide)) (aa 0 (i8 (f7 3) i6)) (Z3 (i7 i5))))) (d0 (f7 7) l3)))))))))
   (h9 (m8 (J8 (Q1 rfl) T.tuple P5 (j7 (h8 5) m7))))))))⟩
def Z4:FnScope ["_law_feed_here","_law_house_here","_law_many","_law_most","_law_found","_law_k"] ["_law_feed_here","_law_house_here","_law_many","_law_most"] (defScope Gc):={}
abbrev P2:=fH ["_law_feed_here","_law_house_here","_law_many","_law_most","_law_found","_law_k"] ["_law_feed_here","_law_house_here","_law_most","_law_lefts","_law_begun","_law_stand","_law_k","_law_starts"]
def JB {f:RD}{fd:RJ}(Fn:Fun K "_law_lots" "_law_lots" Gc f fd)(T:Txt K mg)(Ff:g9 P w K mg base "_law_draw" 1 ["_law_feed_here","_law_many"] (spD K 2 C0))(FU:g9 P w K mg base "_law_some_stand" 2 ["_law_feed_here","_law_house_here","_law_most","_law_lefts"] (spD K 4 U9)):FnOk P w K mg base CX0 3 f fd ["_law_feed_here","_law_house_here","_law_many","_law_most"] (spD K 4 P2):=by
 refine t9 Fn Z4 λSi A outer s H E hr=>?_
 have hu5:(A.deeper (PyProof.Rows.envOfC "_law_lots" (defScope Gc) s.heap.objs.size f Si)).units+65<Sa:=by have:=hr.un;omega
 exact⟨_,(d7 (kZ 4 0 Z4.nd)
   (d7 (N5 rfl (R5 (d0 (f7 2) l3) T.range) (m4 (i:=5) Z4.nd) (h9 (kT 4 0 (MJ (Nu (by decide) _) hu5) (u5 (E3 rfl) (Ev.bw i4) (Ev.bw (f9 Ff (hr.mono (by decide)) (aa 0 (i8 i4 i6)) (Z3 (i7 i5))))) (f9 FU (hr.mono (by decide)) (aa 0 (i8 (f7 1) (i8 (f7 3) (i8 i4 i6)))) (Z3 (i7 (i7 (i7 i5))))) rfl)))
   (h9 (m8 (O0 (osc:=(defScope Gc)) (N:=["_law_stand","_law_found"]) (k:=1) (cap:=[4]) rfl rfl ⟨rfl,by decide +kernel,by decide +kernel,by decide +kernel,rfl,rfl,by decide +kernel⟩ (B7 (Ev.bw (k9 (gh rfl (MJ (Nu (by decide) _) hu5)) T.sorted X5 (j7 (Ev.bw (jS 4 0 hr.hd T.list (hv:=bq))) m7)))) (λcl C ex vv s H=>(m4 (i:=0) (show List.Nodup (["_law_stand","_law_found"]:List Str) by decide +kernel))) (λcl C ex vv s H=>u8) (λcl C ex vv s H=>(x9 (d0 (f7 0) (d0 (lu 1 0 (MJ (Nu (by decide) _) hu5) (f7 0) rfl (λ_ _=>rfl)) l3)))))))))⟩
def P7:FnScope ["_law_pairs","_law_found","_law_stand","_law_top","_law_whole"] ["_law_pairs"] (defScope FX):={}
abbrev T5:=kY ["_law_pairs","_law_found","_law_stand","_law_top","_law_whole"]
def JN {f:RD}{fd:RJ}(Fn:Fun K "_law_row" "_law_row" FX f fd)(T:Txt K mg)(Ga:g9 P w K mg base "_law_low" 1 ["_law_top","_law_bottom"] (spD K 2 S8)):FnOk P w K mg base CX0 2 f fd ["_law_pairs"] (spD K 1 T5):=by
 refine t9 Fn P7 λSi A outer s H E hr=>?_
 have hu5:(A.deeper (PyProof.Rows.envOfC "_law_row" (defScope FX) s.heap.objs.size f Si)).units+65<Sa:=by have:=hr.un;omega
 exact⟨_,(d7 (kZ 1 0 P7.nd)
   (d7 (N5 rfl (Q9 (f7 0)) (r8 (n:=2) rfl (d4 (m4 (i:=2) P7.nd) (d4 (m4 (i:=3) P7.nd) l8))) (h9 (kT 1 0 (MJ (Nu (by decide) _) hu5) (u5 (E3 rfl) (Ev.bw (tS 1 0 (MJ (Nu (by decide) _) hu5) (f7 2) i4 rfl ⟨rfl,rfl,rfl,rfl⟩)) (h8 3)) (f7 2) rfl)))
   (d7 (p7 4 P7.nd (k9 (V2 rfl rfl) T.sum aF (j7 (Ev.bw (O0 (osc:=(defScope FX)) (N:=["_law_stand","_law_top"]) (k:=2) (cap:=[]) rfl rfl ⟨rfl,by decide +kernel,by decide +kernel,by decide +kernel,rfl,rfl,by decide +kernel⟩ (B7 (h8 0)) (λcl C ex vv s H=>(r8 (n:=2) rfl (d4 (m4 (i:=0) (show List.Nodup (["_law_stand","_law_top"]:List Str) by decide +kernel)) (d4 (m4 (i:=1) (show List.Nodup (["_law_stand","_law_top"]:List Str) by decide +kernel)) l8)))) (λcl C ex vv s H=>u8) (λcl C ex vv s H=>(f7 1)))) m7)))
   (h9 (m8 (J8 (Q1 rfl) T.tuple P5 (j7 (Ev.bw (O0 (osc:=(defScope FX)) (N:=["_law_stand","_law_whole","_law_found"]) (k:=1) (cap:=[4,1]) rfl rfl ⟨rfl,by decide +kernel,by decide +kernel,by decide +kernel,rfl,rfl,by decide +kernel⟩ (B7 (Ev.bw (k9 (gh rfl (MJ (Nu (by decide) _) hu5)) T.sorted X5 (j7 (Ev.bw (jS 1 0 hr.hd T.list (hv:=bq))) m7)))) (λcl C ex vv s H=>(m4 (i:=0) (show List.Nodup (["_law_stand","_law_whole","_law_found"]:List Str) by decide +kernel))) (λcl C ex vv s H=>u8) (λcl C ex vv s H=>(x9 (d0 (f7 0) (d0 (f9 Ga (hr.mono (by decide)) (i8 (lu 2 0 (MJ (Nu (by decide) _) hu5) (f7 0) rfl (λ_ _=>rfl)) (i8 (f7 1) i6)) (i7 (i7 i5))) l3)))))) m7)))))))⟩
def u6:FnScope ["_law_house_here","_law_beats_here","_law_lots_here","_law_found","_law_stand","_law_top","_law_beat_here","_law_lot","_law_line_here","_law_inside","_law_rest","_law_lost","_law_gone","_law_taken_here","_law_work","_law_some","_law_whole"] ["_law_house_here","_law_beats_here","_law_lots_here"] (defScope FG):={}
def O7:List DV->M My:=B9 ["_law_house_here","_law_beats_here","_law_lots_here","_law_found","_law_stand","_law_top","_law_beat_here","_law_lot","_law_line_here","_law_inside","_law_rest","_law_lost","_law_gone","_law_taken_here","_law_work","_law_some","_law_whole"] (mSq (x8 3 (s2 J9 (sC (.list [.int 0])) (sC (.int 6))))
  (mSq (X2 (C6 (sV 2)) (w6 2 (d8 (bN 4) (d8 (bN 5) x3))) (X2 (C6 (sV 1)) (w6 2 (d8 (bN 6) (d8 (bN 7) x3))) (mSq (x8 8 (j8 Q3 (vD (sV 4) n9)))
  (mSq (x8 9 (s2 ixD (j8 B5 (vD (sV 0) (vD (sV 8) (vD (sV 6) n9)))) (sC (.int 0))))
  (mSq (jz (w6 4 (d8 (bN 10) (d8 (bN 11) (d8 (bN 12) (d8 (bN 13) x3))))) (j8 P4 (vD (sV 0) (vD (sV 8) (vD (sV 6) n9)))))
  (mSq (x8 14 (s2 cw (sN S4 (c7 (sLC (C6 (sW 9)) 1 [] (bN 0) A6 (s2 ixD (sW 0) (sC (.int 1)))) j6)) (sN S4 (c7 (sLC (C6 (sW 4)) 1 [] (bN 0) A6 (s2 ixD (sW 0) (sC (.int 1)))) j6))))
  (mSq (x8 15 (rW (c7 (sN T6 (c7 (sW 6) j6)) (c7 (sV 11) (c7 (s2 cw (sN T6 (c7 (sW 9) j6)) (sN T6 (c7 (sW 4) j6))) (c7 (sV 13) (c7 (sN T6 (c7 (sW 12) j6)) (c7 (sV 14) j6))))))))
  (x8 3 (sLC (X7 (c7 (sC (.int 6)) j6)) 1 [3,7,5,15] (bN 0) A6 (s2 N4 (s2 ixD (sW 1) (sW 0)) (s2 J9 (s2 J9 (s2 ixD (sW 4) (sW 0)) (sW 3)) (sW 2))))))))))))
  (mSq (x8 16 (s2 J9 (sN S4 (c7 (sLC (C6 (sW 2)) 2 [] (w6 2 (d8 (bN 0) (d8 (bN 1) x3))) A6 (sV 1)) j6)) (sN S4 (c7 (sLC (C6 (sW 1)) 2 [] (w6 2 (d8 (bN 0) (d8 (bN 1) x3))) A6 (sV 1)) j6))))
  (mRt (sLC (C6 (sW 3)) 1 [16] (bN 0) A6 (j8 S8 (vD (sV 0) (vD (sV 1) n9))))))))
def JO {f:RD}{fd:RJ}(Fn:Fun K "_law_due" "_law_due" FG f fd)(T:Txt K mg)(Hd:g9 P w K mg base "_law_line" 1 ["_law_stand"] (spD K 1 Q3))(FF:g9 P w K mg base "_law_entered" 1 ["_law_house_here","_law_line_here","_law_beat_here"] (spD K 3 B5))(He:g9 P w K mg base "_law_beat" 3 ["_law_house_here","_law_line_here","_law_beat_here"] (spD K 3 P4))(Ga:g9 P w K mg base "_law_low" 1 ["_law_top","_law_bottom"] (spD K 2 S8)):FnOk P w K mg base CX0 4 f fd ["_law_house_here","_law_beats_here","_law_lots_here"] (spD K 3 O7):=by
 refine t9 Fn u6 λSi A outer s H E hr=>?_
 exact⟨_,(d7 (p7 3 u6.nd (u5 (J3 rfl) (Ev.bw (kf (.list [.int 0]) rfl)) (Ev.bw i4)))
   (d7 (N5 rfl (Q9 (f7 2)) (r8 (n:=2) rfl (d4 (m4 (i:=4) u6.nd) (d4 (m4 (i:=5) u6.nd) l8))) (h9 (N5 rfl (Q9 (f7 1)) (r8 (n:=2) rfl (d4 (m4 (i:=6) u6.nd) (d4 (m4 (i:=7) u6.nd) l8))) (d7 (p7 8 u6.nd (f9 Hd (hr.mono (by decide)) (i8 (f7 4) i6) (i7 i5)))
   (d7 (p7 9 u6.nd (x4 (x5 rfl) (Ev.bw (f9 FF (hr.mono (by decide)) (i8 (f7 0) (i8 (f7 8) (i8 (f7 6) i6))) (i7 (i7 (i7 i5))))) (Ev.bw i4)))
   (d7 (dO (f9 He (hr.mono (by decide)) (i8 (f7 0) (i8 (f7 8) (i8 (f7 6) i6))) (i7 (i7 (i7 i5)))) (r8 (n:=4) rfl (d4 (m4 (i:=10) u6.nd) (d4 (m4 (i:=11) u6.nd) (d4 (m4 (i:=12) u6.nd) (d4 (m4 (i:=13) u6.nd) l8))))))
   (d7 (p7 14 u6.nd (u5 W3 (Ev.bw (k9 (V2 rfl rfl) T.sum aF (j7 (Ev.bw (O0 (osc:=(defScope FG)) (N:=["_law_person"]) (k:=1) (cap:=[]) rfl rfl ⟨rfl,by decide +kernel,by decide +kernel,by decide +kernel,rfl,rfl,by decide +kernel⟩ (B7 (h8 9)) (λcl C ex vv s H=>(m4 (i:=0) (show List.Nodup (["_law_person"]:List Str) by decide +kernel))) (λcl C ex vv s H=>u8) (λcl C ex vv s H=>(x4 (x5 rfl) (h8 0) (Ev.bw i4))))) m7))) (Ev.bw (k9 (V2 rfl rfl) T.sum aF (j7 (Ev.bw (O0 (osc:=(defScope FG)) (N:=["_law_person"]) (k:=1) (cap:=[]) rfl rfl ⟨rfl,by decide +kernel,by decide +kernel,by decide +kernel,rfl,rfl,by decide +kernel⟩ (B7 (h8 4)) (λcl C ex vv s H=>(m4 (i:=0) (show List.Nodup (["_law_person"]:List Str) by decide +kernel))) (λcl C ex vv s H=>u8) (λcl C ex vv s H=>(x4 (x5 rfl) (h8 0) (Ev.bw i4))))) m7)))))
   (d7 (p7 15 u6.nd (pA (d0 (k9 (G3 rfl) T.len G7 (j7 (h8 6) m7)) (d0 (f7 11) (d0 (u5 W3 (Ev.bw (k9 (G3 rfl) T.len G7 (j7 (h8 9) m7))) (Ev.bw (k9 (G3 rfl) T.len G7 (j7 (h8 4) m7)))) (d0 (f7 13) (d0 (k9 (G3 rfl) T.len G7 (j7 (h8 12) m7)) (d0 (f7 14) l3))))))))
   (h9 (p7 3 u6.nd (O0 (osc:=(defScope FG)) (N:=["_law_k","_law_found","_law_lot","_law_top","_law_some"]) (k:=1) (cap:=[3,7,5,15]) rfl rfl ⟨rfl,by decide +kernel,by decide +kernel,by decide +kernel,rfl,rfl,by decide +kernel⟩ (Ei.bw (R5 (d0 i4 l3) T.range)) (λcl C ex vv s H=>(m4 (i:=0) (show List.Nodup (["_law_k","_law_found","_law_lot","_law_top","_law_some"]:List Str) by decide +kernel))) (λcl C ex vv s H=>u8) (λcl C ex vv s H=>(u5 (E3 rfl) (Ev.bw (x4 (x5 rfl) (h8 1) (h8 0))) (Ev.bw (u5 (J3 rfl) (Ev.bw (u5 (J3 rfl) (Ev.bw (x4 (x5 rfl) (h8 4) (h8 0))) (h8 3))) (h8 2))))))))))))))))
   (d7 (p7 16 u6.nd (u5 (J3 rfl) (Ev.bw (k9 (V2 rfl rfl) T.sum aF (j7 (Ev.bw (O0 (osc:=(defScope FG)) (N:=["_law_stand","_law_top"]) (k:=2) (cap:=[]) rfl rfl ⟨rfl,by decide +kernel,by decide +kernel,by decide +kernel,rfl,rfl,by decide +kernel⟩ (B7 (h8 2)) (λcl C ex vv s H=>(r8 (n:=2) rfl (d4 (m4 (i:=0) (show List.Nodup (["_law_stand","_law_top"]:List Str) by decide +kernel)) (d4 (m4 (i:=1) (show List.Nodup (["_law_stand","_law_top"]:List Str) by decide +kernel)) l8)))) (λcl C ex vv s H=>u8) (λcl C ex vv s H=>(f7 1)))) m7))) (Ev.bw (k9 (V2 rfl rfl) T.sum aF (j7 (Ev.bw (O0 (osc:=(defScope FG)) (N:=["_law_beat_here","_law_lot"]) (k:=2) (cap:=[]) rfl rfl ⟨rfl,by decide +kernel,by decide +kernel,by decide +kernel,rfl,rfl,by decide +kernel⟩ (B7 (h8 1)) (λcl C ex vv s H=>(r8 (n:=2) rfl (d4 (m4 (i:=0) (show List.Nodup (["_law_beat_here","_law_lot"]:List Str) by decide +kernel)) (d4 (m4 (i:=1) (show List.Nodup (["_law_beat_here","_law_lot"]:List Str) by decide +kernel)) l8)))) (λcl C ex vv s H=>u8) (λcl C ex vv s H=>(f7 1)))) m7)))))
   (h9 (m8 (O0 (osc:=(defScope FG)) (N:=["_law_one","_law_whole"]) (k:=1) (cap:=[16]) rfl rfl ⟨rfl,by decide +kernel,by decide +kernel,by decide +kernel,rfl,rfl,by decide +kernel⟩ (B7 (h8 3)) (λcl C ex vv s H=>(m4 (i:=0) (show List.Nodup (["_law_one","_law_whole"]:List Str) by decide +kernel))) (λcl C ex vv s H=>u8) (λcl C ex vv s H=>(f9 Ga (hr.mono (by decide)) (i8 (f7 0) (i8 (f7 1) i6)) (i7 (i7 i5))))))))))⟩
end
end
section
section
variable {P:RF}{w:RG}{K:Fg}{mg:Str->Option RC}{base:RM}
def T4:FnScope ["_law_script","_law_feed_here","_law_turn","_law_house_here","_law_beats_here","_law_lots_here","_law_row_here","_law_due_here","_law_again","_law_told"] ["_law_script"] (defScope FA):={}
def K8:RK->List RK
 | .For _ _ b _ _=>b
 | _=>[]
def bD:DE->M Out:=(x8 3 (j8 N3 (vF 1 (vD (sC (.int 6)) n9))))
def aS:DE->M Out:=(x8 4 (j8 M6 (vF 1 (vD (s2 N4 (sC (.int 1)) (j8 C0 (vF 1 (vD (sC (.int 6)) n9)))) (vD (sC (.int 2)) (vD (sC (.int 3)) n9))))))
def bf:DE->M Out:=(x8 5 (j8 P2 (vF 1 (vD (sV 3) (vD (s2 N4 (sC (.int 1)) (j8 C0 (vF 1 (vD (sC (.int 4)) n9)))) (vD (sC (.int 8)) n9))))))
def bu:DE->M Out:=(x8 6 (j8 T5 (vD (sV 5) n9)))
def bj:DE->M Out:=(x8 7 (sN mB (c7 (j8 O7 (vD (sV 3) (vD (sV 4) (vD (sV 5) n9)))) j6)))
def V0:DE->M Out:=(x8 9 (rW (c7 (j8 M5 (vD (sV 4) n9)) (c7 (j8 M4 (vD (sV 3) (vD (sV 4) (vD (sV 6) n9)))) (c7 (j8 O1 (vD (sV 3) (vD (sV 4) (vD (sV 6) n9)))) j6)))))
def V1:DE->M Out:=(x8 9 (s2 N4 (sW 9) (rW (c7 (j8 G2 (vD (sV 3) (vD (sV 4) (vD (sV 6) n9)))) (c7 (j8 L7 (vD (sV 3) (vD (sV 4) (vD (sV 6) n9)))) (c7 (j8 L8 (vD (sV 3) (vD (sV 4) (vD (sV 6) n9)))) j6))))))
def U2:DE->M Out:=(mIf (uB (s2 (eqD true) (sN mB (c7 (sW 9) j6)) (sW 7))) (mRt (sC (.bool false))) mNx)
def dJ:DE->M Out:=(X2 (X7 (c7 (sC (.int 2)) j6)) (bN 8) (mSq V0 (mSq V1 U2)))
def lA:DE->M Out:=(X2 (X7 (c7 (sC (.int 2)) j6)) (bN 2) (mSq bD (mSq aS (mSq bf (mSq bu (mSq bj dJ))))))
def fG:DE->M Out:=(mRt (sC (.bool true)))
section
variable {f:RD}{Si:RC}{A:RH}{outer:List RQ}{s:RE}{H:Hp}{E:XK}(T:Txt K mg)(hr:Room 7 (A.deeper (PyProof.Rows.envOfC "law" (defScope FA) s.heap.objs.size f Si)))(hu5:(A.deeper (PyProof.Rows.envOfC "law" (defScope FA) s.heap.objs.size f Si)).units+65<Sa)(Fj:g9 P w K mg base "_law_house" 2 ["_law_feed_here","_law_most"] (spD K 2 N3))(Fm:g9 P w K mg base "_law_beats" 2 ["_law_feed_here","_law_many","_law_most","_law_works"] (spD K 4 M6))(Ff:g9 P w K mg base "_law_draw" 1 ["_law_feed_here","_law_many"] (spD K 2 C0))(Fp:g9 P w K mg base "_law_lots" 3 ["_law_feed_here","_law_house_here","_law_many","_law_most"] (spD K 4 P2))(Fv:g9 P w K mg base "_law_row" 2 ["_law_pairs"] (spD K 1 T5))(Fw:g9 P w K mg base "_law_due" 4 ["_law_house_here","_law_beats_here","_law_lots_here"] (spD K 3 O7))(Fx:g9 P w K mg base "let_mean" 5 ["house","beats","row"] (spD K 3 O1))(Fq:g9 P w K mg base "lost_mean" 5 ["house","beats","row"] (spD K 3 M4))(Fs:g9 P w K mg base "come_mean" 4 ["beats"] (spD K 1 M5))(Ft:g9 P w K mg base "work_mean" 5 ["house","beats","row"] (spD K 3 L8))(Fu:g9 P w K mg base "gone_mean" 7 ["house","beats","row"] (spD K 3 L7))(Fh:g9 P w K mg base "picked_mean" 5 ["house","beats","row"] (spD K 3 G2))
include T hr hu5 Fj Fm Ff Fp Fv Fw Fx Fq Fs Ft Fu Fh
theorem oo:∃ts,Ss K (U1 CX0 P w K mg base ["_law_script","_law_feed_here","_law_turn","_law_house_here","_law_beats_here","_law_lots_here","_law_row_here","_law_due_here","_law_again","_law_told"] "law" (defScope FA) f Si A outer s H E).nox ((K8 ((defBody FA).getD 1 (.Pass ⟨0,0,0,0⟩))).getD 0 (.Pass ⟨0,0,0,0⟩)) ts bD:=by unfold bD;exact⟨_,(p7 3 T4.nd (f9 Fj (hr.mono (by decide)) (aa 1 (i8 i4 i6)) (Z3 (i7 i5))))⟩
theorem oZ:∃ts,Ss K (U1 CX0 P w K mg base ["_law_script","_law_feed_here","_law_turn","_law_house_here","_law_beats_here","_law_lots_here","_law_row_here","_law_due_here","_law_again","_law_told"] "law" (defScope FA) f Si A outer s H E).nox ((K8 ((defBody FA).getD 1 (.Pass ⟨0,0,0,0⟩))).getD 1 (.Pass ⟨0,0,0,0⟩)) ts aS:=by unfold aS;exact⟨_,(p7 4 T4.nd (f9 Fm (hr.mono (by decide)) (aa 1 (i8 (u5 (E3 rfl) (Ev.bw i4) (Ev.bw (f9 Ff (hr.mono (by decide)) (aa 1 (i8 i4 i6)) (Z3 (i7 i5))))) (i8 i4 (i8 i4 i6)))) (Z3 (i7 (i7 (i7 i5))))))⟩
theorem oi:∃ts,Ss K (U1 CX0 P w K mg base ["_law_script","_law_feed_here","_law_turn","_law_house_here","_law_beats_here","_law_lots_here","_law_row_here","_law_due_here","_law_again","_law_told"] "law" (defScope FA) f Si A outer s H E).nox ((K8 ((defBody FA).getD 1 (.Pass ⟨0,0,0,0⟩))).getD 2 (.Pass ⟨0,0,0,0⟩)) ts bf:=by unfold bf;exact⟨_,(p7 5 T4.nd (f9 Fp (hr.mono (by decide)) (aa 1 (i8 (f7 3) (i8 (u5 (E3 rfl) (Ev.bw i4) (Ev.bw (f9 Ff (hr.mono (by decide)) (aa 1 (i8 i4 i6)) (Z3 (i7 i5))))) (i8 i4 i6)))) (Z3 (i7 (i7 (i7 i5))))))⟩
theorem pJ:∃ts,Ss K (U1 CX0 P w K mg base ["_law_script","_law_feed_here","_law_turn","_law_house_here","_law_beats_here","_law_lots_here","_law_row_here","_law_due_here","_law_again","_law_told"] "law" (defScope FA) f Si A outer s H E).nox ((K8 ((defBody FA).getD 1 (.Pass ⟨0,0,0,0⟩))).getD 3 (.Pass ⟨0,0,0,0⟩)) ts bu:=by unfold bu;exact⟨_,(p7 6 T4.nd (f9 Fv (hr.mono (by decide)) (i8 (f7 5) i6) (i7 i5)))⟩
theorem oN:∃ts,Ss K (U1 CX0 P w K mg base ["_law_script","_law_feed_here","_law_turn","_law_house_here","_law_beats_here","_law_lots_here","_law_row_here","_law_due_here","_law_again","_law_told"] "law" (defScope FA) f Si A outer s H E).nox ((K8 ((defBody FA).getD 1 (.Pass ⟨0,0,0,0⟩))).getD 4 (.Pass ⟨0,0,0,0⟩)) ts bj:=by unfold bj;exact⟨_,(p7 7 T4.nd (k9 (ql rfl hr.gd hr.units) T.repr qG (j7 (Ev.bw (f9 Fw (hr.mono (by decide)) (i8 (f7 3) (i8 (f7 4) (i8 (f7 5) i6))) (i7 (i7 (i7 i5))))) m7)))⟩
theorem jY:∃ts,Ss K (U1 CX0 P w K mg base ["_law_script","_law_feed_here","_law_turn","_law_house_here","_law_beats_here","_law_lots_here","_law_row_here","_law_due_here","_law_again","_law_told"] "law" (defScope FA) f Si A outer s H E).nox ((K8 ((K8 ((defBody FA).getD 1 (.Pass ⟨0,0,0,0⟩))).getD 5 (.Pass ⟨0,0,0,0⟩))).getD 0 (.Pass ⟨0,0,0,0⟩)) ts V0:=by unfold V0;exact⟨_,(p7 9 T4.nd (pA (d0 (f9 Fs (hr.mono (by decide)) (i8 (f7 4) i6) (i7 i5)) (d0 (f9 Fq (hr.mono (by decide)) (i8 (f7 3) (i8 (f7 4) (i8 (f7 6) i6))) (i7 (i7 (i7 i5)))) (d0 (f9 Fx (hr.mono (by decide)) (i8 (f7 3) (i8 (f7 4) (i8 (f7 6) i6))) (i7 (i7 (i7 i5)))) l3)))))⟩
theorem kD:∃ts,Ss K (U1 CX0 P w K mg base ["_law_script","_law_feed_here","_law_turn","_law_house_here","_law_beats_here","_law_lots_here","_law_row_here","_law_due_here","_law_again","_law_told"] "law" (defScope FA) f Si A outer s H E).nox ((K8 ((K8 ((defBody FA).getD 1 (.Pass ⟨0,0,0,0⟩))).getD 5 (.Pass ⟨0,0,0,0⟩))).getD 1 (.Pass ⟨0,0,0,0⟩)) ts V1:=by unfold V1;exact⟨_,(p7 9 T4.nd (u5 (E3 rfl) (h8 9) (Ev.bw (pA (d0 (f9 Fh (hr.mono (by decide)) (i8 (f7 3) (i8 (f7 4) (i8 (f7 6) i6))) (i7 (i7 (i7 i5)))) (d0 (f9 Fu (hr.mono (by decide)) (i8 (f7 3) (i8 (f7 4) (i8 (f7 6) i6))) (i7 (i7 (i7 i5)))) (d0 (f9 Ft (hr.mono (by decide)) (i8 (f7 3) (i8 (f7 4) (i8 (f7 6) i6))) (i7 (i7 (i7 i5)))) l3)))))))⟩
theorem kF:∃ts,Ss K (U1 CX0 P w K mg base ["_law_script","_law_feed_here","_law_turn","_law_house_here","_law_beats_here","_law_lots_here","_law_row_here","_law_due_here","_law_again","_law_told"] "law" (defScope FA) f Si A outer s H E).nox ((K8 ((K8 ((defBody FA).getD 1 (.Pass ⟨0,0,0,0⟩))).getD 5 (.Pass ⟨0,0,0,0⟩))).getD 2 (.Pass ⟨0,0,0,0⟩)) ts U2:=by unfold U2;exact⟨_,(Q4 (A1 (uW rfl hr.units) (Ev.bw (k9 (ql rfl hr.gd hr.units) T.repr qG (j7 (h8 9) m7))) (h8 7)) (h9 (m8 hZ)) Q6)⟩
theorem pF:∃ts,Ss K (U1 CX0 P w K mg base ["_law_script","_law_feed_here","_law_turn","_law_house_here","_law_beats_here","_law_lots_here","_law_row_here","_law_due_here","_law_again","_law_told"] "law" (defScope FA) f Si A outer s H E).nox ((K8 ((defBody FA).getD 1 (.Pass ⟨0,0,0,0⟩))).getD 5 (.Pass ⟨0,0,0,0⟩)) ts dJ:=by obtain⟨t_law_1_5_2,h_law_1_5_2⟩:=kF (f:=f) (Si:=Si) (A:=A) (outer:=outer) (s:=s) (H:=H) (E:=E) T hr hu5 Fj Fm Ff Fp Fv Fw Fx Fq Fs Ft Fu Fh;obtain⟨t_law_1_5_1,h_law_1_5_1⟩:=kD (f:=f) (Si:=Si) (A:=A) (outer:=outer) (s:=s) (H:=H) (E:=E) T hr hu5 Fj Fm Ff Fp Fv Fw Fx Fq Fs Ft Fu Fh;obtain⟨t_law_1_5_0,h_law_1_5_0⟩:=jY (f:=f) (Si:=Si) (A:=A) (outer:=outer) (s:=s) (H:=H) (E:=E) T hr hu5 Fj Fm Ff Fp Fv Fw Fx Fq Fs Ft Fu Fh;exact⟨_,N5 rfl (R5 (d0 i4 l3) T.range) (m4 (i:=8) T4.nd) (d7 h_law_1_5_0 (d7 h_law_1_5_1 (h9 h_law_1_5_2)))⟩
theorem uq:∃ts,Ss K (U1 CX0 P w K mg base ["_law_script","_law_feed_here","_law_turn","_law_house_here","_law_beats_here","_law_lots_here","_law_row_here","_law_due_here","_law_again","_law_told"] "law" (defScope FA) f Si A outer s H E).nox ((defBody FA).getD 1 (.Pass ⟨0,0,0,0⟩)) ts lA:=by obtain⟨t_law_1_5,h_law_1_5⟩:=pF (f:=f) (Si:=Si) (A:=A) (outer:=outer) (s:=s) (H:=H) (E:=E) T hr hu5 Fj Fm Ff Fp Fv Fw Fx Fq Fs Ft Fu Fh;obtain⟨t_law_1_4,h_law_1_4⟩:=oN (f:=f) (Si:=Si) (A:=A) (outer:=outer) (s:=s) (H:=H) (E:=E) T hr hu5 Fj Fm Ff Fp Fv Fw Fx Fq Fs Ft Fu Fh;obtain⟨t_law_1_3,h_law_1_3⟩:=pJ (f:=f) (Si:=Si) (A:=A) (outer:=outer) (s:=s) (H:=H) (E:=E) T hr hu5 Fj Fm Ff Fp Fv Fw Fx Fq Fs Ft Fu Fh;obtain⟨t_law_1_2,h_law_1_2⟩:=oi (f:=f) (Si:=Si) (A:=A) (outer:=outer) (s:=s) (H:=H) (E:=E) T hr hu5 Fj Fm Ff Fp Fv Fw Fx Fq Fs Ft Fu Fh;obtain⟨t_law_1_1,h_law_1_1⟩:=oZ (f:=f) (Si:=Si) (A:=A) (outer:=outer) (s:=s) (H:=H) (E:=E) T hr hu5 Fj Fm Ff Fp Fv Fw Fx Fq Fs Ft Fu Fh;obtain⟨t_law_1_0,h_law_1_0⟩:=oo (f:=f) (Si:=Si) (A:=A) (outer:=outer) (s:=s) (H:=H) (E:=E) T hr hu5 Fj Fm Ff Fp Fv Fw Fx Fq Fs Ft Fu Fh;exact⟨_,N5 rfl (R5 (d0 i4 l3) T.range) (m4 (i:=2) T4.nd) (d7 h_law_1_0 (d7 h_law_1_1 (d7 h_law_1_2 (d7 h_law_1_3 (d7 h_law_1_4 (h9 h_law_1_5))))))⟩
theorem wU:∃ts,Ss K (U1 CX0 P w K mg base ["_law_script","_law_feed_here","_law_turn","_law_house_here","_law_beats_here","_law_lots_here","_law_row_here","_law_due_here","_law_again","_law_told"] "law" (defScope FA) f Si A outer s H E).nox ((defBody FA).getD 2 (.Pass ⟨0,0,0,0⟩)) ts fG:=by unfold fG;exact⟨_,(m8 hZ)⟩
end
def lR:DE->M Out:=(mSq lA fG)
def Bk {α:Type}(l:List α)(d:α)(h:0<l.length):l=l.getD 0 d::l.drop 1:=by
 cases l with
 | nil=>simp at h
 | cons a r=>rfl
def spLaw (K:Fg):Sp:=λvs H Q _=>∃(a:RD) (ns:List Int),vs=[.ref a]/\SqL K H a (ns.map V.int)/\ns.length<=63/\T2 (tabsK Feeds.lam K) H/\∀H',Q (.bl true) H'
def vk {f:RD}{Si:RC}{A:RH}{outer:List RQ}{s:RE}{H:Hp}{E:XK}(hr:Room 7 (A.deeper (PyProof.Rows.envOfC "law" (defScope FA) s.heap.objs.size f Si)))(CF:g9 P w K mg base "_law_feed" 1 ["_law_script"] (jB K)) :
  PS (U1 CX0 P w K mg base ["_law_script","_law_feed_here","_law_turn","_law_house_here","_law_beats_here","_law_lots_here","_law_row_here","_law_due_here","_law_again","_law_told"] "law" (defScope FA) f Si A outer s H E).nox ((defBody FA).getD 0 (.Pass ⟨0,0,0,0⟩)) (gm (mN (jB K) [] E0 (N8 (cF 0) bY)) (aM 1)) :=
 S7 (i:=1) T4.nd rfl (by walk_at "v") (iQ CF (hr.mono (by decide)) rfl (A3 (pv 0) J6))
def LM {f:RD}{fd:RJ}(Fn:Fun K "law" "law" FA f fd)(T:Txt K mg)(CF:g9 P w K mg base "_law_feed" 1 ["_law_script"] (jB K))(Fj:g9 P w K mg base "_law_house" 2 ["_law_feed_here","_law_most"] (spD K 2 N3))(Fm:g9 P w K mg base "_law_beats" 2 ["_law_feed_here","_law_many","_law_most","_law_works"] (spD K 4 M6))(Ff:g9 P w K mg base "_law_draw" 1 ["_law_feed_here","_law_many"] (spD K 2 C0))(Fp:g9 P w K mg base "_law_lots" 3 ["_law_feed_here","_law_house_here","_law_many","_law_most"] (spD K 4 P2))(Fv:g9 P w K mg base "_law_row" 2 ["_law_pairs"] (spD K 1 T5))(Fw:g9 P w K mg base "_law_due" 4 ["_law_house_here","_law_beats_here","_law_lots_here"] (spD K 3 O7))(Fx:g9 P w K mg base "let_mean" 5 ["house","beats","row"] (spD K 3 O1))(Fq:g9 P w K mg base "lost_mean" 5 ["house","beats","row"] (spD K 3 M4))(Fs:g9 P w K mg base "come_mean" 4 ["beats"] (spD K 1 M5))(Ft:g9 P w K mg base "work_mean" 5 ["house","beats","row"] (spD K 3 L8))(Fu:g9 P w K mg base "gone_mean" 7 ["house","beats","row"] (spD K 3 L7))(Fh:g9 P w K mg base "picked_mean" 5 ["house","beats","row"] (spD K 3 G2))
  (fin:∀ns:List Int,ns.length<=63->∃F',lR ([none,some .feed]++List.replicate (["_law_script","_law_feed_here","_law_turn","_law_house_here","_law_beats_here","_law_lots_here","_law_row_here","_law_due_here","_law_again","_law_told"].length-2) none) (nq ns)=some (.rt (.bool true),F')):FnOk P w K mg base CX0 8 f fd ["_law_script"] (spLaw K):=by
 refine Fn.ok T4 (λvs H Q E h=>?_) (λSi A outer s H vs Q E hr h=>?_)
 .obtain⟨a,ns,rfl,_⟩:=h;rfl
 .obtain⟨a,ns,rfl,hS,hl,tbo,k⟩:=h;have hu5:(A.deeper (PyProof.Rows.envOfC "law" (defScope FA) s.heap.objs.size f Si)).units+65<Sa:=by have:=hr.un;omega
  obtain⟨t_law_1,h_law_1⟩:=uq (f:=f) (Si:=Si) (A:=A) (outer:=outer) (s:=s) (H:=H) (E:=E) T hr hu5 Fj Fm Ff Fp Fv Fw Fx Fq Fs Ft Fu Fh;obtain⟨t_law_2,h_law_2⟩:=wU (f:=f) (Si:=Si) (A:=A) (outer:=outer) (s:=s) (H:=H) (E:=E) T hr hu5 Fj Fm Ff Fp Fv Fw Fx Fq Fs Ft Fu Fh;obtain⟨ts,hq,hk⟩:∃ts,Sss K (U1 CX0 P w K mg base ["_law_script","_law_feed_here","_law_turn","_law_house_here","_law_beats_here","_law_lots_here","_law_row_here","_law_due_here","_law_again","_law_told"] "law" (defScope FA) f Si A outer s H E).nox ((defBody FA).drop 1) ts lR:=⟨_,(d7 h_law_1 (h9 h_law_2))⟩;have h0:=vk (P:=P) (w:=w) (K:=K) (mg:=mg) (base:=base) (f:=f) (Si:=Si) (A:=A) (outer:=outer) (s:=s) (H:=H) (E:=E) hr CF;have hsp:=Bk (defBody FA) (.Pass ⟨0,0,0,0⟩) (by decide +kernel);generalize List.drop 1 (defBody FA)=R at hq hsp;generalize (defBody FA).getD 0 (RK.Pass { line:=0,col:=0,endLine:=0,endCol:=0 })=S0 at h0 hsp;have hp:=B6 h0 hq;rw[<-hsp]at hp;refine⟨_,hp,?_⟩;refine⟨_,rfl,a,ns,rfl,hS,hl,λd c H1 f1 s1=>?_⟩;obtain⟨F',e⟩:=fin ns hl;have fat:FAt K (some (d,c)) H1 (nq ns):=⟨f1,tbo.congr λb hb=>by
   obtain⟨o,e⟩:∃o,H b=some o:=by
    rcases hb with hb | ⟨φ,e⟩
    .obtain⟨t,ht,rfl⟩:=ML.1 hb;obtain⟨ps,e,_⟩:=tbo t ht;exact⟨_,e⟩
    .exact⟨_,e⟩
   rw[e];exact s1 b o e⟩
  refine hk (some (d,c)) (p9 K (some (d,c))) H1 _ (nq ns) _ H1 _ _ F' ⟨⟨p9 K (some (d,c)),λ_ z=>z,λb hb=>.inl hb,⟨fat,λ_ z=>z,fat.bok,by simp[L2.T7],λi x ei=>?_⟩⟩,λ_ z=>z,Kp.refl,λi ds b ei=>?_,λi j ds es b ei=>?_,λi c ps b ei=>?_⟩ e (λv H' _ _ hv=>?_)
  .match i,ei with
   | 0,ei=>cases ei
   | 1,ei=>cases ei;exact⟨.ref d,rfl,d,c,rfl,rfl⟩
   | i+2,ei=>simp only[MA,ME,OB,NG]at ei;split at ei <;> cases ei
  .match i,ei with
   | 0,ei=>cases ei
   | 1,ei=>cases ei
   | i+2,ei=>simp only[MA,ME,OB,NG]at ei;split at ei <;> cases ei
  .match i,ei with
   | 0,ei=>cases ei
   | 1,ei=>cases ei
   | i+2,ei=>simp only[MA,ME,OB,NG]at ei;split at ei <;> cases ei
  .match i,ei with
   | 0,ei=>cases ei
   | 1,ei=>cases ei
   | i+2,ei=>simp only[MA,ME,OB,NG]at ei;split at ei <;> cases ei
  .simp only[c8]at hv;subst hv;exact k H'
end
end
end K40
namespace K40
open PySem L2 L3 Bz
def vJ:N3=dE ["_law_feed_here","_law_most","_law_rule","_law_hands"]:=rfl
def wX:M6=cK ["_law_feed_here","_law_many","_law_most","_law_works","_law_found","_law_k","_law_beat_here"]:=rfl
def yI:P2=fH ["_law_feed_here","_law_house_here","_law_many","_law_most","_law_found","_law_k"] ["_law_feed_here","_law_house_here","_law_most","_law_lefts","_law_begun","_law_stand","_law_k","_law_starts"]:=rfl
def Cq:S8=dy:=rfl
def AK:T5=kY ["_law_pairs","_law_found","_law_stand","_law_top","_law_whole"]:=rfl
def ot:N7=aN:=rfl
def yZ:jF=jW:=rfl
def xx:bA=bo:=rfl
def Bh:D2=D3:=rfl
def qz:y6=bc:=rfl
def sm5 {n:Nat}(h:n<=100000):n<gE:=p4 (MJ h (Mx (show 100000<2 ^ 20 by decide) (NQ (by decide) (by decide))))
def sm9 {n:Nat}(h:n<=100000):n<2 ^ 9000:=MJ h (Mx (show 100000<2 ^ 20 by decide) (NQ (by decide) (by decide)))
abbrev dn (W:Nat)(p:Kw Pn):Nat:=(mkRat p.2 W).den
section
variable {F:FdS}{Q:My->FdS->Prop}{rs:List (Kw Pn)}{W:Nat}
def oY (hW:1<=W)(p:Kw Pn):dn W p ∣ W:=(eF p.2 (by omega)).1
def wJ (hW:1<=W)(hW2:W<=1000)(q:∀B:Nat,1<=B->B ∣ W->(∀p∈rs,dn W p ∣ B)->Q (.int (B:Nat)) F):wp (F0 [.dat (.tuple (rs.map (shD W)))] F) Q:=by
 unfold F0;rw[Bh];walk_at "kb";refine m5.2 (r6.2 (m9.2 ⟨j5 rfl,l0 (m5.2 (L1.2 (B1.2 (j4.2 (j3 rfl (d6 Q7 ?_))))))⟩));refine D9 (λj E F'=>F'=F/\∃(B:Nat) (o2 o3:Option DV),1<=B/\B ∣ W/\(∀p∈rs.take j,dn W p ∣ B)/\E=[some (.dat (.tuple (rs.map (shD W)))),some (.dat (.int (B:Nat))),o2,o3]) _ 0 _ F ⟨rfl,1,none,none,Mh _,Nat.one_dvd _,λp hp=>(nomatch hp),rfl⟩ ?_ ?_
 .rintro j d e E F1 ⟨rfl,B,o2,o3,hB,hd,hall,rfl⟩;rw[MM]at hall ⊢;rw[Mt]at e;obtain⟨p,ep,rfl⟩:=Ms.1 e;have hBW:=OR (by omega) hd;have hdW:=OR (by omega) (oY hW p);have hd1:1<=dn W p:=qi _;refine⟨_,rfl,r6.2 (l9.2 (l9.2 (j9.2 (l5 rfl (l9.2 (j9.2 (l5 rfl (m9.2 (d6 ix1 (d6 (gf (sm5 (by rw[NP];omega)) (sm5 (by rw[NP];show dn W p<=_;omega))) ?_))))))))))⟩;refine i9.2 (l7.2 (j4.2 (j3 rfl (l7.2 (l9.2 (j9.2 (l5 rfl (m9.2 (d6 ix1 (l4.2 (zT ?_)))))))))));have eg:Int.gcd (B:Int) ((dn W p:Nat):Int)=Nat.gcd B (dn W p):=rfl;rw[eg];have hg:0<Nat.gcd B (dn W p):=Nat.gcd_pos_of_pos_left _ (by omega);have hgB:=Nat.gcd_le_left (dn W p) (show 0<B by omega);refine d6 (iK (by omega) (sm9 (by rw[NP];omega))) ⟨j5 rfl,?_⟩;have e1:(B:Int)*((dn W p:Nat):Int) / ((Nat.gcd B (dn W p):Nat):Int)=((Nat.lcm B (dn W p):Nat):Int):=by rw[<-Int.natCast_mul,<-Int.natCast_ediv];rfl
  rw[e1];refine⟨_,rfl,rfl,Nat.lcm B (dn W p),_,_,Nat.lcm_pos (by omega) (by omega),Nat.lcm_dvd hd (oY hW p),λz hz=>?_,rfl⟩;rw[NU,ep]at hz;rcases NO.1 hz with hz | hz
  .exact Nat.dvd_trans (hall z hz) (Nat.dvd_lcm_left _ _)
  .rw[Ni.1 hz];exact Nat.dvd_lcm_right _ _
 .rintro E F1 ⟨rfl,B,o2,o3,hB,hd,hall,rfl⟩;rw[MM,LX,OH]at hall;exact l0 (y9.2 (j4.2 (j3 rfl (v7 (q B hB hd hall)))))
abbrev wtB (W B:Nat)(p:Kw Pn):Int:=(mkRat p.2 W).num*((B / dn W p:Nat):Int)
def tw {B:Nat}(hW:1<=W){p:Kw Pn}(hd:dn W p ∣ B):wtB W B p*W=p.2*B:=by
 have h1:mkRat p.2 W=mkRat (mkRat p.2 W).num (mkRat p.2 W).den:=(Rat.mkRat_self _).symm;have h2:=(QD (by omega) (mkRat p.2 W).den_nz).1 h1;have h3:((dn W p:Nat):Int)*((B / dn W p:Nat):Int)=(B:Int):=by rw[<-Int.natCast_mul,Nat.mul_div_cancel' hd]
 have h4:wtB W B p*W=((mkRat p.2 W).num*W)*((B / dn W p:Nat):Int):=by show(mkRat p.2 W).num*((B / dn W p:Nat):Int)*W=_;rw[Nw,Oh _ (W:Int),<-Nw]
 rw[h4,<-h2,Nw,h3]
def Er {me:DE->M My}{f:Kw Pn->My}{rest:DE}:∀(ds:List (Kw Pn)) (o o' o'':Option DV) (F:FdS) (Q:List My->FdS->Prop),(∀p∈ds,∀(F:FdS) (Q:My->FdS->Prop),Q (f p) F->wp (me (some (.dat (rwD pnD p.1))::some (.dat (.int (mkRat p.2 W).num))::some (.dat (.int ((dn W p:Nat):Int)))::rest) F) Q)->Q (ds.map f) F ->
  wp (P8 (w6 2 (d8 (bN 0) (d8 (w6 2 (d8 (bN 1) (d8 (bN 2) x3))) x3))) A6 me (ds.map (shD W)) (o::o'::o''::rest) F) Q
 | [],o,o',o'',F,Q,_,q=>d9.2 q
 | d::ds,o,o',o'',F,Q,h,q=>by rw[Ma,P8];have e:w6 2 (d8 (bN 0) (d8 (w6 2 (d8 (bN 1) (d8 (bN 2) x3))) x3)) (shD W d) (o::o'::o''::rest)=some (some (.dat (rwD pnD d.1))::some (.dat (.int (mkRat d.2 W).num))::some (.dat (.int ((dn W d:Nat):Int)))::rest):=rfl;rw[e,MF,d5];refine Z5.2 ?_;rw[Mb rfl,d5];refine h d Me F _ ?_;rw[d5];exact Er ds _ _ _ _ _ (λp hp=>h p (Mc _ hp)) (d9.2 q)
def BB {p:Kw Pn}(hW:1<=W)(h0:1<=p.2/\p.2<=12):(mkRat p.2 W).num.natAbs<=12*1000\/(mkRat p.2 W).num.natAbs<=12*dn W p:=by
 refine .inr ((eF p.2 (D:=W) (by omega)).2 12 ?_);have:p.2.natAbs<=12:=by omega
 exact MK this (Nat.le_mul_of_pos_right _ (by omega))
def rH (hW:1<=W)(hW2:W<=1000)(hl:rs.length<=1000)(hr:∀p∈rs,1<=p.2/\p.2<=12)(q:∀B:Nat,1<=B->B ∣ W->(∀p∈rs,dn W p ∣ B)->Q (.list (rs.map λp=>.int (wtB W B p))) F):wp (u7 [.dat (.tuple (rs.map (shD W)))] F) Q:=by
 unfold u7;refine C2.2 ?_;dsimp only[q5,Ma,MI,Mf,MP,List.replicate,MA,ME,Nat.reduceAdd,Nat.reduceSub];refine m5.2 (r6.2 (i9.2 (l7.2 (j4.2 (j3 rfl (l4.2 (wJ hW hW2 λB hB hd hall=>⟨j5 rfl,l0 ?_⟩)))))));refine y9.2 (N0.2 (B1.2 (j9.2 (l5 rfl (d6 Q7 ⟨sz (by rw[LX];omega),?_⟩)))));refine Er rs _ _ _ _ _ (λp hp F Q q=>?_) (v7 (q B hB hd hall));have hBW:=OR (by omega) hd;have hdW:=OR (by omega) (oY hW p);have hd1:1<=dn W p:=qi _;have hn:(mkRat p.2 W).num.natAbs<=100000:=by
  rcases BB hW (hr p hp) with h | h
  .omega
  .have:12*dn W p<=12*1000:=Nat.mul_le_mul_left 12 (by omega);omega
 refine l9.2 (j9.2 (l5 rfl (l9.2 (j9.2 (l5 rfl (j9.2 (l5 rfl (d6 (iK (by omega) (sm9 (by rw[NP];omega))) ?_))))))));rw[<-Int.natCast_ediv];have hq:B / dn W p<=B:=Nat.div_le_self _ _;exact d6 (gf (sm5 hn) (sm5 (by rw[NP];omega))) q
end
theorem fE {α:Type}{c:Int}{f:α->Int}:∀l:List α,(l.map λx=>c*f x).sum=c*(l.map f).sum
 | []=>by simp
 | a::l=>by rw[Ma,Ma,Om,Om,fE l,RB]
def S5 {α:Type}{c:Int}{f:α->Int}(l:List α):(l.map λx=>f x*c).sum=(l.map f).sum*c:=by rw[Oh,<-fE];congr 1;exact MO λx _=>Oh _ _
def mR {l m:List Int}(h:l.Perm m):l.sum=m.sum:=by
 induction h with
 | nil=>rfl
 | cons a _ ih=>rw[Om,Om,ih]
 | swap a b l=>simp only[Om];omega
 | trans _ _ i1 i2=>exact i1.trans i2
theorem fR {α β:Type}{f:α->List β}{g:β->Int}:∀l:List α,((l.map f).flatten.map g).sum=(l.map λa=>((f a).map g).sum).sum
 | []=>rfl
 | a::l=>by rw[Ma,NT,Nt,QU,fR l,Ma,Om]
abbrev Bw:=Kw (Int×Int)
section
variable {rs l:List (Kw Pn)}{bs:List Bw}{W B:Nat}{ms:List Pn->Bt->Int}
def prs (W B:Nat)(ms:List Pn->Bt->Int)(rs:List (Kw Pn))(bs:List Bw):List (Int×Int):=(rs.map λp=>bs.map λb=>(ms p.1 b.1,wtB W B p*b.2)).flatten
def nnS (ms:List Pn->Bt->Int)(l:List (Kw Pn))(bs:List Bw):Int:=(l.map λp=>(bs.map λb=>ms p.1 b.1*p.2*b.2).sum).sum
def yJ (h:rs.Perm l):nnS ms rs bs=nnS ms l bs:=mR (h.map _)
def lF (h:rs.Perm l):r9 rs=r9 l:=mR (h.map _)
def DU (hW:1<=W)(hd:∀p∈rs,dn W p ∣ B):nK (prs W B ms rs bs)*W=nnS ms rs bs*B:=by
 unfold nK prs nnS;rw[fR,<-S5,<-S5];congr 1;refine MO λp hp=>?_
 rw[Mq,<-S5,<-S5];congr 1;refine MO λb _=>?_
 show ms p.1 b.1*(wtB W B p*b.2)*W=ms p.1 b.1*p.2*b.2*B;have:=tw (B:=B) hW (hd p hp);rw[Nw,Qe _ b.2,this,Qe p.2,<-Nw,<-Nw]
def Av (hW:1<=W)(hd:∀p∈rs,dn W p ∣ B):cz (prs W B ms rs bs)*W=r9 rs*r9 bs*B:=by
 unfold cz prs;rw[fR,<-S5];have e:r9 rs*r9 bs*B=(rs.map λp=>p.2*(r9 bs*B)).sum:=by rw[S5,Nw];rfl
 rw[e];congr 1;refine MO λp hp=>?_
 rw[Mq];have e2:(bs.map ((λp:Int×Int=>p.2) ∘ λb:Bw=>(ms p.1 b.1,wtB W B p*b.2))).sum=wtB W B p*r9 bs:=by rw[show((λp:Int×Int=>p.2) ∘ λb:Bw=>(ms p.1 b.1,wtB W B p*b.2)) = λb:Bw=>wtB W B p*b.2 from rfl,fE];rfl
 rw[e2,Qe,tw hW (hd p hp),Nw,Oh (B:Int)]
def yD (hp:rs.Perm l)(hW:1<=W)(hB:1<=B)(hd:∀p∈rs,dn W p ∣ B)(h1:1<=cz (prs W B ms rs bs))(h2:1<=r9 l*r9 bs) :
  mkRat (nK (prs W B ms rs bs)) (cz (prs W B ms rs bs)).toNat=mkRat (nnS ms l bs) (r9 l*r9 bs).toNat:=by
 rw[QD (by omega) (by omega),PD (by omega),PD (by omega)];have a:=DU (ms:=ms) (bs:=bs) hW hd;have b:=Av (ms:=ms) (bs:=bs) hW hd;rw[yJ hp]at a;rw[lF hp]at b;have hW':(W:Int)≠0:=by omega
 refine Int.eq_of_mul_eq_mul_right hW' ?_;have e1:nK (prs W B ms rs bs)*(r9 l*r9 bs)*W=nnS ms l bs*B*(r9 l*r9 bs):=by rw[Qe,a]
 have e2:nnS ms l bs*cz (prs W B ms rs bs)*W=nnS ms l bs*(r9 l*r9 bs*B):=by rw[Nw,b]
 rw[e1,e2,Nw,Oh (B:Int)]
end
section
variable {F:FdS}{E:DE}
def yc {i:Nat}{y:Str}{f:List DV->M My}{ms:DE->M (List DV)}{Q:My->FdS->Prop}(h:E[i]? = some (some (.fn y)))(q:wp (ms E F) λxs F1=>wp (f xs F1) Q):wp (V9 i y f ms E F) Q:=by unfold V9;rw[h];dsimp only;rw[Mb rfl,d5];exact q
def yn {a b:DE->M My}{Q:List My->FdS->Prop}(h:wp (a E F) λx F1=>wp (b E F1) λy F2=>∃xs ys,x = .tuple xs/\y = .list ys/\Q (jv xs ys) F2):wp (Z2 a b E F) Q:=by
 unfold Z2;rw[d5];refine p6 h λx F1 h=>?_
 rw[d5];refine p6 h λy F2 h=>?_
 obtain⟨xs,ys,rfl,rfl,h⟩:=h;exact d9.2 h
end
theorem qr {α:Type}{f g:α->My}:∀l:List α,jv (l.map f) (l.map g)=l.map λa=>.tuple [f a,g a]
 | []=>rfl
 | a::l=>by have:=qr (f:=f) (g:=g) l;unfold jv at this ⊢;rw[Ma,Ma,List.zipWith_cons_cons,this];rfl
def mIn (y:Str)(f:List DV->M My):List DV->M My:=B9 ["house","beats","row","measure"] (mRt (j8 y6 (vD (kC (Z2 (sV 2) (j8 u7 (vD (sV 2) n9))) 5 [3,0,1] (w6 2 (d8 (w6 2 (d8 (bN 0) (d8 (bN 1) x3))) (d8 (bN 2) x3))) A6 (C6 (sV 7)) (w6 2 (d8 (bN 3) (d8 (bN 4) x3))) A6 (E8 (c7 (V9 5 y f (vD (sV 6) (vD (sV 0) (vD (sV 3) n9)))) (c7 (s2 J9 (sW 2) (sW 4)) j6)))) n9)))
def in1:mIn "lost_in" M0=C9:=rfl
def in2:mIn "entered_in" G9=A5:=rfl
def in3:mIn "picked_in" L6=B8:=rfl
def ER:C7=mIn "gone_in" R7:=rfl
def in5:mIn "work_let_in" G1=z9:=rfl
section
variable {me:DE->M My}{f:Kw Pn->Bw->My}{W B:Nat}{y:Str}{hs:My}
abbrev bE (y:Str)(hs bsD:My):DE:=[some (.fn y),some (.dat hs),some (.dat bsD)]
def qu {bsD:My}{p:Kw Pn}{x1 x2:My}:∀(bs:List Bw) (o3 o4:Option DV) (F:FdS) (Q:List My×DE->FdS->Prop),(∀b∈bs,∀(F:FdS) (Q:My->FdS->Prop),Q (f p b) F->wp (me (some (.dat (rwD pnD p.1))::some (.dat x1)::some (.dat x2)::some (.dat (rwD cmD b.1))::some (.dat (.int b.2))::bE y hs bsD) F) Q) ->
  (∀o3 o4,Q (bs.map (f p),some (.dat (rwD pnD p.1))::some (.dat x1)::some (.dat x2)::o3::o4::bE y hs bsD) F) ->
  wp (lh (w6 2 (d8 (bN 3) (d8 (bN 4) x3))) A6 me (bs.map (kwD cmD)) (some (.dat (rwD pnD p.1))::some (.dat x1)::some (.dat x2)::o3::o4::bE y hs bsD) F) Q
 | [],o3,o4,F,Q,_,q=>d9.2 (q o3 o4)
 | b::bs,o3,o4,F,Q,h,q=>by rw[Ma,lh];have e:w6 2 (d8 (bN 3) (d8 (bN 4) x3)) (kwD cmD b) (some (.dat (rwD pnD p.1))::some (.dat x1)::some (.dat x2)::o3::o4::bE y hs bsD)=some (some (.dat (rwD pnD p.1))::some (.dat x1)::some (.dat x2)::some (.dat (rwD cmD b.1))::some (.dat (.int b.2))::bE y hs bsD):=rfl;rw[e,MF,d5];refine Z5.2 ?_;rw[Mb rfl,d5];refine h b Me F _ ?_;rw[d5];refine qu bs _ _ F _ (λb hb=>h b (Mc _ hb)) λo3 o4=>d9.2 (q o3 o4)
def qk {bs:List Bw}:∀(rs:List (Kw Pn)) (o0 o1 o2 o3 o4:Option DV) (F:FdS) (Q:List My->FdS->Prop),(∀p∈rs,∀b∈bs,∀(F:FdS) (Q:My->FdS->Prop),Q (f p b) F->wp (me (some (.dat (rwD pnD p.1))::some (.dat (qd (mkRat p.2 W)))::some (.dat (.int (wtB W B p)))::some (.dat (rwD cmD b.1))::some (.dat (.int b.2))::bE y hs (.tuple (bs.map (kwD cmD)))) F) Q) ->
  Q ((rs.map λp=>bs.map (f p)).flatten) F ->
  wp (dD (w6 2 (d8 (w6 2 (d8 (bN 0) (d8 (bN 1) x3))) (d8 (bN 2) x3))) A6 (C6 (sV 7)) (w6 2 (d8 (bN 3) (d8 (bN 4) x3))) A6 me (rs.map λp=>.tuple [shD W p,.int (wtB W B p)]) (o0::o1::o2::o3::o4::bE y hs (.tuple (bs.map (kwD cmD)))) F) Q
 | [],o0,o1,o2,o3,o4,F,Q,_,q=>d9.2 q
 | p::rs,o0,o1,o2,o3,o4,F,Q,h,q=>by
  rw[Ma,dD];have e:w6 2 (d8 (w6 2 (d8 (bN 0) (d8 (bN 1) x3))) (d8 (bN 2) x3)) (.tuple [shD W p,.int (wtB W B p)]) (o0::o1::o2::o3::o4::bE y hs (.tuple (bs.map (kwD cmD))))=some (some (.dat (rwD pnD p.1))::some (.dat (qd (mkRat p.2 W)))::some (.dat (.int (wtB W B p)))::o3::o4::bE y hs (.tuple (bs.map (kwD cmD)))):=rfl;rw[e,MF,d5];refine Z5.2 ?_;rw[Mb rfl,d5];refine B1.2 (j4.2 (j3 rfl (d6 Q7 ?_)));rw[d5];refine qu bs _ _ F _ (h p Me) λo3 o4=>?_
  rw[d5];refine qk rs _ _ _ _ _ F _ (λp hp=>h p (Mc _ hp)) (d9.2 ?_);rw[Ma,NT]at q;exact q
end
structure Dr (h:Nat) (pl:Option Nat) (r:My) (bs:List Bw) (l:List (Kw Pn)):Prop where
 hr:r∈W8
 h1:1<=h
 h3:h<=3
 bs:BsOk 6 2 3 bs
 ls:LsOk 4 8 6 pl (kb r) l
def uF {n m w:Nat}{bs:List Bw}(h:BsOk n m w bs)(hn:n<=40):1<=r9 bs/\r9 bs<=480:=by
 obtain⟨a,b⟩:=dz λp hp=>(h.ok p hp).2
 have:=h.n1;have:=h.n2;omega
def zz {n m w:Nat}{pl:Option Nat}{kp:Bool}{l:List (Kw Pn)}(h:LsOk n m w pl kp l)(hn:n<=40):1<=r9 l/\r9 l<=480:=by
 obtain⟨a,b⟩:=dz λp hp=>(h.ok p hp).2
 have:=h.n1;have:=h.n2;omega
section
variable {F:FdS}{Q:My->FdS->Prop}{h:Nat}{pl:Option Nat}{r:My}{bs:List Bw}{l rs:List (Kw Pn)}{ms:List Pn->Bt->Int}
def vh {W B:Nat}(hW:1<=W)(hB:1<=B)(hBW:B<=W){p:Kw Pn}(hd:dn W p ∣ B)(h0:1<=p.2/\p.2<=12):1<=wtB W B p/\wtB W B p<=12:=by
 have e:=tw (B:=B) hW hd;constructor
 .have h1:0<p.2*(B:Int):=Qx (by omega) (by omega);rw[<-e]at h1;have:=Int.pos_of_mul_pos_left h1 (by omega:(0:Int)<W);omega
 .refine Int.le_of_mul_le_mul_right (a:=(W:Int)) ?_ (by omega);rw[e];have h1:p.2*(B:Int)<=12*(B:Int):=Nh (by omega) (by omega);have h2:(12:Int)*B<=12*W:=by omega
  omega
def aR {y:Str}{f:List DV->M My}(D:Dr h pl r bs l)(hp:rs.Perm l)(hb:∀p∈rs,∀b∈bs,-100000<=ms p.1 b.1/\ms p.1 b.1<=100000)
  (hf:∀p∈rs,∀b∈bs,∀(F:FdS) (Q:My->FdS->Prop),Q (.int (ms p.1 b.1)) F->wp (f [.dat (.tuple [.int (h:Int),plD pl,r]),.dat (.tuple (p.1.map pnD)),.dat (.tuple (b.1.map cmD))] F) Q)
  (q:Q (qd (mkRat (nnS ms l bs) (r9 l*r9 bs).toNat)) F):wp (mIn y f [.dat (.tuple [.int (h:Int),plD pl,r]),.dat (.tuple (bs.map (kwD cmD))),.dat (.tuple (rs.map (shD (r9 l).toNat))),.fn y] F) Q:=by
 walk_at "kv";have hls:=D.ls.perm hp;have n1:=hls.n1;have n2:=hls.n2;have m1:=D.bs.n1;have m2:=D.bs.n2;obtain⟨W,eW⟩:∃W,W=(r9 l).toNat:=⟨_,rfl⟩;rw[<-eW];unfold mIn;rw[qz];walk_at "kb";refine y9.2 (i9.2 (l7.2 ?_));unfold kC;rw[d5];refine yn (j4.2 (j3 rfl (i9.2 (l7.2 (j4.2 (j3 rfl (l4.2 ?_)))))));refine rH (by omega) (by omega) (by omega) (λp hp'=>(hls.ok p hp').2) λB hB hdW hd=>⟨_,_,rfl,rfl,?_⟩
 have hBW:=OR (by omega) hdW;rw[qr,d5];refine qk (f:=λp b=>pr (ms p.1 b.1,wtB W B p*b.2)) rs _ _ _ _ _ _ _ (λp hp' b hb' F Q q=>?_) ?_
 .obtain⟨c1,c2⟩:=vh (show 1<=W by omega) hB hBW (hd p hp') (hls.ok p hp').2;obtain⟨_,d1,d2⟩:=D.bs.ok b hb';refine D4.2 (c6.2 (yc rfl (l7.2 (j4.2 (j3 rfl (l7.2 (j4.2 (j3 rfl (l7.2 (j4.2 (j3 rfl (l4.2 (hf p hp' b hb' F _ ?_)))))))))))));exact c6.2 (l9.2 (j9.2 (l5 rfl (j9.2 (l5 rfl (d6 (gf (sm5 (by omega)) (sm5 (by omega))) (h7.2 ⟨y4 rfl,q⟩)))))))
 have e1:(rs.map λp=>bs.map λb=>pr (ms p.1 b.1,wtB W B p*b.2)).flatten=(prs W B ms rs bs).map pr:=by
  unfold prs;rw[List.map_flatten,Mq];congr 1;refine MO λp _=>?_
  simp only[Function.comp,Mq];rfl
 rw[e1];have hlen:(prs W B ms rs bs).length<=1000:=by
  unfold prs;have:∀rs:List (Kw Pn),(rs.map λp=>bs.map λb=>(ms p.1 b.1,wtB W B p*b.2)).flatten.length=rs.length*bs.length:=λrs=>by
   induction rs with
   | nil=>simp
   | cons a rs ih=>rw[Ma,NT,MS,ih,LX,Mf,Nat.succ_mul];omega
  rw[this];have:=Nat.mul_le_mul n2 m2;omega
 have hmem:∀z∈prs W B ms rs bs,∃p∈rs,∃b∈bs,z=(ms p.1 b.1,wtB W B p*b.2):=λz hz=>by unfold prs at hz;obtain⟨t,ht,hz⟩:=List.mem_flatten.1 hz;obtain⟨p,hp',rfl⟩:=ML.1 ht;obtain⟨b,hb',rfl⟩:=ML.1 hz;exact⟨p,hp',b,hb',rfl⟩
 have hW1:1<=W:=by omega
 have hl1:1<=cz (prs W B ms rs bs)/\cz (prs W B ms rs bs)<=100000:=by
  have e:=Av (ms:=ms) (bs:=bs) (rs:=rs) hW1 hd;rw[lF hp]at e;have eW2:r9 l=(W:Int):=by omega
  rw[eW2,Nw,Oh]at e;have hW':(W:Int)≠0:=by omega
  have e2:cz (prs W B ms rs bs)=r9 bs*B:=Int.eq_of_mul_eq_mul_left hW' e;rw[e2];have h1:0<r9 bs*(B:Int):=Qx (by omega) (by omega);have h2:r9 bs*(B:Int)<=480*(B:Int):=Nh (by omega) (by omega);have h3:W<=48:=by have:=(dz λp hp=>(D.ls.ok p hp).2).2;have:=D.ls.n2;omega
  omega
 have hmul:1<=r9 l*r9 bs:=by have:=Qx (show 0<r9 l by omega) (show 0<r9 bs by omega);omega
 dsimp only;rw[Mb (sz (by rw[LX];omega))];refine d9.2 (l4.2 (lQ hlen (λz hz=>?_) hl1.1 (sm9 (by omega)) λt b hlow=>v7 ?_))
 .obtain⟨p,hp',b,hb',rfl⟩:=hmem z hz;obtain⟨c1,c2⟩:=vh hW1 hB hBW (hd p hp') (hls.ok p hp').2;obtain⟨_,d1,d2⟩:=D.bs.ok b hb';have:=hb p hp' b hb';have h1:0<=wtB W B p*b.2:=Pm (by omega) (by omega);have h2:wtB W B p*b.2<=12*b.2:=Nh (by omega) (by omega);exact⟨sm5 (by show(ms p.1 b.1).natAbs<=_;omega),sm5 (by show(wtB W B p*b.2).natAbs<=_;omega)⟩
 .rw[pE hlow (by omega),yD hp hW1 hB hd hl1.1 hmul];exact q
end
def msL (pl:Option Nat)(ps:List Pn)(b:Bt):Int:=((b.length-K1 pl ps.length b.length:Nat):Int)
def msE (pl:Option Nat)(ps:List Pn)(b:Bt):Int:=(b.length:Int)-msL pl ps b
def msP (h:Nat)(pl:Option Nat)(ps:List Pn)(b:Bt):Int:=((min h (v5 pl ps b).length:Nat):Int)
def msG (h:Nat)(pl:Option Nat)(r:My)(ps:List Pn)(b:Bt):Int:=((P6 (A0 h (kOf r) (kb r) (v5 pl ps b)) (v5 pl ps b)).length:Int)
def lfS (ps:List Pn):Int:=(ps.map λp=>p.2.1).sum
def msW (pl:Option Nat)(ps:List Pn)(b:Bt):Int:=lfS (v5 pl ps b)-lfS ps
section
variable {F:FdS}{Q:My->FdS->Prop}{h:Nat}{pl:Option Nat}{r:My}{ps:List Pn}{b:Bt}{bs:List Bw}{l rs:List (Kw Pn)}
abbrev hsD (h:Nat)(pl:Option Nat)(r:My):My:=.tuple [.int (h:Int),plD pl,r]
def Af {me:DE->M My}{f:Pn->My}{rest:DE}:∀(ds:List Pn) (o o' o'':Option DV) (F:FdS) (Q:List My->FdS->Prop),(∀p∈ds,∀(F:FdS) (Q:My->FdS->Prop),Q (f p) F->wp (me (some (.dat (.int p.1))::some (.dat (.int p.2.1))::some (.dat (.bool p.2.2))::rest) F) Q)->Q (ds.map f) F ->
  wp (P8 (w6 3 (d8 (bN 0) (d8 (bN 1) (d8 (bN 2) x3)))) A6 me (ds.map pnD) (o::o'::o''::rest) F) Q
 | [],o,o',o'',F,Q,_,q=>d9.2 q
 | d::ds,o,o',o'',F,Q,h,q=>by rw[Ma,P8];have e:w6 3 (d8 (bN 0) (d8 (bN 1) (d8 (bN 2) x3))) (pnD d) (o::o'::o''::rest)=some (some (.dat (.int d.1))::some (.dat (.int d.2.1))::some (.dat (.bool d.2.2))::rest):=rfl;rw[e,MF,d5];refine Z5.2 ?_;rw[Mb rfl,d5];refine h d Me F _ ?_;rw[d5];exact Af ds _ _ _ _ _ (λp hp=>h p (Mc _ hp)) (d9.2 q)
def ui (hl:ps.length<=1000)(q:Q (.int (lfS ps)) F):wp (M3 [.dat (.tuple (ps.map pnD))] F) Q:=by
 unfold M3;walk_at "kb";refine y9.2 (D8.2 (c6.2 (N0.2 (B1.2 (j9.2 (l5 rfl (d6 Q7 ⟨sz (by rw[LX];omega),?_⟩)))))));refine Af (f:=λp=>.int p.2.1) ps _ _ _ _ _ (λp _ F Q q=>j4.2 (j3 rfl q)) (h7.2 ?_);walk_at "kac"
 rw[e];exact d6 cm (v7 q)
def lz:(v5 pl ps b).length<=ps.length+b.length:=by rw[gS];unfold K1;split <;> omega
def vM (hp:ag pl ps.length)(hl:ps.length+b.length<=1000)(q:Q (.int (msL pl ps b)) F):wp (M0 [.dat (hsD h pl r),.dat (.tuple (ps.map pnD)),.dat (.tuple (b.map cmD))] F) Q:=by unfold M0;rw[ot];refine C2.2 ?_;dsimp only[q5,Ma,MI,Mf,MP,List.replicate,MA,ME,Nat.reduceAdd,Nat.reduceSub];exact y9.2 (l9.2 (i9.2 (l7.2 (j4.2 (j3 rfl (l7.2 (j4.2 (j3 rfl (l7.2 (j4.2 (j3 rfl (l4.2 (du hp hl (m9.2 (d6 rfl (v7 q))))))))))))))))
def Df (hp:ag pl ps.length)(hl:ps.length+b.length<=1000)(q:Q (.int (msE pl ps b)) F):wp (G9 [.dat (hsD h pl r),.dat (.tuple (ps.map pnD)),.dat (.tuple (b.map cmD))] F) Q:=by unfold G9;refine C2.2 ?_;dsimp only[q5,Ma,MI,Mf,MP,List.replicate,MA,ME,Nat.reduceAdd,Nat.reduceSub];refine y9.2 (l9.2 (D8.2 (c6.2 (j9.2 (l5 rfl (h7.2 (d6 Y9 ?_)))))));refine i9.2 (l7.2 (j4.2 (j3 rfl (l7.2 (j4.2 (j3 rfl (l7.2 (j4.2 (j3 rfl (l4.2 (vM hp hl (d6 W1 (v7 ?_)))))))))))));rw[LX];exact q
def BN (hp:ag pl ps.length)(hl:ps.length+b.length<=1000)(q:Q (.int (msP h pl ps b)) F):wp (L6 [.dat (hsD h pl r),.dat (.tuple (ps.map pnD)),.dat (.tuple (b.map cmD))] F) Q:=by unfold L6;rw[ot,xx];refine C2.2 ?_;dsimp only[q5,Ma,MI,Mf,MP,List.replicate,MA,ME,Nat.reduceAdd,Nat.reduceSub];refine y9.2 (i9.2 (l7.2 (j4.2 (j3 rfl (l7.2 (l9.2 (i9.2 (l7.2 (j4.2 (j3 rfl (l7.2 (j4.2 (j3 rfl (l7.2 (j4.2 (j3 rfl (l4.2 (du hp hl ?_))))))))))))))))));exact m9.2 (d6 rfl (l4.2 (AJ (v7 q))))
def AC (hr:r∈W8)(hp:ag pl ps.length)(hl:ps.length+b.length<64)(q:Q (.int (msG h pl r ps b)) F):wp (R7 [.dat (hsD h pl r),.dat (.tuple (ps.map pnD)),.dat (.tuple (b.map cmD))] F) Q:=by unfold R7;rw[yZ];refine C2.2 ?_;dsimp only[q5,Ma,MI,Mf,MP,List.replicate,MA,ME,Nat.reduceAdd,Nat.reduceSub];refine y9.2 (D8.2 (c6.2 (l9.2 (i9.2 (l7.2 (j4.2 (j3 rfl (l7.2 (j4.2 (j3 rfl (l7.2 (j4.2 (j3 rfl (l4.2 (Bb hr hp hl ?_)))))))))))))));refine m9.2 (d6 rfl (h7.2 (d6 Y9 (v7 ?_))));rw[K4];exact q
def ux (hp:ag pl ps.length)(hl:ps.length+b.length<=1000)(q:Q (.int (msW pl ps b)) F):wp (G1 [.dat (hsD h pl r),.dat (.tuple (ps.map pnD)),.dat (.tuple (b.map cmD))] F) Q:=by unfold G1;rw[ot];refine C2.2 ?_;dsimp only[q5,Ma,MI,Mf,MP,List.replicate,MA,ME,Nat.reduceAdd,Nat.reduceSub];refine y9.2 (l9.2 (i9.2 (l7.2 (l9.2 (i9.2 (l7.2 (j4.2 (j3 rfl (l7.2 (j4.2 (j3 rfl (l7.2 (j4.2 (j3 rfl (l4.2 (du hp hl ?_))))))))))))))));have:=lz (pl:=pl) (ps:=ps) (b:=b);refine m9.2 (d6 rfl (l4.2 (ui (by omega) ?_)));exact i9.2 (l7.2 (j4.2 (j3 rfl (l4.2 (ui (by omega) (d6 W1 (v7 q)))))))
theorem wN {L:Nat}:∀{ps:List Pn},(∀p∈ps,1<=p.2.1/\p.2.1<=L)->0<=lfS ps/\lfS ps<=L*ps.length
 | [],_=>⟨Pj _,by simp[lfS]⟩
 | p::ps,h=>by
  have a:=h p Me;obtain⟨i1,i2⟩:=wN (ps:=ps) λq hq=>h q (Mc _ hq)
  unfold lfS at i1 i2 ⊢;rw[Ma,Om,Mf];refine⟨by omega,?_⟩;have:(L:Int)*((ps.length+1:Nat):Int)=L*ps.length+L:=by rw[Int.natCast_add,RB];simp
  omega
def yS {m L:Nat}{kp:Bool}(hs:StB m L pl kp ps)(hb:BtB 2 3 b)(hL:3<=L):∀p∈v5 pl ps b,(0<=p.1/\p.1<=1)/\(1<=p.2.1/\p.2.1<=L)/\(p.2.2=true->kp=true):=λp hp=>by
 unfold v5 at hp;rcases NO.1 hp with hp | hp
 .exact hs.ok p hp
 .obtain⟨c,hc,rfl⟩:=ML.1 hp;obtain⟨c1,c2,c3⟩:=hb.2 c (OT hc);exact⟨c1,⟨c2,by show c.2<=L;omega⟩,λz=>(nomatch z)⟩
def uh:lfS (v5 pl ps b)=lfS ps+lfS ((b.take (K1 pl ps.length b.length)).map λc=>(c.1,c.2,false)):=by unfold v5 lfS;rw[Nt,QU]
def uw {m L:Nat}{kp:Bool}(hs:StB m L pl kp ps)(hb:BtB 2 3 b):0<=msW pl ps b/\msW pl ps b<=100:=by
 unfold msW;rw[uh];obtain⟨a,a2⟩:=wN (L:=3) (ps:=(b.take (K1 pl ps.length b.length)).map λc=>(c.1,c.2,false)) λp hp=>by obtain⟨c,hc,rfl⟩:=ML.1 hp;exact(hb.2 c (OT hc)).2
 rw[LX,MX]at a2;have:=hb.1;omega
def V4 (D:Dr h pl r bs l)(hp:rs.Perm l){p:Kw Pn}(h1:p∈rs){b:Bw}(h2:b∈bs):StB 8 6 pl (kb r) p.1/\BtB 2 3 b.1/\p.1.length+b.1.length<=10:=by obtain⟨a,_⟩:=D.ls.ok p (hp.mem_iff.1 h1);obtain⟨c,_⟩:=D.bs.ok b h2;have:=a.len;have:=c.1;exact⟨a,c,by omega⟩
abbrev rN (l rs:List (Kw Pn)):My:=.tuple (rs.map (shD (r9 l).toNat))
abbrev iy (bs:List Bw):My:=.tuple (bs.map (kwD cmD))
abbrev K5 (ms:List Pn->Bt->Int)(l:List (Kw Pn))(bs:List Bw):My:=qd (mkRat (nnS ms l bs) (r9 l*r9 bs).toNat)
def tV {x:Str}{m:DE->M (List DV)}{E:DE}{Q:List DV->FdS->Prop}:wp (vG x m E F) Q↔wp (m E F) λxs F1=>Q (.fn x::xs) F1:=by unfold vG;rw[d5];simp only[d9]
def yu (D:Dr h pl r bs l)(hp:rs.Perm l)(q:Q (K5 (msL pl) l bs) F):wp (M4 [.dat (hsD h pl r),.dat (iy bs),.dat (rN l rs)] F) Q:=by
 unfold M4;rw[<-in1];walk_at "kh";refine aR (ms:=msL pl) D hp (λp hp' b hb=>?_) (λp hp' b hb F Q q=>?_) (v7 q)
 .obtain⟨_,c,d⟩:=V4 D hp hp' hb;unfold msL;have:=c.1;omega
 .obtain⟨a,c,d⟩:=V4 D hp hp' hb;exact vM a.fit (by omega) q
def Bp (D:Dr h pl r bs l)(hp:rs.Perm l)(q:Q (K5 (msE pl) l bs) F):wp (O1 [.dat (hsD h pl r),.dat (iy bs),.dat (rN l rs)] F) Q:=by
 unfold O1;rw[<-in2];walk_at "kh";refine aR (ms:=msE pl) D hp (λp hp' b hb=>?_) (λp hp' b hb F Q q=>?_) (v7 q)
 .obtain⟨_,c,d⟩:=V4 D hp hp' hb;unfold msE msL;have:=c.1;omega
 .obtain⟨a,c,d⟩:=V4 D hp hp' hb;exact Df a.fit (by omega) q
def xA (D:Dr h pl r bs l)(hp:rs.Perm l)(q:Q (K5 (msP h pl) l bs) F):wp (G2 [.dat (hsD h pl r),.dat (iy bs),.dat (rN l rs)] F) Q:=by
 unfold G2;rw[<-in3];walk_at "kh";refine aR (ms:=msP h pl) D hp (λp hp' b hb=>?_) (λp hp' b hb F Q q=>?_) (v7 q)
 .unfold msP;have:=D.h3;omega
 .obtain⟨a,c,d⟩:=V4 D hp hp' hb;exact BN a.fit (by omega) q
def mU {P:List Nat}{ps:List Pn}:(P6 P ps).length<=P.length:=NF ..
def xK (D:Dr h pl r bs l)(hp:rs.Perm l)(q:Q (K5 (msG h pl r) l bs) F):wp (L7 [.dat (hsD h pl r),.dat (iy bs),.dat (rN l rs)] F) Q:=by
 unfold L7;rw[ER];walk_at "kh";refine aR (ms:=msG h pl r) D hp (λp hp' b hb=>?_) (λp hp' b hb F Q q=>?_) (v7 q)
 .unfold msG;have h1:=mU (P:=A0 h (kOf r) (kb r) (v5 pl p.1 b.1)) (ps:=v5 pl p.1 b.1);rw[Z6]at h1;have:=D.h3;omega
 .obtain⟨a,c,d⟩:=V4 D hp hp' hb;exact AC D.hr a.fit (by omega) q
def yC (D:Dr h pl r bs l)(hp:rs.Perm l)(q:Q (K5 (msW pl) l bs) F):wp (L8 [.dat (hsD h pl r),.dat (iy bs),.dat (rN l rs)] F) Q:=by
 unfold L8;rw[<-in5];walk_at "kh";refine aR (ms:=msW pl) D hp (λp hp' b hb=>?_) (λp hp' b hb F Q q=>?_) (v7 q)
 .obtain⟨a,c,d⟩:=V4 D hp hp' hb;have:=uw a c;omega
 .obtain⟨a,c,d⟩:=V4 D hp hp' hb;exact ux a.fit (by omega) q
def msC (ps:List Pn)(b:Bt):Int:=(b.length:Int)
def yi (D:Dr h pl r bs l):mkRat ((bs.map λb=>(b.1.length:Int)*b.2).sum) (r9 bs).toNat=mkRat (nnS msC l bs) (r9 l*r9 bs).toNat:=by
 walk_at "kv";have hmul:1<=r9 l*r9 bs:=by have:=Qx (show 0<r9 l by omega) (show 0<r9 bs by omega);omega
 rw[QD (by omega) (by omega),PD (by omega),PD (by omega)];have e:nnS msC l bs=r9 l*(bs.map λb=>(b.1.length:Int)*b.2).sum:=by
  unfold nnS msC;have:∀p:Kw Pn,(bs.map λb=>(b.1.length:Int)*p.2*b.2).sum=p.2*(bs.map λb=>(b.1.length:Int)*b.2).sum:=λp=>by
   rw[<-fE];congr 1;refine MO λb _=>?_
   rw[Oh (b.1.length:Int),Nw]
  rw[show(λp:Kw Pn=>(bs.map λb=>(b.1.length:Int)*p.2*b.2).sum) = λp=>p.2*(bs.map λb=>(b.1.length:Int)*b.2).sum from funext this,S5];rfl
 rw[e];generalize (bs.map λb=>(b.1.length:Int)*b.2).sum=S;rw[Oh (r9 l) S,Nw]
def yp (D:Dr h pl r bs l)(q:Q (K5 msC l bs) F):wp (M5 [.dat (iy bs)] F) Q:=by
 obtain⟨v1,v2⟩:=uF D.bs (by decide);have m2:=D.bs.n2;unfold M5;rw[qz];walk_at "kb";refine y9.2 (i9.2 (l7.2 (N0.2 (B1.2 (j9.2 (l5 rfl (d6 Q7 ⟨sz (by rw[LX];omega),?_⟩)))))));refine rB (x:=λb:Bw=>rwD cmD b.1) (y:=λb=>.int b.2) (f:=λb=>pr ((b.1.length:Int),b.2)) bs _ _ (λb _ F Q q=>?_) (l4.2 ?_)
 .refine D4.2 (c6.2 (D8.2 (c6.2 (j9.2 (l5 rfl (h7.2 (d6 Y9 (c6.2 (j4.2 (j3 rfl (h7.2 ⟨y4 rfl,?_⟩)))))))))));rw[LX];exact q
 have e1:bs.map (λb=>pr ((b.1.length:Int),b.2))=(bs.map λb:Bw=>((b.1.length:Int),b.2)).map pr:=by rw[Mq];rfl
 rw[e1];have el:cz (bs.map λb:Bw=>((b.1.length:Int),b.2))=r9 bs:=by unfold cz r9;rw[Mq];rfl
 have ew:nK (bs.map λb:Bw=>((b.1.length:Int),b.2))=(bs.map λb=>(b.1.length:Int)*b.2).sum:=by unfold nK;rw[Mq];rfl
 refine lQ (by rw[LX];omega) (λz hz=>?_) (by rw[el];exact v1) (by rw[el];exact sm9 (by omega)) λt b hlow=>v7 ?_
 .obtain⟨b,hb,rfl⟩:=ML.1 hz;obtain⟨c,d1,d2⟩:=D.bs.ok b hb;have:=c.1;exact⟨sm5 (by show((b.1.length:Int)).natAbs<=_;omega),sm5 (by show b.2.natAbs<=_;omega)⟩
 .rw[el,ew]at hlow;rw[pE hlow (by omega),yi D];exact q
end
abbrev ldD (p:Pn):My:=.tuple [.int p.1,.int p.2.1,.bool p.2.2,.int 0]
def ud {ps:List Pn}{i:Nat}(h:i<ps.length):ixD (.list (ps.map ldD)) (.int (i:Int))=some (ldD (pAt ps i)):=by
 have e:ps.map ldD=(List.range ps.length).map λi=>ldD (pAt ps i):=(dP ((0:Int),(0:Int),false) ldD ps).symm
 rw[e];exact pd (f:=λi=>ldD (pAt ps i)) h
def inL {l:List Nat}{i:Nat}(hl:∀j∈l,j<=1000)(b:Bool):inD b (.int (i:Int)) (.list (t7 l))=some (.bool (if b then !decide (i∈l) else decide (i∈l))):=by
 have hs:SeqAt.shaped (.list (t7 l))=true:=by have:=(fJ hl).shaped (by decide) (by decide);simpa [SeqAt.shaped,My.canLay0,My.depth] using this
 have hi:SeqAt.shaped (.int (i:Int))=true:=by simp[SeqAt.shaped,My.canLay0,My.depth]
 show(if SeqAt.shaped (.list (t7 l))=true/\SeqAt.shaped (.int (i:Int))=true then _ else none)=_;rw[Mb ⟨hs,hi⟩];have e:((t7 l).any λy=>y.eqv (.int (i:Int)))=decide (i∈l):=by
  unfold t7;rw[List.any_map];have e:(l.any ((λy=>y.eqv (.int (i:Int))) ∘ λj:Nat=>My.int (j:Int)))=l.any λj=>decide (j=i):=by congr 1;funext j;simp only[Function.comp,hU];rw[OG];omega
  rw[e,Ow];simp
 rw[e]
section
variable {F:FdS}{Q:My->FdS->Prop}{h:Nat}{pl:Option Nat}{r:My}{ps:List Pn}{b:Bt}
def BX (hl:ps.length<=1000)(q:Q (.list (ps.map ldD)) F):wp (Q3 [.dat (.tuple (ps.map pnD))] F) Q:=by unfold Q3;refine C2.2 ?_;dsimp only[q5,Ma,MI,Mf,MP,List.replicate,MA,ME,Nat.reduceAdd,Nat.reduceSub];refine y9.2 (N0.2 (B1.2 (j9.2 (l5 rfl (d6 Q7 ⟨sz (by rw[LX];omega),?_⟩)))));exact oG (x:=pnD) (f:=ldD) ps _ (λp _ F Q q=>l9.2 (j9.2 (l5 rfl (m9.2 (d6 (Dh (by show 3+1<=100000;decide)) q))))) (v7 q)
def xU {a:DE->M My}{E:DE}{Q:List My->FdS->Prop}(q:wp (a E F) λx F1=>∃xs,x = .list xs/\Q xs F1):wp (qe a E F) Q:=by
 unfold qe;rw[d5];refine p6 q λx F1 h=>?_
 obtain⟨xs,rfl,h⟩:=h;exact d9.2 h
abbrev cmP (c:Int×Int):Pn:=(c.1,c.2,false)
def zY (hp:ag pl ps.length)(hl:ps.length+b.length<=1000)(q:Q (.tuple [.list ((v5 pl ps b).map ldD),.int (msL pl ps b)]) F):wp (B5 [.dat (hsD h pl r),.dat (.list (ps.map ldD)),.dat (.tuple (b.map cmD))] F) Q:=by
 obtain⟨rm,erm⟩:∃rm,rm=K1 pl ps.length b.length:=⟨_,rfl⟩;have hrm:rm<=b.length:=by rw[erm];unfold K1;split <;> omega
 unfold B5;walk_at "kb";refine m5.2 (cA.2 (xU (j9.2 (l5 rfl ⟨_,rfl,j5 rfl,l0 (m5.2 (r6.2 (m9.2 ⟨j5 rfl,l0 (m5.2 (L1.2 (B1.2 (j4.2 (j3 rfl (d6 Q7 ?_))))))⟩)))⟩))));refine D9 (λj E F'=>F'=F/\∃o5 o6,E=[some (.dat (hsD h pl r)),some (.dat (.list (ps.map ldD))),some (.dat (.tuple (b.map cmD))),some (.own ((ps++(b.take (min j rm)).map cmP).map ldD)),some (.dat (.int ((j-min j rm:Nat):Int))),o5,o6]) _ 0 _ F ⟨rfl,none,none,by rw[Nat.zero_min,List.take_zero,MI,NC];rfl⟩ ?_ ?_
 .rintro j d e E F1 ⟨rfl,o5,o6,rfl⟩;rw[MM];rw[Mt]at e;obtain⟨c,ec,rfl⟩:=Ms.1 e;have hj:=(Mj.1 ec).1;refine⟨_,rfl,V3.2 ?_⟩;have hlen:((ps++(b.take (min j rm)).map cmP).map ldD).length=ps.length+min j rm:=by rw[LX,MS,LX,MX];omega
  have yes:j<rm->wp ((ax 3 (E8 (c7 (sV 5) (c7 (sV 6) (c7 (sC (.bool false)) (c7 (sC (.int 0)) j6)))))) [some (.dat (hsD h pl r)),some (.dat (.list (ps.map ldD))),some (.dat (.tuple (b.map cmD))),some (.own ((ps++(b.take (min j rm)).map cmP).map ldD)),some (.dat (.int ((j-min j rm:Nat):Int))),some (.dat (.int c.1)),some (.dat (.int c.2))] F1)
    λo F'=>∃E2,o = .nx E2/\F'=F1/\∃o5 o6,E2=[some (.dat (hsD h pl r)),some (.dat (.list (ps.map ldD))),some (.dat (.tuple (b.map cmD))),some (.own ((ps++(b.take (min (j+1) rm)).map cmP).map ldD)),some (.dat (.int ((j+1-min (j+1) rm:Nat):Int))),o5,o6]:=λhz=>by
   refine dH (M7 rfl) (by rw[hlen];omega) (D4.2 (c6.2 (j4.2 (j3 rfl (c6.2 (j4.2 (j3 rfl (c6.2 (m9.2 (c6.2 (m9.2 (h7.2 ⟨y4 rfl,?_⟩))))))))))));have e1:b.take (min (j+1) rm)=b.take (min j rm)++[c]:=by rw[PH (show j+1<=rm by omega),PH (show j<=rm by omega),NU,ec];rfl
   have e2:j+1-min (j+1) rm=j-min j rm:=by omega
   have e3:(ps++(b.take (min (j+1) rm)).map cmP).map ldD=(ps++(b.take (min j rm)).map cmP).map ldD++[ldD (cmP c)]:=by rw[e1,Nt (l₂:=[c]),<-Ql,Nt (l₂:=List.map cmP [c])];rfl
   exact⟨_,rfl,rfl,_,_,by rw[e3,e2];rfl⟩
  have no:¬j<rm->wp ((x8 4 (s2 N4 (sW 4) (sC (.int 1)))) [some (.dat (hsD h pl r)),some (.dat (.list (ps.map ldD))),some (.dat (.tuple (b.map cmD))),some (.own ((ps++(b.take (min j rm)).map cmP).map ldD)),some (.dat (.int ((j-min j rm:Nat):Int))),some (.dat (.int c.1)),some (.dat (.int c.2))] F1)
    λo F'=>∃E2,o = .nx E2/\F'=F1/\∃o5 o6,E2=[some (.dat (hsD h pl r)),some (.dat (.list (ps.map ldD))),some (.dat (.tuple (b.map cmD))),some (.own ((ps++(b.take (min (j+1) rm)).map cmP).map ldD)),some (.dat (.int ((j+1-min (j+1) rm:Nat):Int))),o5,o6]:=λhz=>by
   refine r6.2 (l9.2 (j9.2 (l5 rfl (m9.2 (d6 O3 ⟨j5 rfl,?_⟩)))));have e1:min (j+1) rm=min j rm:=by omega
   have e2:((j-min j rm:Nat):Int)+1=((j+1-min j rm:Nat):Int):=by omega
   exact⟨_,rfl,rfl,_,_,by rw[e1,<-e2];rfl⟩
  refine vY.2 (ak.2 (l9.2 (l9.2 (j9.2 (l5 rfl (m9.2 (d6 rfl (m9.2 ?_))))))));cases pl with
  | none =>have:rm=b.length:=erm;exact d6 rfl (d6 rfl (G6 rfl (G6 rfl (yes (by omega)))))
  | some v =>
   have hv:=hp v rfl;have hm:rm=min b.length (v-ps.length):=erm;refine d6 rfl (d6 rfl (u9 rfl (ak.2 (l9.2 (D8.2 (c6.2 (j9.2 (dG rfl (h7.2 (d6 bX (l9.2 (j9.2 (l5 rfl (m9.2 (d6 rfl (d6 wY (d6 rfl ?_)))))))))))))))));rw[hlen];by_cases hz:j<rm
   .rw[Mv (show((ps.length+min j rm:Nat):Int)<(v:Int) by omega)];exact G6 rfl (yes hz)
   .rw[Mw (show ¬((ps.length+min j rm:Nat):Int)<(v:Int) by omega)];exact u9 rfl (no hz)
 .rintro E F1 ⟨rfl,o5,o6,rfl⟩;rw[MM,LX,QE hrm,erm];refine l0 (uz (M7 rfl) (y9.2 (D4.2 (c6.2 (j4.2 (j3 rfl (c6.2 (j4.2 (j3 rfl (h7.2 ⟨y4 rfl,v7 q⟩))))))))))
def jR (k:Nat)(p q:Pn):Bool:=if k=1 then true else if k=2 then decide (p.2.1<q.2.1) else if k=3 then decide (p.1<q.1) else false
def eqS {x y:Str}:eqD false (.str x) (.str y)=some (.bool (decide (x=y))):=by show some (My.bool (if false=true then !decide (x=y) else decide (x=y)))=_;rw[Md (by decide)]
def Bf (hr:r∈W8):(∃b1 b2,eqD false r (.str "last")=some (.bool b1)/\eqD false r (.str "lastoff")=some (.bool b2)/\(b1||b2)=decide (kOf r=1)) /\
  (∃b1 b2,eqD false r (.str "short")=some (.bool b1)/\eqD false r (.str "shortoff")=some (.bool b2)/\(b1||b2)=decide (kOf r=2))/\∃b1 b2,eqD false r (.str "front")=some (.bool b1)/\eqD false r (.str "frontoff")=some (.bool b2)/\(b1||b2)=decide (kOf r=3):=by simp only[W8,Mi,Oo,QC]at hr;rcases hr with rfl | rfl | rfl | rfl | rfl | rfl | rfl | rfl <;> exact⟨⟨_,_,eqS,eqS,by decide +kernel⟩,⟨_,_,eqS,eqS,by decide +kernel⟩,_,_,eqS,eqS,by decide +kernel⟩
def Ac {x y:Str}{E:DE}{Q:Bool->FdS->Prop}{b1 b2:Bool}(hE:E[0]? = some (some (.dat r)))(e1:eqD false r (.str x)=some (.bool b1))(e2:eqD false r (.str y)=some (.bool b2))(q:Q (b1||b2) F):wp (uOr (uB (s2 (eqD false) (sW 0) (sC (.str x)))) (uB (s2 (eqD false) (sW 0) (sC (.str y)))) E F) Q:=by
 refine vY.2 (ak.2 (l9.2 (j9.2 (l5 hE (m9.2 (d6 e1 (d6 rfl ?_)))))));cases b1
 .exact u9 rfl (ak.2 (l9.2 (j9.2 (l5 hE (m9.2 (d6 e2 (d6 rfl (by simpa using q))))))))
 .exact G6 rfl (by simpa using q)
def xy {p q':Pn}(hr:r∈W8)(q:Q (.bool (jR (kOf r) p q')) F):wp (J0 [.dat r,.dat (ldD p),.dat (ldD q')] F) Q:=by
 obtain⟨⟨b1,b2,e1,e2,e3⟩,⟨c1,c2,e4,e5,e6⟩,d1,d2,e7,e8,e9⟩:=Bf hr;unfold jR at q;unfold J0;walk_at "kb";refine m5.2 (V3.2 (Ac rfl e1 e2 ?_));rw[e3];refine R3 (λhk=>?_) λhk=>bO.2 (l0 (m5.2 (V3.2 (Ac rfl e4 e5 ?_))))
 .rw[Mb (MD hk)]at q;exact y9.2 (m9.2 (qE (v7 q)))
 rw[Md (Nq hk)]at q;rw[e6];refine R3 (λhk=>?_) λhk=>bO.2 (l0 ?_)
 .rw[Mb (MD hk)]at q;exact y9.2 (l9.2 (l9.2 (j9.2 (l5 rfl (m9.2 (d6 rfl (l9.2 (j9.2 (l5 rfl (m9.2 (d6 rfl (d6 wY (qE (v7 q))))))))))))))
 rw[Md (Nq hk)]at q;refine y9.2 (pH.2 (Ab.2 (l9.2 (j9.2 (l5 rfl (m9.2 (d6 e7 (d6 rfl ?_))))))));have fin:∀d:Bool,d=decide (kOf r=3)->oB (V8 (.bool d)) λc=>cIf c (wp ((s2 ltD (s2 ixD (sW 1) (sC (.int 0))) (s2 ixD (sW 2) (sC (.int 0)))) [some (.dat r),some (.dat (ldD p)),some (.dat (ldD q'))] F) λx F1=>lH Q (.rt x) F1) (lH Q (.rt (.bool false)) F):=λd hd=>by
  refine d6 rfl ?_;rw[hd];refine R3 (λhk=>?_) λhk=>?_
  .rw[Mb (MD hk)]at q;exact l9.2 (l9.2 (j9.2 (l5 rfl (m9.2 (d6 rfl (l9.2 (j9.2 (l5 rfl (m9.2 (d6 rfl (d6 wY (v7 q))))))))))))
  .rw[Md (Nq hk)]at q;exact v7 q
 cases d1
 .exact u9 rfl (l9.2 (j9.2 (l5 rfl (m9.2 (d6 e8 (fin d2 (by simpa using e9)))))))
 .exact G6 rfl (fin true (by simpa using e9))
end
def AL {L:List Nat}(nd:L.Nodup){i j a:Nat}(h1:L[i]? = some a)(h2:L[j]? = some a):i=j:=by obtain⟨a1,b1⟩:=Mj.1 h1;obtain⟨a2,b2⟩:=Mj.1 h2;exact(Pp nd).1 (b1.trans b2.symm)
def dF {L:List Nat}{i:Nat}(h:i∈L):L[L.idxOf i]? = some i:=by have:=OY.2 h;rw[Ml this,Qf this]
def zh {L:List Nat}(nd:L.Nodup){t i:Nat}(h:L[t]? = some i):L.idxOf i=t:=AL nd (dF (MU h)) h
def iR {k:Nat}{kp:Bool}{ps:List Pn}{i j:Nat}(hi:i<ps.length)(hj:j<ps.length)(hij:i≠j):D6 k kp ps i j↔(order k kp ps).idxOf i<(order k kp ps).idxOf j:=by
 have mi:i∈order k kp ps:=(w8 k kp ps).mem_iff.mpr (MW.2 hi);have mj:j∈order k kp ps:=(w8 k kp ps).mem_iff.mpr (MW.2 hj);have li:=OY.2 mi;have lj:=OY.2 mj;have P:=NI.1 (dA k kp ps);have ei:(order k kp ps)[(order k kp ps).idxOf i]=i:=Qf li;have ej:(order k kp ps)[(order k kp ps).idxOf j]=j:=Qf lj;constructor
 .intro h;rcases Nat.lt_trichotomy ((order k kp ps).idxOf i) ((order k kp ps).idxOf j) with z | z | z
  .exact z
  .have h1:=dF mi;have h2:=dF mj;rw[z,h2]at h1;exact absurd (Mg h1).symm hij
  .have:=P _ _ lj li z;rw[ei,ej]at this;exact(dk _ _ h this).elim
 .intro z;have:=P _ _ li lj z;rw[ei,ej]at this;exact this
def gC {L:List Nat}{t i:Nat}(h:i∈L):i∈L.take t↔L.idxOf i<t:=by
 constructor
 .intro z;obtain⟨j,hj,e⟩:=QT.1 z;rw[MX]at hj;rw[Ro]at e;have:L.idxOf i<=j:=by
   rw[<-e];exact Nat.le_of_not_lt λz=>by have:=List.not_of_lt_findIdx (p:=(· == L[j])) (xs:=L) (i:=j) z;simp at this
  omega
 .intro z;have h2:=OY.2 h;exact QT.2 ⟨L.idxOf i,by rw[MX];omega,by rw[Ro,Qf h2]⟩
section
variable {F:FdS}{Q:My->FdS->Prop}{h:Nat}{pl:Option Nat}{r:My}{ps:List Pn}
abbrev cq (n:Nat)(fd:List Nat):List Nat:=(List.range n).filter λi=>!decide (i∈fd)
abbrev lD (ps:List Pn)(l:List Nat):List Nat:=l.filter λi=>(pAt ps i).2.2
def R1 (ps:List Pn)(fd:List Nat):List Nat:=if lD ps (cq ps.length fd)=[] then cq ps.length fd else lD ps (cq ps.length fd)
def nt {fd:List Nat}{i:Nat}(hi:i∈R1 ps fd):i<ps.length/\i ∉ fd:=by
 have key:i∈cq ps.length fd->i<ps.length/\i ∉ fd:=λz=>by obtain⟨z1,z2⟩:=MN.1 z;exact⟨MW.1 z1,by simpa using z2⟩
 unfold R1 at hi;split at hi
 .exact key hi
 .exact key (MN.1 hi).1
def yo {fd:List Nat}:(R1 ps fd).Pairwise (· < ·):=by
 have h1:(cq ps.length fd).Pairwise (· < ·):=(Q2 _).sublist NK;unfold R1;split
 .exact h1
 .exact h1.sublist NK
def rG {fd:List Nat}{i j:Nat}(hi:i∈R1 ps fd)(hj:j∈R1 ps fd):(pAt ps i).2.2=(pAt ps j).2.2:=by
 unfold R1 at hi hj;by_cases z:lD ps (cq ps.length fd)=[]
 .rw[Mb z]at hi hj;have key:∀i∈cq ps.length fd,(pAt ps i).2.2=false:=λi hi=>by have:=List.filter_eq_nil_iff.1 z i hi;simpa using this
  rw[key i hi,key j hj]
 .rw[Md z]at hi hj;rw[(MN.1 hi).2,(MN.1 hj).2]
def uc {k i j:Nat}(hij:i<j)(hb:(pAt ps i).2.2=(pAt ps j).2.2):jR k (pAt ps j) (pAt ps i)=decide (D6 k true ps j i):=by
 rw[Ow,NM];unfold jR D6 T3;rw[Mb rfl,hb];have h1:¬j<i:=by omega
 by_cases k1:k=1
 .simp[k1,hij]
 .by_cases k2:k=2
  .simp[k2,h1]
  .by_cases k3:k=3
   .simp[k3,h1]
   .simp[k1,k2,k3,h1]
def su {k t b:Nat}(ht:(order k true ps)[t]? = some b):b∈R1 ps ((order k true ps).take t)/\∀i∈R1 ps ((order k true ps).take t),(order k true ps).idxOf b<=(order k true ps).idxOf i:=by
 have nd:=aC k true ps;have mb:=MU ht;have hbn:b<ps.length:=MW.1 ((w8 k true ps).mem_iff.mp mb);have ib:=zh nd ht;have mem:∀i,i<ps.length->i∈order k true ps:=λi hi=>(w8 k true ps).mem_iff.mpr (MW.2 hi)
 have hbl:b∈cq ps.length ((order k true ps).take t):=MN.2 ⟨MW.2 hbn,by
  have:b ∉ (order k true ps).take t:=λz=>by have:=(gC mb).1 z;omega
  simpa using this⟩
 refine⟨?_,λi hi=>?_⟩
 .unfold R1;by_cases z:lD ps (cq ps.length ((order k true ps).take t))=[]
  .rw[Mb z];exact hbl
  .rw[Md z];refine MN.2 ⟨hbl,?_⟩;obtain⟨i,hi⟩:=List.exists_mem_of_ne_nil _ z;obtain⟨hi1,hi2⟩:=MN.1 hi;obtain⟨hi3,hi4⟩:=MN.1 hi1;have hin:=MW.1 hi3;have hit:i ∉ (order k true ps).take t:=by simpa using hi4
   cases hb:(pAt ps b).2.2 with
   | true=>rfl
   | false =>
    exfalso;have hne:i≠b:=λz=>by rw[z,hb]at hi2;cases hi2
    have hs:D6 k true ps i b:=by unfold D6;rw[Mb rfl,hb,hi2];exact .inl (by decide)
    have h1:=(iR hin hbn hne).1 hs;have h2:¬(order k true ps).idxOf i<t:=λz=>hit ((gC (mem i hin)).2 z)
    omega
 .obtain⟨hin,hit⟩:=nt hi;have h2:¬(order k true ps).idxOf i<t:=λz=>hit ((gC (mem i hin)).2 z)
  omega
def neI {a b:Int}:eqD true (.int a) (.int b)=some (.bool (!decide (a=b))):=by show some (My.bool (if true=true then !(My.int _).eqv (.int _) else(My.int _).eqv (.int _)))=_;rw[Mb rfl,hU]
def Cu {l:List Nat}(hl:∀j∈l,j<=1000):eqD true (.list (t7 l)) (.list [])=some (.bool (!decide (l=[]))):=by
 have hs:SeqAt.shaped (.list (t7 l))=true:=by have:=(fJ hl).shaped (by decide) (by decide);simpa [SeqAt.shaped,My.canLay0,My.depth] using this
 show(if SeqAt.shaped (.list (t7 l))=true/\SeqAt.shaped (.list [])=true then _ else none)=_;rw[Mb ⟨hs,by simp[SeqAt.shaped,My.canLay0,My.canLayAll0,My.depth,My.depthAll]⟩,Mb rfl];cases l with
 | nil=>rfl
 | cons a l=>rfl
def zy {a:Nat}{l:List Nat}:ixD (.list (t7 (a::l))) (.int 0)=some (.int (a:Int)):=by
 have e:t7 (a::l)=(List.range (l.length+1)).map λi=>My.int (((a::l).getD i 0:Nat):Int):=(dP 0 (λi:Nat=>My.int (i:Int)) (a::l)).symm
 rw[e];exact pd (f:=λi=>My.int (((a::l).getD i 0:Nat):Int)) (i:=0) (by omega)
theorem zi {mt:DE->M Bool}{g:Nat->Bool}{rest:DE}:∀(l:List Nat) (o:Option DV) (F:FdS) (Q:List My->FdS->Prop),(∀i∈l,∀(F:FdS) (Q:Bool->FdS->Prop),Q (g i) F->wp (mt (some (.dat (.int (i:Int)))::rest) F) Q)->Q (t7 (l.filter g)) F->wp (P8 (bN 0) mt (sV 0) (t7 l) (o::rest) F) Q
 | [],o,F,Q,_,q=>d9.2 q
 | i::l,o,F,Q,h,q=>by
  have en:t7 (i::l) = .int (i:Int)::t7 l:=rfl;rw[en,P8];have e:bN 0 (.int (i:Int)) (o::rest)=some (some (.dat (.int (i:Int)))::rest):=rfl;rw[e,MF,d5];refine h i Me F _ ?_;cases c:g i with
  | false =>rw[Pa (by rw[c];simp)]at q;rw[Md (by simp)];exact zi l _ _ _ (λd hd=>h d (Mc _ hd)) q
  | true =>rw[OC c]at q;rw[Mb rfl,d5];refine j4.2 (j3 rfl ?_);rw[d5];exact zi l _ _ _ (λd hd=>h d (Mc _ hd)) (d9.2 q)
def yx {plx:My}(hr:r∈W8)(hl:ps.length<=500)(q:Q (.list (t7 ((order (kOf r) true ps).take h))) F):wp (N6 [.dat (.tuple [.int (h:Int),plx,r]),.dat (.list (ps.map ldD))] F) Q:=by
 obtain⟨L,eL⟩:∃L,L=order (kOf r) true ps:=⟨_,rfl⟩;have hLl:L.length=ps.length:=by rw[eL,(w8 _ _ _).length_eq,MB]
 have hLm:∀i∈L,i<ps.length:=λi hi=>MW.1 ((w8 _ _ _).mem_iff.mp (eL▸hi))
 rw[<-eL]at q;unfold N6;walk_at "kb";refine m5.2 (cA.2 (ay.2 (h7.2 ⟨sz (by decide),j5 rfl,l0 (m5.2 ?_)⟩)));refine L1.2 (P1.2 (c6.2 (D8.2 (c6.2 (l9.2 (j9.2 (l5 rfl (m9.2 (d6 rfl (c6.2 (D8.2 (c6.2 (j9.2 (l5 rfl (h7.2 (d6 bX (h7.2 (d6 Cw (h7.2 ?_)))))))))))))))))));rw[LX];have emin:min (h:Int) ((ps.length:Nat):Int)=((min h ps.length:Nat):Int):=by omega
 rw[emin];refine d6 (Z7 (by omega)) ?_;refine D9 (λt E F'=>F'=F/\∃o3 o4 o5 o6 o7,E=[some (.dat (.tuple [.int (h:Int),plx,r])),some (.dat (.list (ps.map ldD))),some (.own (t7 (L.take t))),o3,o4,o5,o6,o7]) _ 0 _ F ⟨rfl,none,none,none,none,none,rfl⟩ ?_ ?_
 .rintro t d e E F1 ⟨rfl,o3,o4,o5,o6,o7,rfl⟩;rw[MM];obtain⟨ht,rfl⟩:=aW (f:=λi:Nat=>My.int (i:Int)) e;have htL:t<L.length:=by omega
  have eb:L[t]? = some L[t]:=Ml htL;have hfd:∀j∈L.take t,j<=1000:=λj hj=>by have:=hLm j (OT hj);omega
  obtain⟨hb1,hb2⟩:=su (k:=kOf r) (ps:=ps) (t:=t) (b:=L[t]) (by rw[<-eL];exact eb);rw[<-eL]at hb1 hb2;refine⟨_,rfl,m5.2 (r6.2 (N0.2 (P1.2 (c6.2 (D8.2 (c6.2 (j9.2 (l5 rfl (h7.2 (d6 bX (h7.2 ?_)))))))))))⟩;rw[LX];refine d6 (Z7 (by omega)) ⟨sz (by simp;omega),?_⟩;refine zi (g:=λi=>!decide (i∈L.take t)) (List.range ps.length) _ _ _ (λi hi F Q q=>?_) ⟨j5 rfl,l0 (m5.2 (r6.2 (N0.2 (B1.2 (j9.2 (l5 rfl (d6 U0 ⟨sz (by rw[K4];have:=NF (λi=>!decide (i∈L.take t)) (List.range ps.length);rw[MB]at this;omega),?_⟩)))))))⟩
  .exact ak.2 (l9.2 (j9.2 (l5 rfl (j9.2 (dG rfl (d6 (inL hfd true) (d6 rfl q)))))))
  refine zi (g:=λi=>(pAt ps i).2.2) _ _ _ _ (λi hi F Q q=>?_) ⟨j5 rfl,l0 (m5.2 ?_)⟩
  .have hin:=MW.1 (MN.1 hi).1;exact xF.2 (l9.2 (l9.2 (j9.2 (l5 rfl (j9.2 (l5 rfl (d6 (ud hin) (m9.2 (d6 rfl (d6 rfl q))))))))))
  have hbg:∀j∈lD ps (cq ps.length (L.take t)),j<=1000:=λj hj=>by have:=MW.1 (MN.1 (MN.1 hj).1).1;omega
  have rest:∀o5,wp ((mSq (x8 6 (s2 ixD (sW 4) (sC (.int 0))))
    (mSq (X2 (C6 (sV 4)) (bN 7) (mIf (uU (uB (s2 (eqD true) (sW 7) (sW 6))) (uT (j8 J0 (vD (s2 ixD (sW 0) (sC (.int 2))) (vD (s2 ixD (sW 1) (sW 7)) (vD (s2 ixD (sW 1) (sW 6)) n9)))))) (x8 6 (sV 7)) mNx))
    (ax 2 (sV 6)))) [some (.dat (.tuple [.int (h:Int),plx,r])),some (.dat (.list (ps.map ldD))),some (.own (t7 (L.take t))),some (.dat (.int (t:Int))),some (.dat (.list (t7 (R1 ps (L.take t))))),o5,o6,o7] F1)
    λo F'=>∃E2,o = .nx E2/\F'=F1/\∃o3 o4 o5 o6 o7,E2=[some (.dat (.tuple [.int (h:Int),plx,r])),some (.dat (.list (ps.map ldD))),some (.own (t7 (L.take (t+1)))),o3,o4,o5,o6,o7]:=λo5=>by
   generalize eC:R1 ps (L.take t)=C at hb1 hb2;obtain⟨c0,C',e0⟩:∃c0 C',C=c0::C':=by
    cases C with
    | nil=>cases hb1
    | cons a b=>exact⟨a,b,rfl⟩
   have hsub:∀i∈C,i<ps.length:=λi hi=>(nt (eC▸hi)).1
   have hC0:C[0]? = some c0:=by rw[e0];rfl
   refine m5.2 (r6.2 (l9.2 (j9.2 (l5 rfl (m9.2 (d6 (show ixD (.list (t7 C)) (.int 0)=some (.int (c0:Int)) by rw[e0];exact zy) ⟨j5 rfl,l0 (m5.2 ?_)⟩))))));refine L1.2 (B1.2 (j4.2 (j3 rfl (d6 U0 ?_))));refine D9 (λj E F'=>F'=F1/\∃(bst:Nat) (o7:Option DV),bst∈C/\(∀i∈C.take j,L.idxOf bst<=L.idxOf i)/\(∀k,C[j]? = some k->bst<=k/\(bst=k->j=0))/\E=[some (.dat (.tuple [.int (h:Int),plx,r])),some (.dat (.list (ps.map ldD))),some (.own (t7 (L.take t))),some (.dat (.int (t:Int))),some (.dat (.list (t7 C))),o5,some (.dat (.int (bst:Int))),o7]) _ 0 _ F1 ⟨rfl,c0,_,by rw[e0];exact Me,λi hi=>(nomatch hi),λk hk=>⟨by rw[hC0]at hk;cases hk;exact Mh _,λ_=>rfl⟩,rfl⟩ ?_ ?_
   .rintro j d e E F2 ⟨rfl,bst,o7,hbC,hbm,hbk,rfl⟩;rw[MM]at hbm hbk ⊢;obtain⟨k,ek,rfl⟩:∃k,C[j]? = some k/\d = .int (k:Int):=by unfold t7 at e;rw[Mt]at e;obtain⟨k,ek,e2⟩:=Ms.1 e;exact⟨k,ek,e2.symm⟩
    obtain⟨hbk1,hbk2⟩:=hbk k ek;have hkC:=MU ek;have hkn:=hsub k hkC;have hbn:=hsub bst hbC;have asc:∀k2,C[j+1]? = some k2->k<k2:=λk2 e2=>by obtain⟨x1,y1⟩:=Mj.1 ek;obtain⟨x2,y2⟩:=Mj.1 e2;have:=NI.1 (eC▸yo (ps:=ps) (fd:=L.take t)) j (j+1) x1 x2 (by omega);rw[y1,y2]at this;exact this
    have tk:∀i∈C.take (j+1),i∈C.take j\/i=k:=λi hi=>by
     rw[NU,ek]at hi;rcases NO.1 hi with hi | hi
     .exact .inl hi
     .exact .inr (Ni.1 hi)
    have stay:L.idxOf bst<=L.idxOf k->∃E2,Out.nx [some (.dat (.tuple [.int (h:Int),plx,r])),some (.dat (.list (ps.map ldD))),some (.own (t7 (L.take t))),some (.dat (.int (t:Int))),some (.dat (.list (t7 C))),o5,some (.dat (.int (bst:Int))),some (.dat (.int (k:Int)))] = .nx E2/\F2=F2/\∃(bst:Nat) (o7:Option DV),bst∈C/\(∀i∈C.take (j+1),L.idxOf bst<=L.idxOf i)/\(∀k,C[j+1]? = some k->bst<=k/\(bst=k->j+1=0))/\E2=[some (.dat (.tuple [.int (h:Int),plx,r])),some (.dat (.list (ps.map ldD))),some (.own (t7 (L.take t))),some (.dat (.int (t:Int))),some (.dat (.list (t7 C))),o5,some (.dat (.int (bst:Int))),o7]:=λhle=>by
     refine⟨_,rfl,rfl,bst,_,hbC,λi hi=>?_,λk2 e2=>?_,rfl⟩
     .rcases tk i hi with hi | rfl
      .exact hbm i hi
      .exact hle
     .have:=asc k2 e2;exact⟨by omega,λz=>by omega⟩
    refine⟨_,rfl,V3.2 (vg.2 (ak.2 (l9.2 (j9.2 (l5 rfl (j9.2 (l5 rfl (d6 neI (d6 rfl ?_)))))))))⟩;by_cases hkb:k=bst
    .rw[Mv (show((k:Int))=(bst:Int) by omega)];exact u9 rfl (u9 rfl (bO.2 (stay (by rw[hkb];exact Mh _))))
    .rw[Mw (show ¬((k:Int))=(bst:Int) by omega)];refine G6 rfl (xF.2 (i9.2 (l7.2 (l9.2 (j9.2 (l5 rfl (m9.2 (d6 rfl (l7.2 (l9.2 (j9.2 (l5 rfl (j9.2 (l5 rfl (d6 (ud hkn) (l7.2 (l9.2 (j9.2 (l5 rfl (j9.2 (l5 rfl (d6 (ud hbn) (l4.2 (xy hr ?_))))))))))))))))))))))));rw[uc (k:=kOf r) (show bst<k by omega) (rG (eC▸hbC) (eC▸hkC))];have hix:=iR (k:=kOf r) (kp:=true) (ps:=ps) hkn hbn hkb;rw[<-eL]at hix;refine d6 rfl (R3 (λhc=>?_) λhc=>?_)
     .have hc:=hix.1 (MD hc);refine r6.2 (j4.2 (j3 rfl ⟨j5 rfl,_,rfl,rfl,k,_,hkC,λi hi=>?_,λk2 e2=>?_,rfl⟩))
      .rcases tk i hi with hi | rfl
       .have:=hbm i hi;omega
       .exact Mh _
      .have:=asc k2 e2;exact⟨by omega,λz=>by omega⟩
     .have hc:¬L.idxOf k<L.idxOf bst:=λz=>Nq hc (hix.2 z)
      exact bO.2 (stay (by omega))
   .rintro E F2 ⟨rfl,bst,o7,hbC,hbm,hbk,rfl⟩;rw[MM,K4,OH]at hbm;have e1:=hbm _ hb1;have e2:=hb2 bst hbC;have hbl:bst∈L:=by rw[eL];exact(w8 _ _ _).mem_iff.mpr (MW.2 (hsub bst hbC))
    have hbt:bst=L[t]:=by have h1:=dF hbl;have h2:=dF (Oa htL);rw[show L.idxOf bst=L.idxOf L[t] by omega,h2]at h1;exact(Mg h1).symm
    refine l0 (dH (M7 rfl) (by rw[K4,MX];omega) (j4.2 (j3 rfl ?_)));have e3:t7 (L.take (t+1))=t7 (L.take t)++[.int (bst:Int)]:=by rw[NU,eb,hbt];unfold t7;rw[Nt];rfl
    exact⟨_,rfl,rfl,_,_,_,_,_,by rw[e3];rfl⟩
  refine V3.2 (ak.2 (l9.2 (j9.2 (l5 rfl (m9.2 (d6 (Cu hbg) (d6 rfl ?_)))))));by_cases hz:lD ps (cq ps.length (L.take t))=[]
  .rw[Mv hz];have ec:R1 ps (L.take t)=cq ps.length (L.take t):=by unfold R1;rw[Mb hz]
   have:=rest (some (.dat (.list (t7 (lD ps (cq ps.length (L.take t)))))));rw[ec]at this;exact u9 rfl (bO.2 (l0 this))
  .rw[Mw hz];have ec:R1 ps (L.take t)=lD ps (cq ps.length (L.take t)):=by unfold R1;rw[Md hz]
   have:=rest (some (.dat (.list (t7 (lD ps (cq ps.length (L.take t)))))));rw[ec]at this;exact G6 rfl (r6.2 (j4.2 (j3 rfl ⟨j5 rfl,l0 this⟩)))
 .rintro E F1 ⟨rfl,o3,o4,o5,o6,o7,rfl⟩;rw[MM,LX,MB];have e1:L.take (min h ps.length)=L.take h:=by
   by_cases hz:h<=ps.length
   .rw[PH hz]
   .rw[QE (by omega),<-hLl,OH,NA (by omega)]
  rw[e1];exact l0 (y9.2 (j9.2 (dG rfl (v7 q))))
end
section
variable {F:FdS}{Q:My->FdS->Prop}{h:Nat}{pl:Option Nat}{r:My}{ps:List Pn}{b:Bt}{bs:List Bw}{l:List (Kw Pn)}
def zv (fp:List Pn):R0 0 (fp.map ldD)=(List.range fp.length).map λi=>.tuple [.int (i:Int),ldD (pAt fp i)]:=by
 have e:fp.map ldD=(List.range fp.length).map λi=>ldD (pAt fp i):=(dP ((0:Int),(0:Int),false) ldD fp).symm
 rw[e];have key:∀(l:List My) (k:Nat),R0 k l=(List.range l.length).map λi=>.tuple [.int ((k+i:Nat):Int),l.getD i .none]:=by
  walk_at "kl"
 rw[key,LX,MB];refine MO λi hi=>?_
 have hi:=MW.1 hi;rw[MM,MG,Mt,Ml (by simpa using hi)];simp
def cg (T:List Nat)(fp:List Pn)(j:Nat):Nat:=((List.range j).filter λi=>decide (i∈T)&&decide ((pAt fp i).2.1=1)).length
def zf {T:List Nat}{fp:List Pn}{j:Nat}:cg T fp (j+1)=cg T fp j+if (decide (j∈T)&&decide ((pAt fp j).2.1=1))=true then 1 else 0:=by unfold cg;rw[List.range_succ,Ph,MS];congr 1;rw[Py];split <;> simp
def zk {fp:List Pn}(hr:r∈W8)(h1:∀p∈fp,1<=p.2.1)(hb:∀p∈fp,p.2.2=true->kb r=true):cg ((order (kOf r) true fp).take h) fp fp.length=(P6 (A0 h (kOf r) (kb r) fp) fp).length:=by
 have ep:A0 h (kOf r) (kb r) fp=A0 h (kOf r) true fp:=by
  cases hk:kb r with
  | true=>rfl
  | false=>exact(lL λp hp=>by
    cases hz:p.2.2 with
    | false=>rfl
    | true=>rw[hb p hp hz]at hk;cases hk).symm
 rw[ep];unfold cg P6 A0;rw[List.filter_filter];congr 1;refine Qr λi hi=>?_
 have hi:=MW.1 hi;have:=h1 (pAt fp i) (by unfold pAt;rw[MG,Ml hi];exact Oa hi)
 rw[Bool.and_comm];congr 1;rw[OG];omega
def gL {n:Nat}{x:My}:List.replicate (n+1) x=List.replicate n x++[x]:=List.replicate_succ' ..
def Bi (hr:r∈W8)(hp:ag pl ps.length)(hl:ps.length+b.length<=400)(hok:∀p∈v5 pl ps b,1<=p.2.1/\(p.2.2=true->kb r=true))
  (q:∀rest:My,Q (.tuple [rest,.int (msL pl ps b),.list (List.replicate (P6 (A0 h (kOf r) (kb r) (v5 pl ps b)) (v5 pl ps b)).length (.int 0)),.int (msP h pl ps b)]) F) :
  wp (P4 [.dat (hsD h pl r),.dat (.list (ps.map ldD)),.dat (.tuple (b.map cmD))] F) Q:=by
 have hfl:=lz (pl:=pl) (ps:=ps) (b:=b);have ecg:=zk (h:=h) hr (λp hp=>(hok p hp).1) λp hp=>(hok p hp).2
 unfold P4;refine C2.2 ?_;dsimp only[q5,Ma,MI,Mf,MP,List.replicate,MA,ME,Nat.reduceAdd,Nat.reduceSub];refine m5.2 (kl.2 (i9.2 (l7.2 (j4.2 (j3 rfl (l7.2 (j4.2 (j3 rfl (l7.2 (j4.2 (j3 rfl (l4.2 (zY hp (by omega) (d6 rfl (l0 ?_)))))))))))))));have q':∀rest:My,Q (.tuple [rest,.int (msL pl ps b),.list (List.replicate (cg ((order (kOf r) true (v5 pl ps b)).take h) (v5 pl ps b) (v5 pl ps b).length) (.int 0)),.int (((((order (kOf r) true (v5 pl ps b)).take h).length:Nat)):Int)]) F:=λrest=>by
  rw[ecg];have:((order (kOf r) true (v5 pl ps b)).take h).length=min h (v5 pl ps b).length:=by rw[MX,(w8 _ _ _).length_eq,MB]
  rw[this];exact q rest
 generalize v5 pl ps b=fp at *;refine m5.2 (r6.2 (i9.2 (l7.2 (j4.2 (j3 rfl (l7.2 (j4.2 (j3 rfl (l4.2 (yx hr (by omega) ⟨j5 rfl,l0 ?_⟩))))))))));have hT:∀j∈(order (kOf r) true fp).take h,j<=1000:=λj hj=>by have:=MW.1 ((w8 _ _ _).mem_iff.mp (OT hj));omega
 generalize (order (kOf r) true fp).take h=T at *;refine m5.2 (cA.2 (ay.2 (h7.2 ⟨sz (by decide),j5 rfl,l0 (m5.2 (cA.2 (ay.2 (h7.2 ⟨sz (by decide),j5 rfl,l0 (m5.2 (cA.2 (ay.2 (h7.2 ⟨sz (by decide),j5 rfl,l0 (m5.2 ?_)⟩))))⟩))))⟩)));refine L1.2 (xg (j4.2 (j3 rfl (d6 U0 ?_))));rw[zv];refine D9 (λj E F'=>F'=F/\∃(st cn:List My) (o9 o10 o11 o12 o13:Option DV),st.length<=j/\cn.length<=j/\E=[some (.dat (hsD h pl r)),some (.dat (.list (ps.map ldD))),some (.dat (.tuple (b.map cmD))),some (.dat (.list (fp.map ldD))),some (.dat (.int (msL pl ps b))),some (.dat (.list (t7 T))),some (.own st),some (.own cn),some (.own (List.replicate (cg T fp j) (.int 0))),o9,o10,o11,o12,o13]) _ 0 _ F ⟨rfl,[],[],none,none,none,none,none,Mh _,Mh _,rfl⟩ ?_ ?_
 .rintro j d e E F1 ⟨rfl,st,cn,o9,o10,o11,o12,o13,hs,hc,rfl⟩;rw[MM]at hs hc ⊢;obtain⟨hj,rfl⟩:=aW e;have hcg:=zf (T:=T) (fp:=fp) (j:=j);refine⟨_,rfl,V3.2 (ak.2 (l9.2 (j9.2 (l5 rfl (j9.2 (l5 rfl (d6 (inL hT true) (d6 rfl ?_))))))))⟩;rw[Mb rfl];by_cases hz:j∈T;case neg =>
   rw[Mw hz]
   rw[Mw hz,Bool.false_and,Md (by decide),Nat.add_zero]at hcg
   refine G6 rfl (dH (M7 rfl) (by omega) (D4.2 (c6.2 (j4.2 (j3 rfl (c6.2 (j4.2 (j3 rfl (c6.2 (j4.2 (j3 rfl (c6.2 (j4.2 (j3 rfl (h7.2 ⟨y4 rfl,?_⟩)))))))))))))))
   exact⟨_,rfl,rfl,st++[ldD (pAt fp j)],cn,_,_,_,_,_,by rw[MS];show _+1<=_;omega,by omega,by rw[hcg];rfl⟩
  rw[Mv hz];rw[Mv hz,Bool.true_and]at hcg;refine u9 rfl (V3.2 (ak.2 (l9.2 (j9.2 (l5 rfl (m9.2 (d6 eqZ (d6 rfl ?_))))))));by_cases h1:(pAt fp j).2.1=1;case pos =>
   rw[Mv h1]
   rw[Mv h1,Mb rfl]at hcg
   refine G6 rfl (dH (M7 rfl) (by rw[NY];have:=NF (λi=>decide (i∈T)&&decide ((pAt fp i).2.1=1)) (List.range j);rw[MB]at this;show(List.length _)<=_;omega) (j4.2 (j3 rfl ?_)))
   exact⟨_,rfl,rfl,st,cn,_,_,_,_,_,by omega,by omega,by rw[hcg,gL];rfl⟩
  rw[Mw h1];rw[Mw h1,Md (by decide),Nat.add_zero]at hcg;refine u9 rfl (V3.2 (ak.2 (l9.2 (l9.2 (j9.2 (l5 rfl (m9.2 (d6 rfl (m9.2 (d6 (nh hr) (d6 rfl (R3 (λ_=>?_) λ_=>?_))))))))))))
  .refine dH (M7 rfl) (by omega) (D4.2 (c6.2 (j4.2 (j3 rfl (c6.2 (l9.2 (j9.2 (l5 rfl (m9.2 (d6 W1 (c6.2 (m9.2 (c6.2 (j4.2 (j3 rfl (h7.2 ⟨y4 rfl,?_⟩))))))))))))))));exact⟨_,rfl,rfl,st,cn++[.tuple [.int (pAt fp j).1,.int ((pAt fp j).2.1-1),.bool false,.int 0]],_,_,_,_,_,by omega,by rw[MS];show _+1<=_;omega,by rw[hcg];rfl⟩
  .refine dH (M7 rfl) (by omega) (D4.2 (c6.2 (j4.2 (j3 rfl (c6.2 (l9.2 (j9.2 (l5 rfl (m9.2 (d6 W1 (c6.2 (l9.2 (l9.2 (j9.2 (l5 rfl (m9.2 (d6 rfl (m9.2 (d6 (w8k hr) (c6.2 (j4.2 (j3 rfl (h7.2 ⟨y4 rfl,?_⟩)))))))))))))))))))))));exact⟨_,rfl,rfl,st++[.tuple [.int (pAt fp j).1,.int ((pAt fp j).2.1-1),.bool (kb r),.int 0]],cn,_,_,_,_,_,by rw[MS];show _+1<=_;omega,by omega,by rw[hcg];rfl⟩
 .rintro E F1 ⟨rfl,st,cn,o9,o10,o11,o12,o13,hs,hc,rfl⟩;rw[MM,LX,MB]at hs hc ⊢;refine l0 (uz (M7 rfl) (y9.2 (D4.2 (c6.2 (l9.2 (j9.2 (dG rfl (j9.2 (dG rfl (d6 (xM (by omega)) ?_))))))))));refine c6.2 (j4.2 (j3 rfl (c6.2 (j4.2 (j3 rfl (c6.2 (D8.2 (c6.2 (j9.2 (l5 rfl (h7.2 (d6 bX (h7.2 ⟨y4 rfl,v7 ?_⟩)))))))))))));rw[K4];exact q' _
end
section
variable {F:FdS}{Q:My->FdS->Prop}{h:Nat}{pl:Option Nat}{r:My}{ps:List Pn}{b:Bt}{bs:List Bw}{l:List (Kw Pn)}
@[irreducible] def msK (h:Nat)(pl:Option Nat)(r:My)(k:Nat)(ps:List Pn)(b:Bt):Int :=
 if k=0 then msC ps b else if k=1 then msL pl ps b else if k=2 then msE pl ps b else if k=3 then msP h pl ps b else if k=4 then msG h pl r ps b else msW pl ps b
theorem oV {α:Type}{c:Int}{f:α->Int}:∀{l:List α},(∀x∈l,0<=f x/\f x<=c)->0<=(l.map f).sum/\(l.map f).sum<=c*l.length
 | [],_=>⟨Pj _,by simp⟩
 | a::l,h=>by
  obtain⟨i1,i2⟩:=oV (l:=l) λx hx=>h x (Mc _ hx)
  have:=h a Me;rw[Ma,Om,Mf];have e:c*((l.length+1:Nat):Int)=c*l.length+c:=by rw[Int.natCast_add,RB];simp
  omega
def wj (D:Dr h pl r bs l){p:Kw Pn}(hp:p∈l){b:Bw}(hb:b∈bs)(k:Nat):0<=msK h pl r k p.1 b.1/\msK h pl r k p.1 b.1<=100:=by
 obtain⟨a,c,d⟩:=V4 D (List.Perm.refl l) hp hb;have c1:=c.1;have h3:=D.h3;unfold msK;split
 .unfold msC;omega
 .split
  .unfold msL;omega
  .split
   .unfold msE msL;omega
   .split
    .unfold msP;omega
    .split
     .unfold msG;have h1:=mU (P:=A0 h (kOf r) (kb r) (v5 pl p.1 b.1)) (ps:=v5 pl p.1 b.1);rw[Z6]at h1;omega
     .exact uw a c
def xJ (D:Dr h pl r bs l){p:Kw Pn}(hp:p∈l){b:Bw}(hb:b∈bs)(k:Nat):0<=msK h pl r k p.1 b.1*p.2*b.2/\msK h pl r k p.1 b.1*p.2*b.2<=14400:=by obtain⟨m0,m1⟩:=wj D hp hb k;obtain⟨_,p0,p1⟩:=D.ls.ok p hp;obtain⟨_,b0,b1⟩:=D.bs.ok b hb;have h1:0<=msK h pl r k p.1 b.1*p.2:=Pm m0 (by omega);have h2:msK h pl r k p.1 b.1*p.2<=100*p.2:=Nh m1 (by omega);have h3:0<=msK h pl r k p.1 b.1*p.2*b.2:=Pm h1 (by omega);have h4:msK h pl r k p.1 b.1*p.2*b.2<=1200*b.2:=Nh (by omega) (by omega);omega
def zV (D:Dr h pl r bs l)(k:Nat){l':List (Kw Pn)}(hs:∀p∈l',p∈l)(hl:l'.length<=4):0<=nnS (msK h pl r k) l' bs/\nnS (msK h pl r k) l' bs<=400000:=by
 have m2:=D.bs.n2;have tb:=λ(p:Kw Pn) (hp:p∈l) (b:Bw) (hb:b∈bs)=>xJ D hp hb k
 unfold nnS;generalize msK h pl r k=f at tb ⊢;have h1:∀p∈l',0<=(bs.map λb=>f p.1 b.1*p.2*b.2).sum/\(bs.map λb=>f p.1 b.1*p.2*b.2).sum<=86400:=λp hp=>by have h2:=oV (c:=14400) (l:=bs) (f:=λb=>f p.1 b.1*p.2*b.2) (tb p (hs p hp));omega
 have h3:=oV (c:=86400) h1;omega
abbrev iz (f:Nat->Int):My:=.list ((List.range 6).map λk=>.int (f k))
def wH {f:Nat->Int}{k:Nat}(hk:k<6):ixD (iz f) (.int (k:Int))=some (.int (f k)):=pd (f:=λk=>My.int (f k)) hk
end
section
variable {F:FdS}{Q:My->FdS->Prop}{h:Nat}{pl:Option Nat}{r:My}{ps:List Pn}{b:Bt}{bs:List Bw}{l:List (Kw Pn)}
def EL {xs:List My}{k:Int}(h:xs.length*k.toNat<=100000)(h1:-(2 ^ 63)<=k)(h2:k<2 ^ 63):J9 (.list xs) (.int k)=some (.list (List.replicate k.toNat xs).flatten):=by unfold J9;exact Mb ⟨h1,h2,sz h⟩
def DM:msK h pl r 0=msC:=by funext ps b;unfold msK;rw[Mb rfl]
def Ed:msK h pl r 1=msL pl:=by funext ps b;unfold msK;rw[Md (by decide),Mb rfl]
def CW:msK h pl r 2=msE pl:=by funext ps b;unfold msK;rw[Md (by decide),Md (by decide),Mb rfl]
def DS:msK h pl r 3=msP h pl:=by funext ps b;unfold msK;rw[Md (by decide),Md (by decide),Md (by decide),Mb rfl]
def CL:msK h pl r 4=msG h pl r:=by funext ps b;unfold msK;rw[Md (by decide),Md (by decide),Md (by decide),Md (by decide),Mb rfl]
def Dn:msK h pl r 5=msW pl:=by funext ps b;unfold msK;rw[Md (by decide),Md (by decide),Md (by decide),Md (by decide),Md (by decide)]
def CT:My.list [.int (msC ps b),.int (msL pl ps b),.int (msE pl ps b),.int (msP h pl ps b),.int (msG h pl r ps b),.int (msW pl ps b)]=iz λk=>msK h pl r k ps b:=by unfold iz;show _=My.list [.int (msK h pl r 0 ps b),.int (msK h pl r 1 ps b),.int (msK h pl r 2 ps b),.int (msK h pl r 3 ps b),.int (msK h pl r 4 ps b),.int (msK h pl r 5 ps b)];rw[DM,Ed,CW,DS,CL,Dn]
def iB (h:Nat)(pl:Option Nat)(r:My)(l:List (Kw Pn))(bs:List Bw)(i:Nat)(p:Kw Pn)(j k:Nat):Int:=nnS (msK h pl r k) (l.take i) bs+((bs.take j).map λb=>msK h pl r k p.1 b.1*p.2*b.2).sum
def vd {i j k:Nat}{p:Kw Pn}{b:Bw}(e:bs[j]? = some b):iB h pl r l bs i p (j+1) k=iB h pl r l bs i p j k+msK h pl r k p.1 b.1*p.2*b.2:=by unfold iB;rw[NU,e,Nt,QU];show _+(_+(msK h pl r k p.1 b.1*p.2*b.2+0))=_;omega
def uf {i k:Nat}{p:Kw Pn}(e:l[i]? = some p):iB h pl r l bs i p bs.length k=nnS (msK h pl r k) (l.take (i+1)) bs:=by unfold iB nnS;rw[OH,NU,e,Nt,QU];show _=_+((bs.map λb=>msK h pl r k p.1 b.1*p.2*b.2).sum+0);omega
def EC (hl:ps.length<=1000){E:DE}{i:Nat}(hE:E[i]? = some (some (.dat (.tuple (ps.map pnD)))))(q:Q (.int (lfS ps)) F):wp (sN S4 (c7 (sLC (C6 (sW i)) 1 [] (bN 0) A6 (s2 ixD (sW 0) (sC (.int 1)))) j6) E F) Q:=by
 refine D8.2 (c6.2 (N0.2 (B1.2 (j9.2 (l5 hE (d6 Q7 ⟨sz (by rw[LX];omega),?_⟩))))));refine oG (x:=pnD) (f:=λp=>.int p.2.1) ps _ (λp _ F Q q=>l9.2 (j9.2 (l5 rfl (m9.2 (d6 rfl q))))) (h7.2 ?_);walk_at "kac"
 rw[e];exact d6 cm q
def Cz (hl:ps.length<=1000){E:DE}{i:Nat}(hE:E[i]? = some (some (.dat (.list (ps.map ldD)))))(q:Q (.int (lfS ps)) F):wp (sN S4 (c7 (sLC (C6 (sW i)) 1 [] (bN 0) A6 (s2 ixD (sW 0) (sC (.int 1)))) j6) E F) Q:=by
 refine D8.2 (c6.2 (N0.2 (B1.2 (j9.2 (l5 hE (d6 U0 ⟨sz (by rw[LX];omega),?_⟩))))));refine oG (x:=ldD) (f:=λp=>.int p.2.1) ps _ (λp _ F Q q=>l9.2 (j9.2 (l5 rfl (m9.2 (d6 rfl q))))) (h7.2 ?_);walk_at "kac"
 rw[e];exact d6 cm q
def zW {α:Type}{x:α->My}{l:List (Kw α)}(hl:l.length<=1000){E:DE}{i:Nat}{s:My}(hE:E[i]? = some (some (.dat s)))(hs:gO s=some (l.map (kwD x)))(q:Q (.int (r9 l)) F):wp (sN S4 (c7 (sLC (C6 (sW i)) 2 [] (w6 2 (d8 (bN 0) (d8 (bN 1) x3))) A6 (sV 1)) j6) E F) Q:=by
 refine D8.2 (c6.2 (N0.2 (B1.2 (j9.2 (l5 hE (d6 hs ⟨sz (by rw[LX];omega),?_⟩))))));refine rB (x:=λp:Kw α=>rwD x p.1) (y:=λp=>.int p.2) (f:=λp=>.int p.2) l _ _ (λp _ F Q q=>j4.2 (j3 rfl q)) (h7.2 ?_);have e:l.map (λp:Kw α=>My.int p.2)=(l.map λp=>p.2).map My.int:=by rw[Mq];rfl
 rw[e];exact d6 cm q
abbrev qj (l:List (Kw Pn)):My:=.list (l.map (kwD pnD))
def DD (D:Dr h pl r bs l)(q:Q (.list ((List.range 6).map λk=>K5 (msK h pl r k) l bs)) F):wp (O7 [.dat (hsD h pl r),.dat (iy bs),.dat (qj l)] F) Q:=by
 have n2:=D.ls.n2;have m2:=D.bs.n2;walk_at "kv";unfold O7;rw[Cq];walk_at "kb";refine m5.2 (r6.2 (l9.2 (m9.2 (m9.2 (d6 (EL (by decide) (by decide) (by decide)) ⟨j5 rfl,l0 (m5.2 (L1.2 (B1.2 (j4.2 (j3 rfl (d6 U0 ?_))))))⟩)))));refine D9 (λi E F'=>F'=F/\∃(a4 a5 a6 a7 a8 a9 a10 a11 a12 a13 a14 a15:Option DV),E=[some (.dat (hsD h pl r)),some (.dat (iy bs)),some (.dat (qj l)),some (.dat (iz λk=>nnS (msK h pl r k) (l.take i) bs)),a4,a5,a6,a7,a8,a9,a10,a11,a12,a13,a14,a15,none]) _ 0 _ F ⟨rfl,none,none,none,none,none,none,none,none,none,none,none,none,rfl⟩ ?_ ?_
 .rintro i d e E F1 ⟨rfl,a4,a5,a6,a7,a8,a9,a10,a11,a12,a13,a14,a15,rfl⟩;rw[MM];rw[Mt]at e;obtain⟨p,ep,rfl⟩:=Ms.1 e;have hpl:=MU ep;obtain⟨hst,p1,p2⟩:=D.ls.ok p hpl;refine⟨_,rfl,L1.2 (B1.2 (j4.2 (j3 rfl (d6 Q7 ?_))))⟩;have e00:(iz λk=>nnS (msK h pl r k) (l.take i) bs)=iz λk=>iB h pl r l bs i p 0 k:=by congr 2;funext k;unfold iB;rw[List.take_zero,MI,List.sum_nil,Int.add_zero]
  refine D9 (λj E F'=>F'=F1/\∃(a6 a7 a8 a9 a10 a11 a12 a13 a14 a15:Option DV),E=[some (.dat (hsD h pl r)),some (.dat (iy bs)),some (.dat (qj l)),some (.dat (iz λk=>iB h pl r l bs i p j k)),some (.dat (rwD pnD p.1)),some (.dat (.int p.2)),a6,a7,a8,a9,a10,a11,a12,a13,a14,a15,none]) _ 0 _ F1 ⟨rfl,a6,a7,a8,a9,a10,a11,a12,a13,a14,a15,by rw[<-e00];rfl⟩ ?_ ?_
  .rintro j d e E F2 ⟨rfl,a6,a7,a8,a9,a10,a11,a12,a13,a14,a15,rfl⟩;rw[MM];rw[Mt]at e;obtain⟨b,eb,rfl⟩:=Ms.1 e;have hbb:=MU eb;obtain⟨a,c,dd⟩:=V4 D (List.Perm.refl l) hpl hbb;obtain⟨_,b1,b2⟩:=D.bs.ok b hbb;have hfl:=lz (pl:=pl) (ps:=p.1) (b:=b.1);have hok:=yS a c (by decide);refine⟨_,rfl,m5.2 (r6.2 (i9.2 (l7.2 (j4.2 (j3 rfl (l4.2 (BX (by omega) ⟨j5 rfl,l0 ?_⟩)))))))⟩;refine m5.2 (r6.2 (l9.2 (i9.2 (l7.2 (j4.2 (j3 rfl (l7.2 (j4.2 (j3 rfl (l7.2 (j4.2 (j3 rfl (l4.2 (zY a.fit (by omega) (m9.2 (d6 rfl ⟨j5 rfl,l0 ?_⟩))))))))))))))));refine m5.2 (kl.2 (i9.2 (l7.2 (j4.2 (j3 rfl (l7.2 (j4.2 (j3 rfl (l7.2 (j4.2 (j3 rfl (l4.2 (Bi D.hr a.fit (by omega) (λp hp=>⟨(hok p hp).2.1.1,(hok p hp).2.2⟩) λrest=>d6 rfl (l0 ?_))))))))))))));refine m5.2 (r6.2 (l9.2 (Cz (by omega) rfl (EC (by omega) rfl (d6 W1 ⟨j5 rfl,l0 ?_⟩)))));refine m5.2 (r6.2 (jK.2 (c6.2 (D8.2 (c6.2 (j9.2 (l5 rfl (h7.2 (d6 Y9 (c6.2 (j4.2 (j3 rfl ?_))))))))))));refine c6.2 (l9.2 (D8.2 (c6.2 (j9.2 (l5 rfl (h7.2 (d6 bX (D8.2 (c6.2 (j9.2 (l5 rfl (h7.2 (d6 Y9 (d6 W1 ?_))))))))))))));refine c6.2 (j4.2 (j3 rfl (c6.2 (D8.2 (c6.2 (j9.2 (l5 rfl (h7.2 (d6 bX (c6.2 (j4.2 (j3 rfl (h7.2 ⟨y4 rfl,j5 rfl,l0 ?_⟩)))))))))))));rw[LX,LX,LX,NY];have eE:(((v5 pl p.1 b.1).length:Nat):Int)-((p.1.length:Nat):Int)=msE pl p.1 b.1:=by
    unfold msE msL;rw[gS];have:K1 pl p.1.length (List.length b.1)<=List.length b.1:=by unfold K1;split <;> omega
    omega
   rw[eE];have eS:My.list [.int ((List.length b.1:Nat):Int),.int (msL pl p.1 b.1),.int (msE pl p.1 b.1),.int (msP h pl p.1 b.1),.int (((P6 (A0 h (kOf r) (kb r) (v5 pl p.1 b.1)) (v5 pl p.1 b.1)).length:Nat):Int),.int (lfS (v5 pl p.1 b.1)-lfS p.1)]=iz λk=>msK h pl r k p.1 b.1:=CT
   rw[eS];refine r6.2 (N0.2 (P1.2 (c6.2 (m9.2 (h7.2 (d6 (Z7 (n:=6) (by decide)) ⟨sz (by decide),?_⟩))))));refine oG (x:=λk:Nat=>.int (k:Int)) (f:=λk=>.int (iB h pl r l bs i p (j+1) k)) (List.range 6) _ (λk hk F Q q=>?_) ⟨j5 rfl,?_⟩
   .have hk:=MW.1 hk;obtain⟨m0,m1⟩:=wj D hpl hbb k;have t1:0<=msK h pl r k p.1 b.1*p.2:=Pm m0 (by omega);have t2:msK h pl r k p.1 b.1*p.2<=100*p.2:=Nh m1 (by omega);refine l9.2 (l9.2 (j9.2 (l5 rfl (j9.2 (l5 rfl (d6 (wH hk) ?_))))));refine l9.2 (l9.2 (l9.2 (j9.2 (l5 rfl (j9.2 (l5 rfl (d6 (wH hk) (j9.2 (l5 rfl (d6 (gf (sm5 (by omega)) (sm5 (by omega))) ?_))))))))));refine j9.2 (l5 rfl (d6 (gf (sm5 (by omega)) (sm5 (by omega))) (d6 O3 ?_)));rw[vd eb]at q;exact q
   .exact⟨_,rfl,rfl,_,_,_,_,_,_,_,_,_,_,rfl⟩
  .rintro E F2 ⟨rfl,a6,a7,a8,a9,a10,a11,a12,a13,a14,a15,rfl⟩;rw[MM,LX];have e9:(iz λk=>iB h pl r l bs i p bs.length k)=iz λk=>nnS (msK h pl r k) (l.take (i+1)) bs:=by congr 2;funext k;rw[uf ep]
   exact⟨_,rfl,rfl,_,_,_,_,_,_,_,_,_,_,_,_,by rw[e9]⟩
 .rintro E F1 ⟨rfl,a4,a5,a6,a7,a8,a9,a10,a11,a12,a13,a14,a15,rfl⟩;rw[MM,LX,OH];refine l0 (m5.2 (r6.2 (l9.2 (zW (x:=pnD) (l:=l) (by omega) rfl rfl (zW (x:=cmD) (l:=bs) (by omega) rfl rfl ?_)))));refine d6 (gf (sm5 (by omega)) (sm5 (by omega))) ⟨j5 rfl,l0 (y9.2 (N0.2 (B1.2 (j9.2 (l5 rfl (d6 U0 ⟨sz (by simp),?_⟩))))))⟩;have hmul:0<r9 l*r9 bs:=Qx (by omega) (by omega);have hmul2:r9 l*r9 bs<=480*r9 bs:=Nh (by omega) (by omega);refine oG (x:=λk:Nat=>.int (nnS (msK h pl r k) l bs)) (f:=λk=>K5 (msK h pl r k) l bs) (List.range 6) _ (λk hk F Q q=>?_) (v7 q);obtain⟨n0,n1⟩:=zV D k (l':=l) (λp hp=>hp) (by omega);refine i9.2 (l7.2 (j4.2 (j3 rfl (l7.2 (j4.2 (j3 rfl (l4.2 ?_)))))));have e1:nnS (msK h pl r k) l bs=(((nnS (msK h pl r k) l bs).toNat:Nat):Int):=by omega
  have e2:r9 l*r9 bs=(((r9 l*r9 bs).toNat:Nat):Int):=by omega
  have q':Q (qd (mkRat (((nnS (msK h pl r k) l bs).toNat:Nat):Int) (r9 l*r9 bs).toNat)) F:=by rw[<-e1];exact q
  rw[e1,e2];exact qb (by omega) (MJ (show(r9 l*r9 bs).toNat<=480*480 by omega) (Mx (show 480*480<2 ^ 20 by decide) (NQ (by decide) (by decide)))) q'
end
section
variable {F:FdS}{h:Nat}{pl:Option Nat}{r:My}{bs:List Bw}{l rs:List (Kw Pn)}
def Da (D:Dr h pl r bs l)(k:Nat):Gd 0 3 1 (K5 (msK h pl r k) l bs):=by
 walk_at "kv";obtain⟨n0,n1⟩:=zV D k (l':=l) (λp hp=>hp) (by have:=D.ls.n2;omega);have hmul:0<r9 l*r9 bs:=Qx (by omega) (by omega);have hmul2:r9 l*r9 bs<=480*r9 bs:=Nh (by omega) (by omega);have hD:(r9 l*r9 bs).toNat≠0:=by omega
 obtain⟨d1,d2⟩:=eF (nnS (msK h pl r k) l bs) hD;have hden:=OR (by omega) d1;have hnum:=d2 400000 (MK (show(nnS (msK h pl r k) l bs).natAbs<=400000 by omega) (Nat.le_mul_of_pos_right _ (by omega)));have hnum2:(mkRat (nnS (msK h pl r k) l bs) (r9 l*r9 bs).toNat).num.natAbs<=400000*230400:=MK hnum (Nat.mul_le_mul_left _ (by omega));have big:400000*230400<10 ^ 300+0:=Mx (show 400000*230400<10 ^ 20 by decide) (NQ (by decide) (by decide));refine Gd.tup (M:=1) (λd hd=>?_) (by simp[fz,cnt]);rcases Mi.1 hd with rfl | hd
 .exact pO (MJ hnum2 big)
 .rw[Ni.1 hd];refine pO (MJ (m:=400000*230400) ?_ big);rw[NP];omega
def wV (D:Dr h pl r bs l):bU (.list ((List.range 6).map λk=>K5 (msK h pl r k) l bs))=true:=by
 refine(Gd.lst (n:=0) (N:=1+3*6) (k:=1) (M:=3) (λd hd=>?_) ?_).repr (by decide) (by decide) (by decide)
 .obtain⟨k,_,rfl⟩:=ML.1 hd;exact Da D k
 .have:=gb (c:=3) (ds:=(List.range 6).map λk=>K5 (msK h pl r k) l bs) λd hd=>by obtain⟨k,_,rfl⟩:=ML.1 hd;exact(Da D k).ct
  rw[LX,MB]at this;omega
def EN {x:Str}:eqD true (.str x) (.str x)=some (.bool false):=by show some (My.bool (if true=true then !decide (x=x) else decide (x=x)))=_;rw[Mb rfl,Mv rfl];rfl
def zC:My.list [K5 msC l bs,K5 (msL pl) l bs,K5 (msE pl) l bs,K5 (msP h pl) l bs,K5 (msG h pl r) l bs,K5 (msW pl) l bs] = .list ((List.range 6).map λk=>K5 (msK h pl r k) l bs):=by show _=My.list [K5 (msK h pl r 0) l bs,K5 (msK h pl r 1) l bs,K5 (msK h pl r 2) l bs,K5 (msK h pl r 3) l bs,K5 (msK h pl r 4) l bs,K5 (msK h pl r 5) l bs];rw[DM,Ed,CW,DS,CL,Dn]
end
def fin (ns:List Int):∃F',lR ([none,some .feed]++List.replicate 8 none) (nq ns)=some (.rt (.bool true),F'):=by
 have key:wp (lR ([none,some .feed]++List.replicate 8 none) (nq ns)) λo _=>o = .rt (.bool true):=by
  have h0:(nq ns).t=0:=rfl;unfold lR;refine m5.2 ?_;unfold lA;refine L1.2 (P1.2 (c6.2 (m9.2 (h7.2 (d6 (Z7 (n:=2) (by decide)) ?_)))));refine D9 (λm E F'=>F'.t<=1000*m/\∃(a2 a3 a4 a5 a6 a7 a8 a9:Option DV),E=[none,some .feed,a2,a3,a4,a5,a6,a7,a8,a9]) _ 0 _ (nq ns) ⟨by omega,_,_,_,_,_,_,_,_,rfl⟩ ?_ ?_
  .rintro m d e E F1 ⟨ht,a2,a3,a4,a5,a6,a7,a8,a9,rfl⟩;rw[MM] at *;obtain⟨hm,rfl⟩:=aW (f:=λi:Nat=>My.int (i:Int)) e;refine⟨_,rfl,m5.2 ?_⟩;unfold bD;rw[vJ];refine r6.2 (i9.2 (W9.2 (Y2 rfl (l7.2 (m9.2 (l4.2 ?_))))));refine(sr (m:=6) rfl (by decide)).wp (by omega) λd F2 t2 hd=>⟨j5 rfl,l0 (m5.2 ?_)⟩
   obtain⟨h,pl,r,rfl,h1,h3,hr,hpl⟩:=hd;unfold aS;rw[wX];refine r6.2 (i9.2 (W9.2 (Y2 rfl (l7.2 (l9.2 (m9.2 (i9.2 (W9.2 (Y2 rfl (l7.2 (m9.2 (l4.2 ?_))))))))))));refine E7 (by decide) (by decide) (by omega) λx F3 x0 x1 t3=>d6 O3 (l7.2 (m9.2 (l7.2 (m9.2 (l4.2 ?_)))))
   obtain⟨n,en,n1,n6⟩:∃n:Nat,1+x=(n:Int)/\1<=n/\n<=6:=⟨(1+x).toNat,by omega,by omega,by omega⟩;rw[en];refine(sG (n:=n) (m:=2) (w:=3) rfl n1 (by omega) (by decide) (by decide) (by decide)).wp (by omega) λd F4 t4 hd=>⟨j5 rfl,l0 (m5.2 ?_)⟩
   obtain⟨bs,rfl,hbs⟩:=hd;unfold bf;rw[yI];refine r6.2 (i9.2 (W9.2 (Y2 rfl (l7.2 (j4.2 (j3 rfl (l7.2 (l9.2 (m9.2 (i9.2 (W9.2 (Y2 rfl (l7.2 (m9.2 (l4.2 ?_)))))))))))))));refine E7 (by decide) (by decide) (by omega) λy F5 y0 y1 t5=>d6 O3 (l7.2 (m9.2 (l4.2 ?_)))
   obtain⟨k,ek,k1,k4⟩:∃k:Nat,1+y=(k:Int)/\1<=k/\k<=4:=⟨(1+y).toNat,by omega,by omega,by omega⟩;rw[ek];refine(ua (h:=h) (n:=k) (m:=8) (pl:=pl) rfl rfl (by omega) hr (by decide) k1 (by omega)).wp (by omega) λd F6 t6 hd=>⟨j5 rfl,l0 (m5.2 ?_)⟩
   obtain⟨l,rfl,hls⟩:=hd;have D:Dr h pl r bs l:=⟨hr,h1,h3,⟨hbs.n1,by have:=hbs.n2;omega,hbs.ok,hbs.nd⟩,⟨hls.n1,by have:=hls.n2;omega,hls.ok,hls.nd⟩⟩;unfold bu;rw[AK];refine r6.2 (i9.2 (l7.2 (j4.2 (j3 rfl (l4.2 (BU rfl D.ls (by decide) λrs hp=>⟨j5 rfl,l0 (m5.2 ?_)⟩))))));unfold bj;refine r6.2 (D8.2 (c6.2 (i9.2 (l7.2 (j4.2 (j3 rfl (l7.2 (j4.2 (j3 rfl (l7.2 (j4.2 (j3 rfl (l4.2 (DD D (h7.2 (d6 (Ai (wV D)) ⟨j5 rfl,l0 ?_⟩))))))))))))))));unfold dJ;refine L1.2 (P1.2 (c6.2 (m9.2 (h7.2 (d6 (Z7 (n:=2) (by decide)) ?_)))));refine D9 (λj E F'=>F'=F6/\∃(a8 a9:Option DV),E=[none,some .feed,some (.dat (.int (m:Int))),some (.dat (hsD h pl r)),some (.dat (iy bs)),some (.dat (qj l)),some (.dat (rN l rs)),some (.dat (.str (My.list ((List.range 6).map λk=>K5 (msK h pl r k) l bs)).shown)),a8,a9]) _ 0 _ F6 ⟨rfl,_,_,rfl⟩ ?_ ?_
   .rintro j d e E F7 ⟨rfl,b8,b9,rfl⟩;refine⟨_,rfl,m5.2 ?_⟩;unfold V0;refine r6.2 (jK.2 (c6.2 (i9.2 (l7.2 (j4.2 (j3 rfl (l4.2 (yp D ?_))))))));refine c6.2 (i9.2 (l7.2 (j4.2 (j3 rfl (l7.2 (j4.2 (j3 rfl (l7.2 (j4.2 (j3 rfl (l4.2 (yu D hp ?_))))))))))));refine c6.2 (i9.2 (l7.2 (j4.2 (j3 rfl (l7.2 (j4.2 (j3 rfl (l7.2 (j4.2 (j3 rfl (l4.2 (Bp D hp (h7.2 ⟨y4 rfl,j5 rfl,l0 (m5.2 ?_)⟩)))))))))))));unfold V1;refine r6.2 (l9.2 (j9.2 (l5 rfl (jK.2 ?_))));refine c6.2 (i9.2 (l7.2 (j4.2 (j3 rfl (l7.2 (j4.2 (j3 rfl (l7.2 (j4.2 (j3 rfl (l4.2 (xA D hp ?_))))))))))));refine c6.2 (i9.2 (l7.2 (j4.2 (j3 rfl (l7.2 (j4.2 (j3 rfl (l7.2 (j4.2 (j3 rfl (l4.2 (xK D hp ?_))))))))))));refine c6.2 (i9.2 (l7.2 (j4.2 (j3 rfl (l7.2 (j4.2 (j3 rfl (l7.2 (j4.2 (j3 rfl (l4.2 (yC D hp (h7.2 ⟨y4 rfl,?_⟩)))))))))))));refine d6 (xM (by show 3+3<=100000;decide)) ⟨j5 rfl,l0 ?_⟩;have et:My.list ([K5 msC l bs,K5 (msL pl) l bs,K5 (msE pl) l bs]++[K5 (msP h pl) l bs,K5 (msG h pl r) l bs,K5 (msW pl) l bs]) = .list ((List.range 6).map λk=>K5 (msK h pl r k) l bs):=zC;rw[et];unfold U2;exact V3.2 (ak.2 (l9.2 (D8.2 (c6.2 (j9.2 (l5 rfl (h7.2 (d6 (Ai (wV D)) (j9.2 (l5 rfl (d6 EN (d6 rfl (u9 rfl (bO.2 ⟨_,rfl,rfl,_,_,rfl⟩))))))))))))))
   .rintro E F7 ⟨rfl,b8,b9,rfl⟩;exact⟨_,rfl,by omega,_,_,_,_,_,_,_,_,rfl⟩
  .rintro E F1 ⟨ht,a2,a3,a4,a5,a6,a7,a8,a9,rfl⟩;refine l0 ?_;unfold fG;exact y9.2 (m9.2 rfl)
 obtain⟨o,F',e,h⟩:=key;exact⟨F',by rw[e,h]⟩
end K40
namespace K40
open PySem L2 L3
def all_mk {l:PySem.W.OpenLaw}{w:RG}{K:PySem.W.Frag}{h:RM}{mg:Str->Option RC}{fa flaw:RD}(X:K.In h)(G:h.Ns RU mg)(hfa:mg "law" = some (.ref fa))
    {odlaw anlaw:Option RD} {sllaw:Array (Option RC)} {oclaw kVlaw dclaw pmlaw cdlaw ctlaw:RC}
    (alaw:PySem.W.nsIn K RU "law" = some (some (.ref flaw))) (llaw:K.lookup flaw=some ⟨oclaw,odlaw,.func (PySem.W.fnOf "law" "law" (defArgs FA) (defBody FA) (defScope FA) .none kVlaw dclaw pmlaw anlaw cdlaw ctlaw),sllaw⟩) (claw:PySem.W.codeIn K cdlaw "law" = true) (klaw:PySem.W.keepIn K (.ref flaw)=true)
    (Gg:L3.FI K "common_divisor" FV)
    (HZ:L3.FI K "fraction" Ht)
    (IG:L3.FI K "mean_of" Gz)
    (Gm:L3.FI K "common_bottom" Ge)
    (Hf:L3.FI K "weights_of" Gh)
    (Ku:L3.FI K "keeps" IA)
    (Hz:L3.FI K "work_left" Gn)
    (IH:L3.FI K "in_hand" HR)
    (JC:L3.FI K "let_in" HK)
    (Ie:L3.FI K "lined_up" FW)
    (JD:L3.FI K "picked" HL)
    (JE:L3.FI K "worked" GQ)
    (Lo:L3.FI K "step" Jq)
    (II:L3.FI K "lost_in" HS)
    (Hg:L3.FI K "entered_in" GC)
    (HA:L3.FI K "picked_in" GR)
    (IJ:L3.FI K "gone_in" HU)
    (GM:L3.FI K "work_let_in" Gu)
    (HB:L3.FI K "come_mean" Gp)
    (IK:L3.FI K "mean_in" FC)
    (HC:L3.FI K "lost_mean" GS)
    (Ig:L3.FI K "let_mean" Hu)
    (GN:L3.FI K "picked_mean" Gv)
    (HD:L3.FI K "gone_mean" GT)
    (HE:L3.FI K "work_mean" GU)
    (HF:L3.FI K "_law_feed" GV)
    (HG:L3.FI K "_law_draw" GW)
    (Ih:L3.FI K "_law_low" Hv)
    (Gy:L3.FI K "_law_entered" Gk)
    (Hh:L3.FI K "_law_ahead" GE)
    (Hi:L3.FI K "_law_taken" FN)
    (HH:L3.FI K "_law_beat" Gq)
    (HI:L3.FI K "_law_line" Gr)
    (Hj:L3.FI K "_law_house" GG)
    (Hl:L3.FI K "_law_beats" FO)
    (Gb:L3.FI K "_law_some_stand" FM)
    (HJ:L3.FI K "_law_lots" Gc)
    (Ii:L3.FI K "_law_row" FX)
    (Ij:L3.FI K "_law_due" FG)
    (zabs:PySem.W.nsIn K RU "abs" = some none)
    (zenumerate:PySem.W.nsIn K RU "enumerate" = some none)
    (zint:PySem.W.nsIn K RU "int" = some none)
    (zlen:PySem.W.nsIn K RU "len" = some none)
    (zlist:PySem.W.nsIn K RU "list" = some none)
    (zmin:PySem.W.nsIn K RU "min" = some none)
    (zrange:PySem.W.nsIn K RU "range" = some none)
    (zrepr:PySem.W.nsIn K RU "repr" = some none)
    (zsorted:PySem.W.nsIn K RU "sorted" = some none)
    (zsum:PySem.W.nsIn K RU "sum" = some none)
    (ztuple:PySem.W.nsIn K RU "tuple" = some none)
    (zzip:PySem.W.nsIn K RU "zip" = some none)
    {t_KEEPING:RD} {it_KEEPING:Array RC} {n_KEEPING:Nat} {dd_KEEPING:Option RD} {sl_KEEPING:Array (Option RC)} (ga_KEEPING:PySem.W.nsIn K RU "KEEPING" = some (some (.ref t_KEEPING))) (gl_KEEPING:K.lookup t_KEEPING=some ⟨.type "tuple",dd_KEEPING,.seq it_KEEPING n_KEEPING,sl_KEEPING⟩) (gq_KEEPING:L3.strsOf it_KEEPING.toList=some (["first","last","short","front"]:List Str))
    (Hm:(PySem.W.tabIn K "lined_up").isSome=true)
    (Ik:(PySem.W.tabIn K "picked").isSome=true)
    (hnd0:decide (((L3.tabsK (["lined_up","picked"]:List Str) K).map (·.2.2)).Nodup)=true)
   :∃fd:RJ,(∀(s:RE) (v:RC),BindsTo s fd ⟨[v],[]⟩ [("_law_script",v)])/\∀base:RM,K.In base->base.Ns RU mg->BMd base mg->(∀t∈L3.tabsK (["lined_up","picked"]:List Str) K,PySem.W.CodeHd base t.2.1 t.2.2)->FnOk l.prog w K mg base CX0 8 fa fd ["_law_script"] (spLaw K):=by
  have hnd:(L3.tabP K).Nodup:=MD hnd0;have e:=hfa.symm.trans (Qy X G alaw);cases e;have T:Txt K mg:=⟨Nr X G zabs,Nr X G zenumerate,Nr X G zint,Nr X G zlen,Nr X G zlist,Nr X G zmin,Nr X G zrange,Nr X G zrepr,Nr X G zsorted,Nr X G zsum,Nr X G ztuple,Nr X G zzip,L3.gd_mk X G ga_KEEPING gl_KEEPING gq_KEEPING (by decide)⟩;obtain⟨_,_,GO,Iy,Iz,_⟩:=Gg.mk X G ["one","other"] λ_ _ _ _ _ _ us hl=>by obtain⟨z0,z1,rfl⟩:=L3.len_2 hl;rfl
  obtain⟨_,_,Jk,Lb,Lc,_⟩:=HZ.mk X G ["top","bottom"] λ_ _ _ _ _ _ us hl=>by obtain⟨z0,z1,rfl⟩:=L3.len_2 hl;rfl
  obtain⟨_,_,JU,Lp,Lq,_⟩:=IG.mk X G ["pairs"] λ_ _ _ _ _ _ us hl=>by obtain⟨z0,rfl⟩:=L3.len_1 hl;rfl
  obtain⟨_,_,Hn,IL,IM,_⟩:=Gm.mk X G ["row"] λ_ _ _ _ _ _ us hl=>by obtain⟨z0,rfl⟩:=L3.len_1 hl;rfl
  obtain⟨_,_,Im,JV,JW,_⟩:=Hf.mk X G ["row"] λ_ _ _ _ _ _ us hl=>by obtain⟨z0,rfl⟩:=L3.len_1 hl;rfl
  obtain⟨_,_,Lr,LN,LO,_⟩:=Ku.mk X G ["rule"] λ_ _ _ _ _ _ us hl=>by obtain⟨z0,rfl⟩:=L3.len_1 hl;rfl
  obtain⟨_,_,IP,Kv,Kx,_⟩:=Hz.mk X G ["stand"] λ_ _ _ _ _ _ us hl=>by obtain⟨z0,rfl⟩:=L3.len_1 hl;rfl
  obtain⟨_,_,JX,Ls,Lu,_⟩:=IH.mk X G ["house","stand"] λ_ _ _ _ _ _ us hl=>by obtain⟨z0,z1,rfl⟩:=L3.len_2 hl;rfl
  obtain⟨_,_,KP,LC,LD,_⟩:=JC.mk X G ["house","stand","beat"] λ_ _ _ _ _ _ us hl=>by obtain⟨z0,z1,z2,rfl⟩:=L3.len_3 hl;rfl
  obtain⟨_,_,Jl,Ld,Le,⟨_,_,_,Lf⟩,Lg⟩:=Ie.mk X G ["rule","stand"] λ_ _ _ _ _ _ us hl=>by obtain⟨z0,z1,rfl⟩:=L3.len_2 hl;rfl
  obtain⟨_,_,KQ,LF,LG,⟨_,_,_,LH⟩,LI⟩:=JD.mk X G ["house","stand"] λ_ _ _ _ _ _ us hl=>by obtain⟨z0,z1,rfl⟩:=L3.len_2 hl;rfl
  obtain⟨_,_,KR,LJ,LK,_⟩:=JE.mk X G ["house","stand"] λ_ _ _ _ _ _ us hl=>by obtain⟨z0,z1,rfl⟩:=L3.len_2 hl;rfl
  obtain⟨_,_,LL,LR,LS,_⟩:=Lo.mk X G ["house","stand","beat"] λ_ _ _ _ _ _ us hl=>by obtain⟨z0,z1,z2,rfl⟩:=L3.len_3 hl;rfl
  obtain⟨_,_,JY,JZ,Lv,_,Lw⟩:=II.mk X G ["house","stand","beat"] λ_ _ _ _ _ _ us hl=>by obtain⟨z0,z1,z2,rfl⟩:=L3.len_3 hl;rfl
  obtain⟨_,_,Io,Ip,Ka,_,Kb⟩:=Hg.mk X G ["house","stand","beat"] λ_ _ _ _ _ _ us hl=>by obtain⟨z0,z1,z2,rfl⟩:=L3.len_3 hl;rfl
  obtain⟨_,_,IQ,IR,Ky,_,Kz⟩:=HA.mk X G ["house","stand","beat"] λ_ _ _ _ _ _ us hl=>by obtain⟨z0,z1,z2,rfl⟩:=L3.len_3 hl;rfl
  obtain⟨_,_,Kc,Kd,Ly,_,Lz⟩:=IJ.mk X G ["house","stand","beat"] λ_ _ _ _ _ _ us hl=>by obtain⟨z0,z1,z2,rfl⟩:=L3.len_3 hl;rfl
  obtain⟨_,_,HN,HP,JF,_,JG⟩:=GM.mk X G ["house","stand","beat"] λ_ _ _ _ _ _ us hl=>by obtain⟨z0,z1,z2,rfl⟩:=L3.len_3 hl;rfl
  obtain⟨_,_,IS,KA,KB,_⟩:=HB.mk X G ["beats"] λ_ _ _ _ _ _ us hl=>by obtain⟨z0,rfl⟩:=L3.len_1 hl;rfl
  obtain⟨_,_,FT,Ho,Hq,_⟩:=IK.mk X G ["house","beats","row","measure"] λ_ _ _ _ _ _ us hl=>by obtain⟨z0,z1,z2,z3,rfl⟩:=L3.len_4 hl;rfl
  obtain⟨_,_,IT,KC,KD,_⟩:=HC.mk X G ["house","beats","row"] λ_ _ _ _ _ _ us hl=>by obtain⟨z0,z1,z2,rfl⟩:=L3.len_3 hl;rfl
  obtain⟨_,_,Jm,Lh,Li,_⟩:=Ig.mk X G ["house","beats","row"] λ_ _ _ _ _ _ us hl=>by obtain⟨z0,z1,z2,rfl⟩:=L3.len_3 hl;rfl
  obtain⟨_,_,HQ,JH,JI,_⟩:=GN.mk X G ["house","beats","row"] λ_ _ _ _ _ _ us hl=>by obtain⟨z0,z1,z2,rfl⟩:=L3.len_3 hl;rfl
  obtain⟨_,_,IU,KF,KG,_⟩:=HD.mk X G ["house","beats","row"] λ_ _ _ _ _ _ us hl=>by obtain⟨z0,z1,z2,rfl⟩:=L3.len_3 hl;rfl
  obtain⟨_,_,IV,KH,KI,_⟩:=HE.mk X G ["house","beats","row"] λ_ _ _ _ _ _ us hl=>by obtain⟨z0,z1,z2,rfl⟩:=L3.len_3 hl;rfl
  obtain⟨_,_,IW,Ko,KJ,_⟩:=HF.mk X G ["_law_script"] λ_ _ _ _ _ _ us hl=>by obtain⟨z0,rfl⟩:=L3.len_1 hl;rfl
  obtain⟨_,_,IX,Kq,KL,_⟩:=HG.mk X G ["_law_feed_here","_law_many"] λ_ _ _ _ _ _ us hl=>by obtain⟨z0,z1,rfl⟩:=L3.len_2 hl;rfl
  obtain⟨_,_,Jn,KY,Lj,_⟩:=Ih.mk X G ["_law_top","_law_bottom"] λ_ _ _ _ _ _ us hl=>by obtain⟨z0,z1,rfl⟩:=L3.len_2 hl;rfl
  obtain⟨_,_,Hs,Ji,Jj,_⟩:=Gy.mk X G ["_law_house_here","_law_line_here","_law_beat_here"] λ_ _ _ _ _ _ us hl=>by obtain⟨z0,z1,z2,rfl⟩:=L3.len_3 hl;rfl
  obtain⟨_,_,Iq,JP,Ke,_⟩:=Hh.mk X G ["_law_rule","_law_one","_law_other"] λ_ _ _ _ _ _ us hl=>by obtain⟨z0,z1,z2,rfl⟩:=L3.len_3 hl;rfl
  obtain⟨_,_,Ir,JQ,Kf,_⟩:=Hi.mk X G ["_law_house_here","_law_line_here"] λ_ _ _ _ _ _ us hl=>by obtain⟨z0,z1,rfl⟩:=L3.len_2 hl;rfl
  obtain⟨_,_,IZ,Kr,KM,_⟩:=HH.mk X G ["_law_house_here","_law_line_here","_law_beat_here"] λ_ _ _ _ _ _ us hl=>by obtain⟨z0,z1,z2,rfl⟩:=L3.len_3 hl;rfl
  obtain⟨_,_,Ja,Ks,KN,_⟩:=HI.mk X G ["_law_stand"] λ_ _ _ _ _ _ us hl=>by obtain⟨z0,rfl⟩:=L3.len_1 hl;rfl
  obtain⟨_,_,Iu,JR,Kg,_⟩:=Hj.mk X G ["_law_feed_here","_law_most"] λ_ _ _ _ _ _ us hl=>by obtain⟨z0,z1,rfl⟩:=L3.len_2 hl;rfl
  obtain⟨_,_,Iv,JS,Kh,_⟩:=Hl.mk X G ["_law_feed_here","_law_many","_law_most","_law_works"] λ_ _ _ _ _ _ us hl=>by obtain⟨z0,z1,z2,z3,rfl⟩:=L3.len_4 hl;rfl
  obtain⟨_,_,GB,HY,Il,_⟩:=Gb.mk X G ["_law_feed_here","_law_house_here","_law_most","_law_lefts"] λ_ _ _ _ _ _ us hl=>by obtain⟨z0,z1,z2,z3,rfl⟩:=L3.len_4 hl;rfl
  obtain⟨_,_,Jb,Kt,KO,_⟩:=HJ.mk X G ["_law_feed_here","_law_house_here","_law_many","_law_most"] λ_ _ _ _ _ _ us hl=>by obtain⟨z0,z1,z2,z3,rfl⟩:=L3.len_4 hl;rfl
  obtain⟨_,_,Jo,KZ,Lk,_⟩:=Ii.mk X G ["_law_pairs"] λ_ _ _ _ _ _ us hl=>by obtain⟨z0,rfl⟩:=L3.len_1 hl;rfl
  obtain⟨_,_,Jp,La,Ll,_⟩:=Ij.mk X G ["_law_house_here","_law_beats_here","_law_lots_here"] λ_ _ _ _ _ _ us hl=>by obtain⟨z0,z1,z2,rfl⟩:=L3.len_3 hl;rfl
  have Flaw:=fun_mk (st:=FA) llaw claw klaw;have blaw:=Flaw.binds (ps:=["_law_script"]) λ_ _ _ _ _ _ us hl=>by obtain⟨z0,rfl⟩:=L3.len_1 hl;rfl
  have mlaw:=Qy X G alaw;refine⟨PySem.W.fnOf "law" "law" (defArgs FA) (defBody FA) (defScope FA) .none kVlaw dclaw pmlaw anlaw cdlaw ctlaw,λs v=>.of_eq rfl,λbase _ _ BM hC=>?_⟩;have FY:L3.FnG K mg "lost_in":=⟨_,JZ,Lw⟩;have FK:L3.FnG K mg "entered_in":=⟨_,Ip,Kb⟩;have FP:L3.FnG K mg "picked_in":=⟨_,IR,Kz⟩;have FZ:L3.FnG K mg "gone_in":=⟨_,Kd,Lz⟩;have FD:L3.FnG K mg "work_let_in":=⟨_,HP,JG⟩;have FB:=L3.cal l.prog w base (HM GO T ) Iy GO Iz;have Hw:=L3.cal l.prog w base (JJ Jk T FB) Lb Jk Lc;have Fy:=L3.cal l.prog w base (Kj JU T Hw) Lp JU Lq;have Gf:=L3.cal l.prog w base (HV Hn T FB) IL Hn IM;have Fo:=L3.cal l.prog w base (Jc Im T Gf) JV Im JW;have Hr:=L3.cal l.prog w base (Ln Lr T ) LN Lr LO;have Gs:=L3.cal l.prog w base (Jr IP T ) Kv IP Kx;have HW:=L3.cal l.prog w base (Kk JX T ) Ls JX Lu;have FJ:=L3.cal l.prog w base (KS KP T ) LC KP LD;obtain⟨Gj,LQ,Ki⟩:=L3.lamB_mk (mg:=mg) (base:=base) Lg Lf (by decide) Hm hnd BM hC;have Hx:=L3.cal l.prog w base (JK Jl T Ki ) Ld Jl Le;obtain⟨GP,LU,Lm⟩:=L3.lamB_mk (mg:=mg) (base:=base) LI LH (by decide) Ik hnd BM hC;have IB:=L3.cal l.prog w base (KU KQ T Lm Hx Hr) LF KQ LG;have ID:=L3.cal l.prog w base (KW KR T IB Hr) LJ KR LK;have Kn:=L3.cal l.prog w base (LA LL T FJ ID) LR LL LS;have Gi:=L3.cal l.prog w base (Kl JY T FJ) JZ JY Lv;have GH:=L3.cal l.prog w base (Jd Io T Gi) Ip Io Ka;have GY:=L3.cal l.prog w base (Js IQ T HW FJ) IR IQ Ky;have HX:=L3.cal l.prog w base (Km Kc T Kn) Kd Kc Ly;have Gx:=L3.cal l.prog w base (IE HN T Gs FJ) HP HN JF;have Fs:=L3.cal l.prog w base (Jt IS T Fy) KA IS KB;have FQ:=L3.cal l.prog w base (GX FT T Fy Fo Gi FY) Ho FT Hq;have Fq:=L3.cal l.prog w base (Ju IT T FQ FY) KC IT KD;have FH:=L3.cal l.prog w base (GA FT T Fy Fo GH FK) Ho FT Hq;have Fx:=L3.cal l.prog w base (JL Jm T FH FK) Lh Jm Li;have FL:=L3.cal l.prog w base (GJ FT T Fy Fo GY FP) Ho FT Hq;have Fh:=L3.cal l.prog w base (IF HQ T FL FP) JH HQ JI;have FR:=L3.cal l.prog w base (GZ FT T Fy Fo HX FZ) Ho FT Hq;have Fu:=L3.cal l.prog w base (Jv IU T FR FZ) KF IU KG;have FE:=L3.cal l.prog w base (Gw FT T Fy Fo Gx FD) Ho FT Hq;have Ft:=L3.cal l.prog w base (Jw IV T FE FD) KH IV KI;have JT:=L3.cal l.prog w base (Jx IW T) Ko IW KJ;have Ff:=L3.cal l.prog w base (Jy IX T ) Kq IX KL;have Ga:=L3.cal l.prog w base (JM Jn T ) KY Jn Lj;have FF:=L3.cal l.prog w base (Iw Hs T ) Ji Hs Jj;have GK:=L3.cal l.prog w base (Je Iq T ) JP Iq Ke;have GL:=L3.cal l.prog w base (Jf Ir T GK) JQ Ir Kf;have He:=L3.cal l.prog w base (Jz IZ T FF GL) Kr IZ KM;have Hd:=L3.cal l.prog w base (JA Ja T ) Ks Ja KN;have Fj:=L3.cal l.prog w base (Jg Iu T Ff) JR Iu Kg;have Fm:=L3.cal l.prog w base (Jh Iv T Ff) JS Iv Kh;have FU:=L3.cal l.prog w base (Hy GB T Ff) HY GB Il;have Fp:=L3.cal l.prog w base (JB Jb T Ff FU) Kt Jb KO;have Fv:=L3.cal l.prog w base (JN Jo T Ga) KZ Jo Lk;have Fw:=L3.cal l.prog w base (JO Jp T Hd FF He Ga) La Jp Ll;exact LM Flaw T JT Fj Fm Ff Fp Fv Fw Fx Fq Fs Ft Fu Fh (λns _=>fin ns)
def walk {l:PySem.W.OpenLaw}{q:RF}{loose:List Str}{XP:(Str->Option RC)->RM->Prop}{YP:RG->RM->Prop}{d:DefRec}{K:Params->PySem.W.Frag}(hn:l.most=some 63)(hdf:d.params.defaults=[])
  (hrec:((["lined_up","picked"]:List Str).all λx=>((PyProof.Rows.recsOf q).find? λe=>e.name == x).isSome)=true) (hnt:∀w:RG,PySem.W.noTabs (K w.params)=true)
  (hY:∀(w:RG) (h:RM),YP w h->(K w.params).In h)
  (F:∀(w:RG) (mg:Str->Option RC) (fa:RD) (h:RM),(K w.params).In h->h.Ns RU mg->mg d.name=some (.ref fa) ->
   ∃fd:RJ,(∀(s:RE) (u:RC),BindsTo s fd ⟨[u],[]⟩ [("_law_script",u)])/\∀base:RM,(K w.params).In base->base.Ns RU mg->BMd base mg->(∀t∈L3.tabsK (["lined_up","picked"]:List Str) (K w.params),PySem.W.CodeHd base t.2.1 t.2.2)->FnOk l.prog w (K w.params) mg base CX0 8 fa fd ["_law_script"] (spLaw (K w.params))) :
  PySem.W.WalkO q loose XP YP l.row.toRowW d [] (λf vs=>PySem.call f vs) :=
 L3.walk_ofT (["lined_up","picked"]:List Str) (n:=63) (k:=8) (x:="_law_script") (CX:=λ_=>CX0) (sp:=λw=>spLaw (K w.params)) hn (by decide) hdf ⟨rfl,by decide,by decide,rfl⟩ hrec hnt hY F (λ_ _ a ns hl hS hT=>⟨a,ns,rfl,hS,hl,hT,λ_=>rfl⟩) λ_ _ _ _ _ z=>z
end K40
open PySem PySem.W PyProof.Rows
set_option maxRecDepth 100000 in
set_option maxHeartbeats 0 in
theorem PySem.Challenge.cw_hatchwaits_k40_means_of_a_beat_holds : PySem.Challenge.rw_hatchwaits_k40_means_of_a_beat.Holds := by
 w_on;o_law;k_head;(case hw=>w_witness2);k_fill;refine K40.walk (l:=PySem.Challenge.rw_hatchwaits_k40_means_of_a_beat) rfl rfl (by first | rfl | kernel_rfl) (by intro w;first | kernel_rfl | with_unfolding_all rfl) (λw h Y=>PySem.W.km_in_of Y) ?F;case F =>
  intro w mg fa h KX G hmg
  refine' K40.all_mk KX G hmg ?alaw ?llaw ?claw ?klaw ?Gg ?HZ ?IG ?Gm ?Hf ?Ku ?Hz ?IH ?JC ?Ie ?JD ?JE ?Lo ?II ?Hg ?HA ?IJ ?GM ?HB ?IK ?HC ?Ig ?GN ?HD ?HE ?HF ?HG ?Ih ?Gy ?Hh ?Hi ?HH ?HI ?Hj ?Hl ?Gb ?HJ ?Ii ?Ij ?zabs ?zenumerate ?zint ?zlen ?zlist ?zmin ?zrange ?zrepr ?zsorted ?zsum ?ztuple ?zzip ?ga_KEEPING ?gl_KEEPING ?gq_KEEPING ?Hm ?Ik ?hnd0
  (case alaw=>k_is)
  (case llaw=>k_is)
  (case claw=>k_is)
  (case klaw=>k_is)
  (case Gg=>exact .of (by k_is) (by k_is) (by k_is) (by k_is))
  (case HZ=>exact .of (by k_is) (by k_is) (by k_is) (by k_is))
  (case IG=>exact .of (by k_is) (by k_is) (by k_is) (by k_is))
  (case Gm=>exact .of (by k_is) (by k_is) (by k_is) (by k_is))
  (case Hf=>exact .of (by k_is) (by k_is) (by k_is) (by k_is))
  (case Ku=>exact .of (by k_is) (by k_is) (by k_is) (by k_is))
  (case Hz=>exact .of (by k_is) (by k_is) (by k_is) (by k_is))
  (case IH=>exact .of (by k_is) (by k_is) (by k_is) (by k_is))
  (case JC=>exact .of (by k_is) (by k_is) (by k_is) (by k_is))
  (case Ie=>exact .of (by k_is) (by k_is) (by k_is) (by k_is))
  (case JD=>exact .of (by k_is) (by k_is) (by k_is) (by k_is))
  (case JE=>exact .of (by k_is) (by k_is) (by k_is) (by k_is))
  (case Lo=>exact .of (by k_is) (by k_is) (by k_is) (by k_is))
  (case II=>exact .of (by k_is) (by k_is) (by k_is) (by k_is))
  (case Hg=>exact .of (by k_is) (by k_is) (by k_is) (by k_is))
  (case HA=>exact .of (by k_is) (by k_is) (by k_is) (by k_is))
  (case IJ=>exact .of (by k_is) (by k_is) (by k_is) (by k_is))
  (case GM=>exact .of (by k_is) (by k_is) (by k_is) (by k_is))
  (case HB=>exact .of (by k_is) (by k_is) (by k_is) (by k_is))
  (case IK=>exact .of (by k_is) (by k_is) (by k_is) (by k_is))
  (case HC=>exact .of (by k_is) (by k_is) (by k_is) (by k_is))
  (case Ig=>exact .of (by k_is) (by k_is) (by k_is) (by k_is))
  (case GN=>exact .of (by k_is) (by k_is) (by k_is) (by k_is))
  (case HD=>exact .of (by k_is) (by k_is) (by k_is) (by k_is))
  (case HE=>exact .of (by k_is) (by k_is) (by k_is) (by k_is))
  (case HF=>exact .of (by k_is) (by k_is) (by k_is) (by k_is))
  (case HG=>exact .of (by k_is) (by k_is) (by k_is) (by k_is))
  (case Ih=>exact .of (by k_is) (by k_is) (by k_is) (by k_is))
  (case Gy=>exact .of (by k_is) (by k_is) (by k_is) (by k_is))
  (case Hh=>exact .of (by k_is) (by k_is) (by k_is) (by k_is))
  (case Hi=>exact .of (by k_is) (by k_is) (by k_is) (by k_is))
  (case HH=>exact .of (by k_is) (by k_is) (by k_is) (by k_is))
  (case HI=>exact .of (by k_is) (by k_is) (by k_is) (by k_is))
  (case Hj=>exact .of (by k_is) (by k_is) (by k_is) (by k_is))
  (case Hl=>exact .of (by k_is) (by k_is) (by k_is) (by k_is))
  (case Gb=>exact .of (by k_is) (by k_is) (by k_is) (by k_is))
  (case HJ=>exact .of (by k_is) (by k_is) (by k_is) (by k_is))
  (case Ii=>exact .of (by k_is) (by k_is) (by k_is) (by k_is))
  (case Ij=>exact .of (by k_is) (by k_is) (by k_is) (by k_is))
  (case zabs=>k_is)
  (case zenumerate=>k_is)
  (case zint=>k_is)
  (case zlen=>k_is)
  (case zlist=>k_is)
  (case zmin=>k_is)
  (case zrange=>k_is)
  (case zrepr=>k_is)
  (case zsorted=>k_is)
  (case zsum=>k_is)
  (case ztuple=>k_is)
  (case zzip=>k_is)
  (case ga_KEEPING=>k_is)
  (case gl_KEEPING=>k_is)
  (case gq_KEEPING=>first | rfl | k_is | with_unfolding_all rfl)
  (case Hm=>first | kernel_rfl | with_unfolding_all rfl)
  (case Ik=>first | kernel_rfl | with_unfolding_all rfl)
  (case hnd0=>first | kernel_rfl | with_unfolding_all rfl)
