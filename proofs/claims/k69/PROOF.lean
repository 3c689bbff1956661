import PyProof.Rows.All
import Wide.All
import OpenK.AllK
import Wide.FinOn
import Lean
import PyProof.EqAt
import PyProof.EqKinds
import PyProof.TupleCall
import PyProof.Rows.EqDataRows
import PyProof.Rows.InDataRows
import PyProof.StrLawsRepr
import PyProof.AutoListH
import PyProof.TupleKey
import PyProof.P3Eq
import PyProof.FString2
import PyProof.FactsAll.bool
import KE.KDictList
import PyProof.Rows.RuleB_bool
import PySem.Challenge.RW_hatchwaits_k69_whole_rests_runs_swings
set_option genInjectivity false in
set_option genSizeOf false in
local macro_rules|`(universe $i*)=>do return .node .none `null (← i.mapM λx=>do `(theorem $x:ident:True:=trivial))
namespace PySem.W.Fast
universe tw334342872313341890 tw5768682970919963890 tw7438237586002023584 tw10943184284875378791 tw1041332683023794614 tw9456252722972543489 tw1864606014645831150 tw9642605860433875275 tw7693963364845387152 tw14351000941401207917 tw12430409401524577574 tw5665595176005029423 tw14014545495216953355 tw12683839996997703640 tw7543395422504032403 tw1692188623655560039 tw3421150429692734419 tw615770085240012405 tw12315149971018602091 tw51257836131360878 tw5579616756270414922 tw11455363929744615972 tw5208591392321847014 tw7085121461349985015 tw8697717503728746646 tw15734341827078545022 tw18002009375446098411 tw214175549324643776 tw496141162664207789 tw5345378369976579638 tw13146090209467469769 tw15772013380146018030 tw5375784023978753683 tw9424715263889921621 tw17035262402956699085 tw2883313913627640697 tw16307230138290008839 tw13014851497341311352 tw15224263185354212855 tw7323439001878168565 tw13260920337250607415 tw17047863343124904192 tw15880798898884446198 tw5843740455731666139 tw14813402676605438056 tw2487697727063976581 tw15518174353747012566 tw5978688328268378761 tw16159609537225977835 tw13339567068934385608 tw2388637650903471040 tw10568128246139734324 tw11912348876208987349 tw12082267637404973646 tw5944187674982225444 tw5024389537557778401 tw9601471657964402641 tw170418998744529240 tw4248894122210496328 tw4471083632654096922 tw8889839609399149836 tw10534617044195106446 tw3715158451916094001 tw3181867326710062365 tw8055639545136288811 tw10476427751884197967 tw6675140635956113013 tw10596014979487168497 tw13589665884155371649 tw3694829827792762449 tw5610699971712671954 tw9424040303599940711 tw14545132436673674327 tw18064560777066467398 tw5150774071131342988 tw10898061687400618896 tw6016299615429805736 tw14185618128628689692 tw14042467178175463403 tw18234534895858982963 tw14329345454716500233 tw1213520279030863498 tw1276879463401849466 tw7801566799418294596 tw13087250117264982054 tw18446688163980515789 tw3655853578409453380 tw14238125530931154443 tw17840320836653197404 tw11585260873661296831 tw18417212171404952689 tw917565320549052462 tw1955771139621208317 tw1842369465512024911 tw9449451277391874231 tw5104553401583049852 tw13635151174256718617 tw1919256537972819090 tw14583156951323576832 tw2311562403293855385 tw6016708774156609618 tw8654565873154845762 tw15381277766226443677 tw12042213054134804159 tw1791260493069506894 tw9988561953020398351 tw9341867731481078580 tw8077469378287514414 tw4998617722189557229 tw7558524127935047980 tw4640660026489493359 tw5226264702143237014 tw8865025170509101281 tw822189534651016960 tw14256958443405616641 tw777065578861059218 tw1117394485882105803 tw8378773155535837163 tw10140774129784648798 tw11988642979877436006 tw12884876799720801687 tw10474625616415475719 tw289673411972378044 tw15716752830266796209 tw14166990883868423361 tw17574080002517668011 tw9204663429713186180 tw3091598044292909529 tw11567296311115444849 tw2322948198469860654 tw9872659932621452335 tw10032650166556957271 tw7415025588388010909 tw3060429087435364861 tw17181892442542470294 tw15308641944769559574 tw13769611773059183343 tw2882340940868516597 tw6440148715577778631 tw4751990876344008913 tw2613315126434822142 tw9393666398270841600 tw955289545637488364 tw16747732686851452126 tw17759389540603080646 tw2038515493546254462 tw14702675625193174205 tw17768331309012191735 tw18137149981838098012 tw4339133984324725822 tw9516098219407940244 tw10300372227066926974 tw12233296959050828649 tw7305723896215315561 tw5247308004753702406 tw3856724931558989655 tw11156771024798991110 tw11077854055076671778 tw3260463015859712769 tw11339539103453679946 tw7639438416396582259 tw6701048787027617645 tw938525929369398244 tw1797174140925274284 tw7329038855895871734 tw17565932480096692419 tw5714848962224141747 tw6989761472616693287 tw4909851338268158135 tw4607588733007591813 tw15261618072792295427 tw12310111489083540794 tw2661612449656565678 tw17226309298603022203 tw7352338277651899394 tw13091566919948153877 tw866368885716365333 tw11226154075989521573 tw4539936488473077807 tw12308767895654918624 tw39772100367893830 tw8268495855460765655 tw1436753494287843460 tw8189304156610737680 tw15185966179335502171 tw4140868237816902570 tw6111605882957468938 tw4381105979765670863 tw7104998922283736308 tw12826381382685922297 tw5147932290760444438 tw9228467172803664689 tw18251006237498917663 tw8361281439754893872 tw7878909570396763635 tw9447065994452523108 tw15537558720623459935 tw13621184730461338550 tw9641579594065881218 tw15285324109487114288 tw6602795131854663777 tw1315892224514501413 tw738544527633647027 tw17052550563470223918 tw20177282647736145 tw12975171761186200886 tw8704304004624348610 tw4185114568914706506 tw6770771625372950449 tw11843695711197081016 tw8969710722023614558 tw10566537597040070688 tw2069165177690372233 tw12628722643753296524 tw3957006055998036644 tw3811844791641918660 tw17042520541888201198 tw847836974530437767 tw1963947849223123130 tw17862291215742800331 tw9359342726267523336 tw1409256093130734078 tw8389542873471241307 tw8028130409580438138 tw5504937272970645937 tw11853055649949650998 tw12774564589377698290 tw4839720438070901392 tw11693457418012547034 tw14391334771041081100 tw2476701152556769445 tw1940646768089037243 tw1636863866319569490 tw2794096332649139730 tw3673238515581581979 tw12062406994431766356 tw1562801841364299304 tw12691869987842524717 tw11732816397817194295 tw15390726438275462155 tw17952569908303092972 tw14561806182238748511 tw10117385739745814001 tw11272091035753397483 tw1279413613759047582 tw5194665433377149612 tw7052330611307081848 tw1713045966144352428 tw8687223747305291047 tw11646625219457266487 tw12342854490196812396 tw1884763054234332276 tw16233341158821296354 tw18194294864146080369 tw10782364254998325134 tw4815871102703997359 tw13532829336454066559 tw9184769126016540124 tw7437698012634479237 tw4202816836553363310 tw15584355266112356786 tw5073231082262590689 tw7502227346245105933 tw11370806539743353013 tw12661956421192214788 tw6080248481886620663 tw15111856521248669903 tw15157533181007655173 tw16340160272220822666 tw14081904653295775402 tw1162625916822121173 tw5271163914382497980 tw1811488403550710208 tw5843458111270200562 tw13960877353227455872 tw2676826339350847109 tw7056782320133242132 tw4160168590103276287 tw4116232945544483582 tw14548826707023508050 tw10679221503083698050 tw4018111527624929822 tw10258154654524013100 tw10457028332976034277 tw7727665104359748094 tw9684687973382691203 tw367886991433237129 tw3922881067553649240 tw1556492988763117192 tw12989120525631206982 tw15168183509680253897 tw8581441359353592703 tw10633447766290587881 tw802626036601517035 tw4386749906648412543 tw16120556275433152373 tw8957924851208616262 tw14338389281350056296 tw16513484229382966306 tw17519837960660593626 tw16749724903441905570 tw8260615352183219010 tw18149423571147283913 tw17860518925202597157 tw1808085722264203098 tw5642657332923303116 tw15465435085461347906 tw2463880095909589233 tw13476114885882049906 tw10123520660229464029
end PySem.W.Fast
abbrev Qf:=PySem.W.Frag
open PySem renaming PyData->My,Value->Xx,Addr->Xy,Shared->Xz,Program->XA,World->XB,Around->XC,Scope->XD,FuncData->XE,Stmt->XF,Expr->XG,Heap->XH,sizeLine->XI,starEach->XJ,Obj->XM,Env->XN,backTo->XO,Keyword->XQ,wpAny->XR,mainGlobals->XS,swapsWith->XT,attributeBase->XU,bootBuiltins->XW,foldedSetIterable->XX,assignEach->XY,cLine->XZ,NameKind->Yb,backToKw->Yc,keywordEach->Yd
open PyProof.Rows renaming Keyed->Ya
set_option linter.defProp false
set_option compiler.extract_closed false
set_option genInjectivity false
set_option genSizeOfSpec false
set_option bootstrap.genMatcherCode false
noncomputable section
local macro_rules|`(tactic|walk_at "j")=>`(tactic|first|assumption|exact Nat.zero_le _|exact Nat.le_refl _|exact Nat.le_of_lt (by assumption)|exact Nat.succ_pos _|exact Nat.lt_succ_self _|exact Nat.le_succ _|exact Nat.lt_succ_of_le (by assumption)|exact Nat.lt_succ_of_lt (by assumption)|exact Nat.le_succ_of_le (by assumption)|exact Nat.le_trans (by assumption) (by assumption)|exact Nat.lt_of_lt_of_le (by assumption) (by assumption)|exact Nat.lt_of_le_of_lt (by assumption) (by assumption)|exact Int.le_of_lt (by assumption)|exact Int.le_trans (by assumption) (by assumption)|decide|simp)
local macro_rules|`(def $i:declId $s:optDeclSig $v:declVal)=>`(noncomputable def $i:declId $s:optDeclSig $v:declVal)
theorem eH0 (h:True:=by rfl):True:=h
abbrev eH:=eH0._auto_1
theorem eL0 (h:True:=by decide):True:=h
abbrev eL:=eL0._auto_1
theorem eM0 (h:True:=by walk_at "v"):True:=h
abbrev eM:=eM0._auto_1
theorem eN0 (h:True:=by first | exact Or.inl rfl | exact Or.inr (Or.inl rfl) | exact Or.inr<|Or.inr rfl):True:=h
abbrev eN:=eN0._auto_1
theorem eT0 (h:True:=by intro _;rfl):True:=h
abbrev eT:=eT0._auto_1
theorem oD0 (h:True:=by intros;rfl):True:=h
abbrev oD:=oD0._auto_1
theorem gV0 (h:True:=by first | exact cG _ | rfl):True:=h
abbrev gV:=gV0._auto_1
theorem kS0 (h:True:=by exact {}):True:=h
abbrev kS:=kS0._auto_1
local macro_rules|`(#v[$a,*])=>`(⟨$a,*⟩)
def QD:=@PySem.wpAny_bind
def QE:=@PySem.Heap.get?_push_of_some
def QF:=@PySem.wpAny_pure
def QG:=@List.mem_cons_of_mem
def QH:=@if_pos
def QI:=@List.length_map
def QJ:=@PySem.Heap.lt_size
def QK:=@if_neg
def QL:=@List.map_cons
def QM:=@List.length_cons
def QN:=@List.mem_cons_self
def QO:=@Nat.lt_of_lt_of_le
def QP:=@Nat.le_refl
def QQ:=@List.mem_cons
def QR:=@List.getElem?_eq_some_iff
def QS:=@List.getElem?_set_ne
def QT:=@List.getElem?_eq_getElem
def QU:=@Option.some.inj
def QV:=@PySem.Heap.get?_push_size
def QW:=@List.getElem?_set_self
def QX:=@Option.bind_some
def QY:=@Nat.ne_of_lt
def QZ:=@Nat.le_trans
def Ra:=@Nat.lt_of_le_of_lt
def Rb:=@List.size_toArray
def Rc:=@List.getElem?_map
def Re:=@Option.map_eq_some_iff
def Rf:=@Nat.pow_le_pow_right
def Rg:=@decide_eq_true
def Rh:=@of_decide_eq_true
def Ri:=@Bool.false_ne_true
def Rj:=@PySem.wpAny_mono
def Rk:=@decide_eq_false
def Rl:=@List.getD_eq_getElem?_getD
def Rn:=@List.mem_singleton
def Ro:=@Bool.false_eq_true
def Rp:=@List.mem_append_right
def Rq:=@List.map_map
def Rr:=@Nat.ne_of_gt
def Rt:=@List.mem_map
def Ru:=@List.cons_append
def Rv:=@List.find?_cons_of_pos
def Rw:=@List.find?_cons_of_neg
def Rx:=@Nat.zero_add
def Ry:=@PySem.sizeLine_eq
def Rz:=@List.drop_eq_getElem_cons
def RA:=@List.mem_of_getElem?
def RB:=@Int.pow_succ
def RC:=@List.nil_append
def RD:=@Int.mul_nonneg
def RE:=@PySem.W.mg_none_of
def RF:=@PySem.wpAny_field
def RG:=@PySem.Heap.size_push
def RH:=@Nat.pow_lt_pow_right
def RI:=@PySem.wpAny_newObj_type
def RJ:=@Nat.le_of_lt
def RK:=@List.map_nil
def RL:=@Int.mul_le_mul_of_nonneg_left
def RM:=@Ne.symm
def RN:=@List.lookup_cons
def RO:=@PySem.wpAny_call_entry
def RP:=@PyProof.Rows.wpS_bind
def RQ:=@Int.toNat_natCast
def RR:=@PySem.Heap.get?_update_self
def RS:=@Array.length_toList
def RT:=@PySem.Heap.get?_update_other
def RU:=@if_false
def RV:=@List.length_nil
def RW:=@List.length_append
def RX:=@of_decide_eq_false
def RY:=@Int.pow_pos
def RZ:=@PySem.mem_of_lookup
def Sa:=@Int.le_of_lt
def Sb:=@Nat.zero_le
def Sd:=@List.append_nil
def Se:=@List.length_set
def Sf:=@List.replicate_succ
def Sg:=@List.not_mem_nil
def Sj:=@List.sum_cons
def Sk:=@List.getElem?_replicate
def Sl:=@PySem.wpAny_callSpecial?_slot
def Sn:=@congrArg
def So:=@PySem.wpAny_seqItems
def Sq:=@PySem.wpAny_holding
def Sr:=@PySem.W.kia_one
def Su:=@Option.isSome_iff_exists
def Sv:=@PySem.Heap.get?_update_ne
def Sw:=@List.map_append
def Sx:=@Nat.lt_succ_self
def Sy:=@PyProof.Rows.wpS_pure
def SA:=@if_true
def SC:=@List.getElem?_eq_none_iff
def SD:=@PySem.wpAny_truthy_bool
def SE:=@PySem.F.slot_dict_keyiterator_next
def SF:=@PySem.wpAny_setField_rec
def SI:=@List.getElem_mem
def SJ:=@List.take_length
def SK:=@Nat.lt_succ_of_lt
def SL:=@beq_eq_false_iff_ne
def SM:=@List.length_reverse
def SN:=@List.map_congr_left
def SQ:=@Int.mul_le_mul_of_nonneg_right
def SR:=@Classical.byContradiction
def SS:=@List.getElem?_eq_none
def SU:=@PySem.wpAny_pyIter_tuple
def SW:=@PySem.W.mg_of
def SX:=@List.mem_append_left
def SY:=@List.flatten_cons
def SZ:=@decide_eq_true_eq
def Ta:=@PyProof.Rows.callWith_type1
def Tb:=@Rat.den_intCast
def Tc:=@List.getElem?_range
def Td:=@Nat.add_le_add_left
def Te:=@Rat.intCast_natCast
def Tf:=@Nat.lt_irrefl
def Tg:=@PySem.wpAny_standAt
def Th:=@PySem.wpAny_rule
def Tj:=@List.getElem?_append_right
def To:=@Bool.not_true
def Tq:=@PySem.F.slot_tuple_iterator_next
def Ts:=@List.length_replicate
def Tt:=@Array.getElem?_toList
def Tu:=@List.pairwise_cons
def Tv:=@List.getElem?_append_left
def Tw:=@PySem.wpAny_execs_nil
def Tx:=@List.nodup_cons
def Tz:=@List.find?_cons
def TB:=@PySem.wpAny_specialOf
def TC:=@PySem.Around.under_plainId
def TF:=@Nat.mul_le_mul_right
def TH:=@PySem.wpAny_typeNameOfWhole_keyiter
def TJ:=@List.getElem?_cons_succ
def TK:=@List.filterMap_cons
def TL:=@Bool.and_eq_true
def TN:=@List.getElem_map
def TQ:=@PySem.SeqAt.canLay_of_shaped
def TR:=@Nat.mul_le_mul
def TU:=@Rat.mkRat_eq_div
def TV:=@Int.le_refl
def TX:=@List.drop_of_length_le
def TY:=@Nat.pow_add
def TZ:=@Rat.normalize_eq_mkRat
def Ua:=@Int.mul_pos
def Ub:=@PySem.wpAny_Call_Name_kw
def Uc:=@PySem.Obj.data_mapFields
def Ud:=@PySem.F.slot_enumerate_next
def Ue:=@Int.natAbs_natCast
def Ug:=@PySem.wpAny_passesOwn
def Uh:=@PySem.F.slot_dict_get
def Ui:=@List.getElem?_toArray
def Uj:=@Classical.choose_spec
def Uk:=@PySem.wpAny_updateSeq
def Ul:=@Rat.num_intCast
def Um:=@PySem.Paired.length
def Uo:=@or_false
def Uq:=@PySem.wpAny_attempt
def Ur:=@List.append_assoc
def Us:=@Option.isSome_map
def Ut:=@List.take_add_one
def Uu:=@List.length_range
def Uv:=@List.pairwise_iff_getElem
def Uw:=@Int.pow_add
def Ux:=@PySem.wpAny_setField
def Uy:=@PySem.wpAny_isInstance
def Uz:=@PySem.wpAny_typeNameOf_keyiter
def UA:=@PySem.AutoSeq1.sub_tuple_tuple
def UB:=@List.all_eq_true
def UC:=@PySem.F.plain_max_loop
def UD:=@PySem.Heap.SameBut.update
def UE:=@PyProof.Rows.slot_tuple_getitem
def UF:=@List.length_eq_zero_iff
def UG:=@PySem.plainId_quiet
def UH:=@List.mem_append
def UI:=@PySem.Calls.spliced_cons
def UJ:=@Option.map_some
def UK:=@List.zip_cons_cons
def UL:=@Nat.not_lt_zero
def UM:=@PySem.codeAny_builtin
def UN:=@Option.toList_some
def UO:=@Rat.div_mul_cancel
def UP:=@PySem.W.cellsFrom_some
def UQ:=@PySem.Calls.callWith_builtin
def UR:=@PySem.wpAny_letGo
def US:=@Nat.lt_trans
def UT:=@PySem.F.slot_zip_next
def UU:=@Nat.lt_or_ge
def UV:=@Nat.le_of_ble_eq_true
def UW:=@Int.natAbs_mul
def UX:=@PySem.wpAny_loadName_local
def UY:=@PySem.wpAny_call
def UZ:=@PySem.call_meets
def Va:=@Nat.not_lt
def Vb:=@PySem.wpAny_callSpecialIfBoundUnlessNone?_slot
def Vc:=@PySem.F.slot_tuple_mul
def Vd:=@List.drop_length
def Ve:=@Array.getElem?_eq_some_iff
def Vf:=@decide_true
def Vg:=@Nat.le_succ
def Vh:=@List.length_pos_iff
def Vi:=@List.mem_map_of_mem
def Vj:=@PySem.F.plain_extend_loop
def Vk:=@Nat.mul_le_mul_left
def Vl:=@Bool.eq_iff_iff
def Vm:=@List.getElem?_zip_eq_some
def Vn:=@PySem.F.args_tuple_add_2
def Vo:=@PySem.wpAny_comprehension_free
def Vp:=@PyProof.Rows.wpS_forRange
def Vq:=@List.getElem_range
def Vr:=@PySem.F.args_dict_keyiterator_next_1
def Vs:=@List.set_cons_zero
def Vt:=@List.set_cons_succ
def Vu:=@PySem.W.Looks.ld
def Vv:=@PySem.W.looks_findIn
def Vw:=@PyProof.Rows.Reads.keeps
def Vx:=@List.mem_range
def Vy:=@PySem.F.entry_dict_keyiterator_next
def Vz:=@PySem.F.slot_dict_itemiterator_iter
def VA:=@PySem.wpAny_tryCatch
def VB:=@Rat.not_lt
def VC:=@PySem.F.entry_tuple_add
def VD:=@PySem.F.args_dict_get_3
def VE:=@PySem.F.plainAttrs_dict
def VF:=@PySem.AutoSeq1.sub_tuple_list
def VG:=@PySem.AutoSeq1.sub_list_tuple
def VH:=@List.reverse_cons
def VI:=@PySem.F.slot_tuple_hash
def VJ:=@Option.some.injEq
def VL:=@PySem.F.args_tuple_iterator_next_1
def VM:=@Int.gcd_dvd_right
def VN:=@Int.mul_one
def VO:=@PySem.F.slot_tuple_add
def VP:=@PySem.F.entry_dict_get
def VQ:=@List.take_of_length_le
def VR:=@PySem.AutoSeq1.sub_list_list
def VS:=@PySem.F.entry_tuple_iterator_next
def VT:=@PySem.intItems_at
def VU:=@PySem.wpAny_execs_cons
def VW:=@List.length_take
def VX:=@PySem.Heap.size_update
def VY:=@PySem.wpAny_forIn_list
def VZ:=@PySem.F.slot_bool_hash
def Wa:=@List.filter_cons
def Wb:=@PySem.Obj.isFreed_of_fields
def Wc:=@List.sizeOf_lt_of_mem
def We:=@List.mem_filter
def Wf:=@PySem.codeAny_mono
def Wg:=@List.of_mem_zip
def Wh:=@PySem.Calls.evalArgs_plain
def Wi:=@List.foldl_cons
def Wj:=@PySem.F.slot_int_rmul
def Wk:=@List.forIn_cons
def Wl:=@decide_false
def Wm:=@PyProof.Rows.pairsOf_size
def Wn:=@PySem.wpAny_ite_false
def Wo:=@PySem.wpAny_updateSeq_pair
def Wp:=@PySem.codeAny_call_builtin
def Wq:=@Int.mul_comm
def Wr:=@Nat.mul_ne_zero
def Ws:=@List.mem_of_mem_take
def Wu:=@Nat.dvd_refl
def Wv:=@Rat.num_natCast
def Ww:=@Rat.den_natCast
def Wx:=@Rat.mul_le_mul_of_nonneg_right
def Wy:=@PySem.F.args_enumerate_next_1
def Wz:=@Rat.mul_le_mul_of_nonneg_left
def WA:=@Bool.false_and
def WB:=@List.nodup_nil
def WC:=@PySem.isSubtype_stop
def WD:=@PySem.F.entry_enumerate_next
def WG:=@Int.gcd_pos_of_ne_zero_right
def WH:=@Int.mul_le_mul
def WI:=@Nat.mul_pos
def WJ:=@List.mem_filterMap
def WK:=@PySem.Heap.IsSliceOf.new
def WL:=@Int.lt_or_eq_of_le
def WM:=@PySem.wpAny_tupleItemsOf
def WN:=@PySem.F.args_tuple_mul_2
def WO:=@Int.emod_lt_of_pos
def WQ:=@PySem.Heap.get?_some_iff
def WR:=@Nat.lt_of_le_of_ne
def WS:=@PySem.F.attrBase_ValueError
def WT:=@Nat.pos_of_ne_zero
def WU:=@Int.fdiv_eq_ediv_of_nonneg
def WV:=@List.any_cons
def WW:=@List.all_cons
def WX:=@Nat.add_assoc
def WY:=@PySem.wpAny_onRaise
def WZ:=@Bool.true_and
def Xa:=@PySem.W.kitx_list
def Xb:=@Bool.not_eq_true'
def Xc:=@Nat.le_of_lt_succ
def Xd:=@List.mapM_toArray
def Xe:=@List.nodup_append
def Xf:=@Nat.mul_comm
def Xg:=@List.all_map
def Xh:=@Int.le_trans
def Xi:=@map_eq_pure_bind
def Xj:=@Int.gcd_dvd_left
def Xk:=@Int.pow_zero
def Xl:=@Rat.mkRat_eq_iff
def Xm:=@Nat.mul_lt_mul''
def Xn:=@Int.lt_or_le
def Xo:=@List.mem_reverse
def Xp:=@Rat.le_of_lt
def Xq:=@List.cons.injEq
def Xr:=@Int.emod_nonneg
def Xs:=@List.sum_append
def Xt:=@Nat.log2_lt
def Xu:=@Int.mul_add
def Xv:=@Nat.one_mul
def Xw:=@Rat.div_def
def bS9 {f:α->Option β}(h:x.bind f=some b):∃a,x=some a/\f a=some b:=Option.bind_eq_some_iff.1 h
set_option Elab.async false
set_option linter.all false
set_option maxRecDepth 100000
abbrev nDb:=λx:PySem.Str=>(x == ("__debug__":PySem.Str))=false
abbrev nCd:=λx:PySem.Str=>(x == ("__classdict__":PySem.Str))=false
set_option hygiene false
local macro_rules | `(tactic| walk_at "v")=>`(tactic| first | exact Or.inl rfl | exact Or.inr rfl | exact Or.inr (Or.inl rfl) | exact Or.inr (Or.inr rfl) | assumption)
local macro_rules | `(tactic| walk_at "kb")=>`(tactic| (refine D6.2 ?_;dsimp only[G3,QL,RK,QM,RV,List.replicate,Ru,RC,Nat.reduceAdd,Nat.reduceSub]))
local macro_rules | `(tactic| walk_at "ka")=>`(tactic| (refine#v[_,rfl,_,_,rfl,rfl,(by show(0:Int)<1000003;decide),_,rfl,_,_,rfl,rfl,.inl #v[by decide,by decide],_,rfl,_,_,rfl,rfl,.inr #v[by lia,by lia],_,_,rfl,rfl,_,rfl,_,_,rfl,rfl,.inl #v[by decide,by decide],_,_,rfl,rfl,_,_,rfl,rfl,_,_,rfl,rfl,.inr #v[by decide,by decide],_,_,rfl,rfl,(by show(0:Int)<999961;decide),?_];refine#v[_,rfl,_,rfl,_,_,rfl,rfl,.inl #v[by lia,by lia],_,rfl,_,_,rfl,rfl,.inl #v[by decide,by decide],_,_,rfl,rfl,_,_,rfl,rfl,_,_,rfl,rfl,(by show(0:Int)<2097143;decide),?_];exact#v[_,rfl,_,_,rfl,rfl,.inr #v[by decide,by decide],_,_,rfl,rfl,(by show(0:Int)<2147483629;decide),_,_,rfl,rfl,#v[by decide,by decide],_,rfl,_,_,rfl,rfl,M,Z]))
set_option hygiene true
namespace L2
open PySem PySem.Spec PyProof.Rows
section
abbrev Key :=Sum Int Str
def iH:Key->Xx->Bool
 | .inl k,v=>Xx.isInt k v
 | .inr x,v=>Xx.isStrOf x v
def JW (w:XB):Key->Int
 | .inl k=>hashInt k
 | .inr x=>hashStr w x
theorem C9:∀{k} {v},iH k v=true->(∃i t,k=Sum.inl i/\v=Xx.int i t)\/(∃x t,k=Sum.inr x/\v=Xx.str x t)
 | .inl i,v,h=>by
  obtain⟨t,e⟩:=Xx.isInt_shape h;exact .inl #v[i,t,rfl,e]
 | .inr x,v,h=>by obtain⟨t,e⟩:=Xx.isStrOf_shape h;exact .inr #v[x,t,rfl,e]
def uZ (i) (t):iH (.inl i) (.int i t)=true:=by simp[iH,Xx.isInt]
def uD (x) (t):iH (.inr x) (.str x t)=true:=by simp[iH,Xx.isStrOf]
def GC (a b):decide ((Sum.inl a:Key)=Sum.inl b)=(a == b):=by
 by_cases e:a=b
 .subst e;simp
 .have h:¬(Sum.inl a:Key)=Sum.inl b:=λq=>e<|Sum.inl.inj q
  rw[Rk h];exact(SL.2 e).symm
def Ex (a b):decide ((Sum.inr a:Key)=Sum.inr b)=decide (a=b):=by
 by_cases e:a=b
 .subst e;simp
 .have h:¬(Sum.inr a:Key)=Sum.inr b:=λq=>e<|Sum.inr.inj q
  rw[Rk h,Rk e]
def FM (a) (b):decide ((Sum.inl a:Key)=Sum.inr b)=false:=Rk (λq=>nomatch q)
def EB (a) (b):decide ((Sum.inr a:Key)=Sum.inl b)=false:=Rk (λq=>nomatch q)
def x9 (prog) (w):PySem.KeyKind prog w Key where
 is:=iH
 hash:=JW w
 inj:=λv a b l f=>by
  rcases C9 l with ⟨i,t,rfl,rfl⟩ | ⟨x,t,rfl,rfl⟩
  .rcases C9 f with ⟨j,u,rfl,e⟩ | ⟨y,u,rfl,e⟩
   .injection e with c _;rw[c]
   .exact nomatch e
  .rcases C9 f with ⟨j,u,rfl,e⟩ | ⟨y,u,rfl,e⟩
   .exact nomatch e
   .injection e with c _;rw[c]
 byValue:=λk v h=>by rcases C9 h with ⟨i,t,rfl,rfl⟩ | ⟨x,t,rfl,rfl⟩ <;> rfl
 pyHash:=λd h=>by
  rcases C9 d with ⟨i,t,rfl,rfl⟩ | ⟨x,t,rfl,rfl⟩
  .exact wpAny_pyHash_int h
  .exact wpAny_pyHash_str h
 eqBool:=λg d h=>by
  rcases C9 g with ⟨i,t,rfl,rfl⟩ | ⟨x,t,rfl,rfl⟩
  .rcases C9 d with ⟨j,u,rfl,rfl⟩ | ⟨y,u,rfl,rfl⟩
   .rw[GC]at h;exact wpAny_eqBool_int h
   .rw[FM]at h;exact SeqAt.EqAt.int_str i t y u _ _ _ _ h
  .rcases C9 d with ⟨j,u,rfl,rfl⟩ | ⟨y,u,rfl,rfl⟩
   .rw[EB]at h;exact SeqAt.EqAt.str_int x t j u _ _ _ _ h
   .rw[Ex]at h;exact wpAny_eqBool_str h
 «strs»:=λk x t v h=>by
  rcases C9 h with ⟨i,u,rfl,e⟩ | ⟨y,u,rfl,e⟩
  .exact nomatch e
  .injection e with c _
   subst c;cases v <;> rfl
def ng (prog) (w) (i) (t):(x9 prog w).is (.inl i) (.int i t)=true:=uZ i t
def ot (prog) (w) (x) (t):(x9 prog w).is (.inr x) (.str x t)=true:=uD x t
end

section
set_option genInjectivity true in
inductive V where
 | non | bl (b:Bool) | int (i:Int) | str (x:Str) | byt (b:Array UInt8) | flt (b:UInt64) | ref (a:Xy) | ty (n:String)
 deriving DecidableEq
def m6:V->Xx->Prop
 | .non,u=>u=Xx.none
 | .bl b,u=>u=Xx.bool b
 | .int i,u=>∃t,u=Xx.int i t
 | .str x,u=>∃t,u=Xx.str x t
 | .byt b,u=>∃t,u=Xx.bytes b t
 | .flt b,u=>∃t,u=Xx.float b t
 | .ref a,u=>u=Xx.ref a
 | .ty n,u=>u=Xx.type n
abbrev s0 :List V->List Xx->Prop:=Paired m6
def s0.length (r:s0 xs us):xs.length=us.length:=Um r
theorem s0.get:∀{xs} {us} {i:Nat} {x},s0 xs us->xs[i]? = some x->∃u,us[i]? = some u/\m6 x u
 | _,_,_,_,.nil,e=>by simp at e
 | _,_,0,_,.cons r _,e=>by simp at e;subst e;exact#v[_,rfl,r]
 | _,_,i+1,x,.cons _ t,e=>by obtain⟨u,b,a⟩:=s0.get t (by simpa using e);exact#v[u,by simpa using b,a]
theorem s0.set (r:m6 x u):∀{xs} {us} i,s0 xs us->s0 (xs.set i x) (us.set i u)
 | _,_,_,.nil=>.nil
 | _,_,0,.cons _ t=>.cons r t
 | _,_,i+1,.cons q t=>.cons q<|s0.set r i t
theorem s0.append:∀{xs ys} {us ws},s0 xs us->s0 ys ws->s0 (xs++ys) (us++ws)
 | _,_,_,_,.nil,s=>s
 | _,_,_,_,.cons r t,s=>.cons r<|s0.append t s
theorem s0.take:∀{xs} {us} n,s0 xs us->s0 (xs.take n) (us.take n)
 | _,_,0,_=>.nil
 | _,_,_+1,.nil=>.nil
 | _,_,n+1,.cons r t=>.cons r<|s0.take n t
theorem s0.drop:∀{xs} {us} n,s0 xs us->s0 (xs.drop n) (us.drop n)
 | _,_,0,r=>r
 | _,_,_+1,.nil=>.nil
 | _,_,n+1,.cons _ t=>s0.drop n t
def eP:Option V->Option Xx->Prop
 | some v,some u=>m6 v u
 | none,none=>True
 | _,_=>False
def KV :List (κ×V)->List (κ×Xx)->Prop:=Paired λp q=>p.1=q.1/\m6 p.2 q.2
def kV:Key->V
 | .inl i=>.int i
 | .inr x=>.str x
set_option genInjectivity true in
inductive HO where
  | lst (xs:List V)
  | tup (xs:List V)
  | dK (dy:List (Key×V)) | dT (dy:List (List Key×V))
  | set (S:Int->Bool) (n:Nat)
  | ins (C dx:Xy) (fs:List (Str×V))
  | own (x:Xy)
  | xd (fs:List (Str×V))
  | met (f x:Xy)
  | rng (lo hi:Int)
  | frz (o:XM) (u:HO)
  | tbl (ps:Array Xx)
  | ext (φ:XH->Prop)
abbrev Hp :=Xy->Option HO
def upd (H:Hp)(a:Xy)(o:HO):Hp:=λb=>if b=a then some o else H b
def i8 :upd H a o a=some o:=by unfold upd;rw[QH rfl]
def f9 (h:b≠a):upd H a o b=H b:=by unfold upd;rw[QK h]
def kl :upd (upd H a o) a u=upd H a u:=by funext b;unfold upd;split <;> rfl
def IF {H:Hp}(h:H a=some o)(h':H b=some u)(d:o≠u):a≠b:=by intro e;subst e;rw[h]at h';exact d<|QU h'
def l6 {H:Hp}(h:H a=some o)(h':H b=none):a≠b:=by intro e;subst e;rw[h]at h';cases h'
section
variable (P:XA)(w:XB)
def C4 (H:Hp)(h:XH)(a:Xy):HO->Prop
 | .lst c=>c.length<=XI/\∃(b:List Xx) (n:Nat),s0 c b/\h.get? a=some { cls:=.type "list",data:=.seq b.toArray n }
 | .tup c=>c.length<=XI/\∃b,s0 c b/\IsTup h a b.toArray
 | .dK dy=>dy.length<=XI/\(a == sysModules)=false/\∃g,KV dy g/\h.DictOf (x9 P w) a g
 | .dT dy=>dy.length<=XI/\(a == sysModules)=false/\∃c,
   Paired (λp q=>p.1=q.1/\H q.2.1=some (.tup<|p.1.map kV)/\m6 p.2 q.2.2) dy c /\
   ∃o k l,h.get? a=some o/\o.ExactDict/\o.data = .dict k l/\k.toList=c.map (entryOfKey<|tupleKind<|x9 P w)/\(c.map (·.1)).Nodup
 | .set S n=>h.SetOf (intKind P w) a S n
 | .ins C dx fs=>H dx=some (.own a)/\fs.length<=1000/\dx≠a/\h.get? a=some (PySem.W.instObj C dx) /\
   ∃d,h.Ns1 dx d/\(∀f,eP (fs.lookup f)<|d f)/\PySem.Within d (fs.map (·.1))
 | .own _=>∃o,h.get? a=some o
 | .xd fs=>∃d,h.Ns1 a d/\∀f,eP (fs.lookup f)<|d f
 | .rng lo hi=>∃t u v,h.get? a=some { cls:=.type "range",data:=.fields #[.int lo t,.int hi u,.int 1 v] }
 | .frz o u=>h.get? a=some o/\C4 H h a u
 | .tbl ps=>h.get? a=some { cls:=.none,data:=.fields ps }
 | .met f x=>h.get? a=some (PySem.W.methodObj (.ref f)<|.ref x)
 | .ext e=>e h/\(∃o,h.get? a=some o)/\∀j i,e j->(∀o,j.get? a=some o->i.get? a=some o)->e i
def HOk (H:Hp)(h:XH):Prop:=∀a o,H a=some o->C4 P w H h a o
end
section
variable {a:Xy}
def C4.lt (x:C4 P w H h a o):a<h.objs.size:=by
 cases o with
 | lst c=>obtain⟨_,_,_,_,e⟩:=x;exact QJ e
 | tup c=>obtain⟨_,_,_,p⟩:=x;exact p.lt
 | dK b=>obtain⟨_,_,_,_,o,_,_,e,_⟩:=x;exact QJ e
 | dT b=>obtain⟨_,_,_,_,o,_,_,e,_⟩:=x;exact QJ e
 | set S n=>obtain⟨o,_,_,_,e,_⟩:=x;exact QJ e
 | ins C l fs=>obtain⟨_,_,_,e,_⟩:=x;exact QJ e
 | own y=>obtain⟨_,e⟩:=x;exact QJ e
 | xd fs=>obtain⟨_,⟨_,_,_,e,_⟩,_⟩:=x;exact QJ e
 | rng j k=>obtain⟨_,_,_,e⟩:=x;exact QJ e
 | frz i u=>obtain⟨e,_⟩:=x;exact QJ e
 | tbl g=>exact QJ (x)
 | met f y=>exact QJ (x)
 | ext d=>obtain⟨_,⟨_,e⟩,_⟩:=x;exact QJ e
theorem Paired.mapP :∀{l₁} {l₂:List β},Paired F l₁ l₂->(∀a b,F a b->G a b)->Paired G l₁ l₂
 | _,_,.nil,_=>.nil
 | _,_,.cons r t,f=>.cons (f _ _ r)<|Paired.mapP t f
def C4.stay (x:C4 P w H h a o)(k:∀b u,(b=a\/H b=some (.own a))->h.get? b=some u->h'.get? b=some u)
  (ho:∀b,H b=some (.own a)->H' b=some (.own a)) (ht:∀b xs,H b=some (.tup xs)->H' b=some (.tup xs)):C4 P w H' h' a o:=by
 induction o with
 | lst xs=>obtain⟨z,l,n,r,e⟩:=x;exact#v[z,l,n,r,k _ _ (.inl rfl) e]
 | tup xs=>obtain⟨z,l,r,g,e,c⟩:=x;exact#v[z,l,r,g,k _ _ (.inl rfl) e,c]
 | dK A=>obtain⟨z,y,D,r,g,i,j,e,c⟩:=x;exact#v[z,y,D,r,g,i,j,k _ _ (.inl rfl) e,c]
 | dT A =>obtain⟨z,y,xs,r,g,i,j,e,c⟩:=x;exact#v[z,y,xs,Paired.mapP r λp q z=>#v[z.1,ht _ _ z.2.1,z.2.2],g,i,j,k _ _ (.inl rfl) e,c]
 | set S n=>obtain⟨g,i,j,t,e,c⟩:=x;exact#v[g,i,j,t,k _ _ (.inl rfl) e,c]
 | ins C L fs =>obtain⟨d,z,E,e,s,⟨m,i,j,G,c⟩,r⟩:=x;exact#v[ho _ d,z,E,k _ _ (.inl rfl) e,s,#v[m,i,j,k _ _ (.inr d) G,c],r]
 | own y=>obtain⟨g,e⟩:=x;exact#v[g,k _ _ (.inl rfl) e]
 | xd fs=>obtain⟨s,⟨m,i,j,e,c⟩,r⟩:=x;exact#v[s,#v[m,i,j,k _ _ (.inl rfl) e,c],r]
 | rng J K=>obtain⟨t,u,v,e⟩:=x;exact#v[t,u,v,k _ _ (.inl rfl) e]
 | frz g u F=>obtain⟨e,q⟩:=x;exact#v[k _ _ (.inl rfl) e,F q]
 | tbl B =>have e:=x;exact k a _ (.inl rfl) e
 | met f y =>have e:=x;exact k a _ (.inl rfl) e
 | ext I=>obtain⟨p,⟨o,e⟩,st⟩:=x;exact#v[st _ _ p λo q=>k _ _ (.inl rfl) q,#v[o,k _ _ (.inl rfl) e],st]
def HOk.lt (x:HOk P w H h)(e:H a=some o):a<h.objs.size:=(x a o e).lt
def HOk.fresh (x:HOk P w H h)(e:h.objs.size<=a):H a=none:=by
 cases q:H a with
 | none=>rfl
 | some u=>exact absurd (QO (x.lt q) e)<|Tf _
def HOk.kept (x:HOk P w H h)(k:∀b u,h.get? b=some u->h'.get? b=some u):HOk P w H h':=λa o e =>
 (x a o e).stay (λb u _ q=>k b u q) (λ_ q=>q) λ_ _ q=>q
def HOk.laid (x:HOk P w H h)(k:∀b u,h.get? b=some u->h'.get? b=some u)(hp:h.objs.size<=a)(new:C4 P w (upd H a o) h' a o):HOk P w (upd H a o) h':=λb u e=>by
 have d:=x.fresh hp;by_cases f:b=a
 .subst f;rw[i8]at e;cases e;exact new
 .rw[f9 f]at e;exact(x b u e).stay (λc v _ q=>k c v q) (λc q=>by rw[f9<|l6 q d];exact q) λc g q=>by rw[f9<|l6 q d];exact q
end
def Rd (H:Hp)(a:Xy)(u:HO):Prop:=H a=some u\/∃o,H a=some (.frz o u)
def Rd.ok (r:Rd H a u)(x:HOk P w H h):C4 P w H h a u:=by
 rcases r with r | ⟨o,r⟩
 .exact x a u r
 .obtain⟨_,q⟩:=x a _ r;exact q
def Mut:Option HO->Prop
 | some (.lst _)=>True
 | some (.dK _)=>True
 | some (.dT _)=>True
 | some (.set _ _)=>True
 | some (.ins _ _ _)=>True
 | some (.ext _)=>True
 | _=>False
section

def HOk.write (ok:HOk P w H h)(mu:Mut (H x))(he:e=x\/H e=some (.own x))(k:∀b u,b≠e->h.get? b=some u->h'.get? b=some u)(heo:∃u,h'.get? e=some u)
  (new:C4 P w (upd H x o') h' x o'):HOk P w (upd H x o') h':=λb u q=>by
 have d:∀c y,H c=some (.own y)->c≠x:=λc y r z=>by subst z;rw[r]at mu;exact mu
 have f:∀c g,H c=some (.tup g)->c≠x:=λc g r z=>by subst z;rw[r]at mu;exact mu
 by_cases j:b=x
 .subst j;rw[i8]at q;cases q;exact new
 .rw[f9 j]at q;by_cases a:b=e
  .have l:H b=some (.own x):=by
    rcases he with z | z
    .exact absurd (a.trans z) j
    .rw[a];exact z
   rw[q]at l;cases l;obtain⟨v,m⟩:=heo;exact#v[v,by rw[a];exact m]
  .refine(ok b u q).stay (λc v i r=>k c v ?_ r) (λc r=>by rw[f9<|d c b r];exact r) λc g r=>by rw[f9<|f c g r];exact r
   rcases i with rfl | i
   .exact a
   .rintro rfl;rcases he with z | z
    .exact d c b i z
    .rw[i]at z;cases z;exact j rfl
end
structure Un (fs ex:List Xy) (H H':Hp) (h h':XH):Prop where
 keep:∀b o,h.get? b=some o->H b=none->b ∉ fs->b ∉ ex->h'.get? b=some o
 slot:∀b o,h.get? b=some o->H b=none->b∈fs->b ∉ ex->∃sl,h'.get? b=some { o with slots:=sl }
 free:∀b o,h.get? b=some o->H b=none->b ∉ ex->H' b=none
 there:∀b o,h.get? b=some o->b ∉ ex->∃o',h'.get? b=some o'
 tups:∀b xs,H b=some (.tup xs)->H' b=some (.tup xs)
 frzs:∀b o u,H b=some (.frz o u)->H' b=some (.frz o u)
 tbls:∀b ps,H b=some (.tbl ps)->∃more,H' b=some (.tbl<|ps++more)
section
variable {h:XH}{a:Xy}
def Un.any (u:Un fs ex H H1 h h1)(q:h.get? b=some ob)(n:H b=none)(hx:b ∉ ex):∃sl,h1.get? b=some { ob with slots:=sl }:=by
 by_cases a:b∈fs
 .exact u.slot b ob q n a hx
 .exact#v[ob.slots,u.keep b ob q n a hx]
def Un.kept (k:∀b u,h.get? b=some u->h'.get? b=some u):Un fs ex H H h h' :=
 #v[λb a q _ _ _=>k b a q,λb a q _ _ _=>#v[a.slots,k b a q],λ_ _ _ n _=>n,λb a q _=>#v[a,k b a q],λ_ _ q=>q,λ_ _ _ q=>q,λ_ c q=>#v[#[],by rw[q];simp]]
def Un.refl :Un fs ex H H h h:=Un.kept λ_ _ q=>q
def Un.laid (k:∀b u,h.get? b=some u->h'.get? b=some u)(hp:h.objs.size<=a)(hn:H a=none):Un fs ex H (upd H a o) h h' where
 keep:=λb u q _ _ _=>k b u q
 slot:=λb u q _ _ _=>#v[u.slots,k b u q]
 free:=λb u q n _=>by rw[f9<|QY<|QO (QJ q) hp];exact n
 there:=λb u q _=>#v[u,k b u q]
 tups:=λb c q=>by rw[f9<|l6 q hn];exact q
 frzs:=λb u c q=>by rw[f9<|l6 q hn];exact q
 tbls:=λb d q=>#v[#[],by rw[f9<|l6 q hn,q];simp]
def Un.write (mu:Mut (H x))(he:e=x\/H e=some (.own x))(k:∀b u,b≠e->h.get? b=some u->h'.get? b=some u)(heo:∃u,h'.get? e=some u):Un fs ex H (upd H x o) h h':=by
 have d:∀b,H b=none->b≠x:=λb n z=>by subst z;rw[n]at mu;exact mu
 have f:∀b,H b=none->b≠e:=λb n z=>by
  subst z;rcases he with r | r
  .exact d b n r
  .rw[n]at r;cases r
 have c:∀b u,H b=some u->¬Mut (some u)->b≠x:=λb u q i z=>by subst z;rw[q]at mu;exact i mu
 refine#v[λb u q n _ _=>k b u (f b n) q,λb u q n _ _=>#v[u.slots,k b u (f b n) q],λb u q n _=>by rw[f9<|d b n];exact n,λb u q _=>?_,
  λb g q=>by rw[f9<|c b _ q λz=>z];exact q,λb u g q=>by rw[f9<|c b _ q λz=>z];exact q,λb j q=>#v[#[],by rw[f9<|c b _ q λz=>z,q];simp]]
 by_cases a:b=e
 .subst a;exact heo
 .exact#v[u,k b u a q]
end
def trk (h:XH)(H:Hp):List Xy:=(List.range h.objs.size).filter λa=>(H a).isSome
def iJ (h:XH)(H:Hp):XH:=PySem.W.hideAll h<|trk h H
def vw (h) (H):(iJ h H).objs.size=h.objs.size:=PySem.W.hideAll_size _ _
def xG (e:h.get? b=some o)(n:H b=none):(iJ h H).get? b=some o :=
 PySem.W.hideAll_get _ e λa=>by have q:=(We.1 a).2;rw[n]at q;simp at q
def AB (e:(iJ h H).get? b=some o):h.get? b=some o/\H b=none:=by
 have a:=PySem.W.of_hideAll (trk h H) e;refine#v[a,?_];cases q:H b with
 | none=>rfl
 | some x =>have c:b∈trk h H:=We.2 #v[Vx.2<|QJ a,by simp[q]];have z:(iJ h H).get? b=none:=PySem.W.hideAll_none (trk h H) c;rw[z]at e;cases e
end

section
structure Mod (K:Qf) mg base:Prop where
 kin:K.In base
 glob:base.Ns XS mg
 blt:∃mb,base.Ns builtinsNs mb/\∀x:Str,x ≠ "__name__"->mb x=XW x
 nolimit:base.NoLimit
structure Cx where
 prog:XA
 w:XB
 K:Qf
 mg:Str->Option Xx
 base:XH
 A:XC
 N:List Str
 s₀:Xz
 H₀:Hp
 env:XN
 outer:List XN
 stack:List XN
 ex:List Xy
 fn:Str->Bool
 calm:Bool
 pn:List (Xy×XM)
 xe:Xx->Xz->Prop
def frs (l:List XN):List Xy:=l.filterMap (·.frame)
abbrev Cx.fs (X:Cx):List Xy:=frs X.outer
def Vis (sc:XD)(x:Str):Prop:=sc.names.lookup x=some .local\/sc.names.lookup x=some .cell\/sc.names.lookup x=some .free
def Loc (sc:XD)(x:Str):Prop:=sc.names.lookup x=some .local\/sc.names.lookup x=some .cell
def JJ (env:XN)(h:XH)(m:Str->Option Xx)(x:Str)(u:Xx):Prop :=
 (env.kindOf x=some .local/\m x=some u)\/((env.kindOf x=some .cell\/env.kindOf x=some .free)/\∃c,env.cells.lookup x=some c/\h.IsCell c (some u))
structure Cx.Ok (X:Cx):Prop where
 mod:Mod X.K X.mg X.base
 kind:X.env.scope.kind = .function
 glob:X.env.globals=XS
 blt:X.env.builtins=builtinsNs
 above:X.s₀.heap.objs.size<=X.env.locals
 inj:∀x y c,X.env.cells.lookup x=some c->X.env.cells.lookup y=some c->x=y
 has:∀x,(X.env.kindOf x=some .cell\/X.env.kindOf x=some .free)->∃c,X.env.cells.lookup x=some c
 cab:∀x c,X.fn x=true->X.env.cells.lookup x=some c->X.s₀.heap.objs.size<=c
 hd:X.calm=true->X.A.handled=none
 frames:X.A.frames=some X.stack
 stk:X.stack=X.outer\/(X.stack=X.env::X.outer/\X.env.frame=some X.env.locals)
 exf:∀b∈X.ex,b≠X.env.locals/\∀x c,X.env.cells.lookup x=some c->c≠b
 bs:∀b o,X.base.get? b=some o->X.s₀.heap.get? b=some o/\X.H₀ b=none
 bsz:X.base.objs.size<=X.s₀.heap.objs.size
 noex:∀b o,X.base.get? b=some o->b ∉ X.ex
 exfs:∀b∈X.ex,b ∉ X.fs
 funs:X.s₀.heap.FunFrames X.base X.outer
 frf:∀b∈X.fs,X.H₀ b=none
structure Inv (X:Cx) π (σ:List (Option V)) H (s:Xz):Prop where
 ok:X.Ok
 os:s.os=X.s₀.os
 bare:AllBare s.gens
 base:Un X.fs X.ex X.H₀ H X.s₀.heap s.heap
 loc:∃m,s.heap.Ns X.env.locals m/\∀(i:Nat) x v,X.N[i]? = some x->σ[i]? = some (some v)->Vis X.env.scope x->∃u,m6 v u/\JJ X.env s.heap m x u
 cell:∀x c,X.env.cells.lookup x=some c->∃v,s.heap.IsCell c v
 free:H X.env.locals=none
 freeC:∀x c,X.env.cells.lookup x=some c->H c=none
 pin:∀p∈X.pn++π,s.heap.get? p.1=some p.2/\H p.1=none/\p.1≠X.env.locals/\p.1 ∉ X.fs/\∀v,p.2.data ≠ .cell v
 hok:HOk X.prog X.w H s.heap
 len:σ.length=X.N.length
section
variable {X:Cx}
def Cx.Ok.nofr (ok:X.Ok)(e:X.base.get? b=some o):b ∉ X.fs:=λa=>by have:=(ok.funs.mem a).1;rw[e]at this;cases this
def Inv.bs (I:Inv X π σ H s):∀b o,X.base.get? b=some o->s.heap.get? b=some o/\H b=none:=λb o e =>
 #v[I.base.keep b o (I.ok.bs b o e).1 (I.ok.bs b o e).2 (I.ok.nofr e)<|I.ok.noex b o e,I.base.free b o (I.ok.bs b o e).1 (I.ok.bs b o e).2<|I.ok.noex b o e]
def Inv.bk (I:Inv X π σ H s):∀b o,X.base.get? b=some o->s.heap.get? b=some o:=λb o e=>(I.bs b o e).1
def Inv.mod (I:Inv X π σ H s):Mod X.K X.mg X.base:=I.ok.mod
def Inv.kIn (I:Inv X π σ H s):X.K.In s.heap:=I.ok.mod.kin.keeps I.bk
def Inv.nolimit (I:Inv X π σ H s):s.heap.NoLimit:=I.ok.mod.nolimit.keeps I.bk
def Inv.lt (I:Inv X π σ H s):X.env.locals<s.heap.objs.size:=let #v[_,a,_]:=I.loc;a.lt
def Inv.sz (I:Inv X π σ H s):X.s₀.heap.objs.size<=s.heap.objs.size:=QZ I.ok.above<|RJ I.lt
def Inv.nofs (I:Inv X π σ H s){a:Xy}(h:s.heap.objs.size<=a):a ∉ X.fs:=λc=>by obtain⟨_,o,b,_⟩:=I.ok.funs.mem c;exact absurd (QO (QJ b)<|QZ I.sz h)<|Tf _
def Inv.cne (I:Inv X π σ H s):∀x c,X.env.cells.lookup x=some c->c≠X.env.locals:=λx c e z=>by obtain⟨v,o,d,f⟩:=I.cell x c e;obtain⟨m,⟨g,h,i,a,b,_⟩,_⟩:=I.loc;rw[z,a]at d;cases d;rw[b]at f;cases f
def Inv.funs (I:Inv X π σ H s):s.heap.FunFrames X.base X.outer:=by
 have all:∀l,(∀b∈frs l,b∈X.fs)->X.s₀.heap.FunFrames X.base l->s.heap.FunFrames X.base l:=by
  intro l;induction l with
  | nil=>intro _ _;trivial
  | cons n r g =>
   intro f hl;obtain⟨k,⟨L,o,a,j,i,m⟩,h⟩:=hl;have d:=f L (by unfold frs;rw[TK,a];exact QN);obtain⟨p,e⟩:=I.base.slot L o i (I.ok.frf L d) d λz=>I.ok.exfs L z d
   exact#v[k,#v[L,_,a,j,e,m],g (λb c=>f b (by unfold frs;rw[TK,a];exact QG _ c)) h]
 exact all X.outer (λ_ c=>c) I.ok.funs
def Inv.stack (I:Inv X π σ H s):s.heap.FunFrames X.base X.stack:=by
 rcases I.ok.stk with e | ⟨e,b⟩
 .rw[e];exact I.funs
 .rw[e];obtain⟨m,a,_⟩:=I.loc;refine .cons (by rw[I.ok.kind];decide) b a ?_ I.funs;exact XH.get?_none_of_le<|QZ I.ok.bsz I.ok.above
def Inv.stkSub (I:Inv X π σ H s):∀b∈frs X.stack,b∈X.env.locals::X.fs:=λb a=>by
 rcases I.ok.stk with e | ⟨e,c⟩
 .rw[e]at a;exact QG _ a
 .rw[e]at a;unfold frs at a;rw[TK,c]at a;exact a
def Inv.stkFree (I:Inv X π σ H s):∀b∈frs X.stack,H b=none:=λb a=>by
 rcases QQ.1 (I.stkSub b a) with e | a
 .rw[e];exact I.free
 .obtain⟨_,o,c,_⟩:=I.ok.funs.mem a;exact I.base.free b o c (I.ok.frf b a) λz=>I.ok.exfs b z a
def Inv.step {ch:List Xy}(I:Inv X π σ H s)
  (hch:∀b∈ch,(b∈X.ex\/X.s₀.heap.objs.size<=b)/\b≠X.env.locals/\(∀x c,X.env.cells.lookup x=some c->c≠b)/\∀p∈X.pn++π,p.1≠b)
  (keep:∀b o,b≠X.env.locals->b ∉ X.fs->b ∉ ch->s.heap.get? b=some o->H b=none->h'.get? b=some o)
  (slot:∀b o,b≠X.env.locals->b∈X.fs->b ∉ ch->s.heap.get? b=some o->H b=none->∃sl,h'.get? b=some { o with slots:=sl }) (free:∀b o,b ∉ ch->s.heap.get? b=some o->H b=none->H' b=none)
  (there:∀b o,b ∉ ch->s.heap.get? b=some o->∃o',h'.get? b=some o')
  (tups:∀b xs,H b=some (.tup xs)->H' b=some (.tup xs)) (frzs:∀b o u,H b=some (.frz o u)->H' b=some (.frz o u)) (tbls:∀b ps,H b=some (.tbl ps)->∃more,H' b=some (.tbl<|ps++more))
  (ns:∀m,s.heap.Ns X.env.locals m->h'.Ns X.env.locals m) (hok:HOk X.prog X.w H' h') (hg:AllBare g') :
  Inv X π σ H' { s with heap:=h',gens:=g',drawn:=d',toks:=t' }:=by
 have y:∀b o,X.s₀.heap.get? b=some o->b≠X.env.locals:=λb o e=>QY<|QO (QJ e) I.ok.above
 have h:∀b o,X.s₀.heap.get? b=some o->b ∉ X.ex->b ∉ ch:=λb o e a t=>by
  rcases(hch b t).1 with z | z
  .exact a z
  .exact absurd (QO (QJ e) z)<|Tf _
 have g:∀x c,X.env.cells.lookup x=some c->∀v,s.heap.IsCell c v->h'.IsCell c v:=λx c e v #v[o,w,C]=>by
  have f:=λz=>(hch c z).2.2.1 x c e rfl
  by_cases G:c∈X.fs
  .obtain⟨sl,q⟩:=slot c o (I.cne x c e) G f w<|I.freeC x c e;exact#v[_,q,C]
  .exact#v[o,keep c o (I.cne x c e) G f w<|I.freeC x c e,C]
 refine#v[I.ok,I.os,hg,#v[λb o e n t a=>?_,λb o e n t a=>?_,λb o e n a=>?_,λb o e a=>?_,λb xs e=>tups b xs<|I.base.tups b xs e,λb o xs e=>frzs b o xs<|I.base.frzs b o xs e,λb ps e=>?_],?_,λx c e=>?_,?_,λx c e=>?_,λp F=>?_,hok,I.len]
 .exact keep b o (y b o e) t (h b o e a) (I.base.keep b o e n t a)<|I.base.free b o e n a
 .obtain⟨sl,j⟩:=I.base.slot b o e n t a;obtain⟨B,A⟩:=slot b _ (y b o e) t (h b o e a) j<|I.base.free b o e n a;exact#v[B,A]
 .obtain⟨o',j⟩:=I.base.there b o e a;exact free b o' (h b o e a) j<|I.base.free b o e n a
 .obtain⟨o',j⟩:=I.base.there b o e a;exact there b o' (h b o e a) j
 .obtain⟨K,j⟩:=I.base.tbls b ps e;obtain⟨J,A⟩:=tbls b _ j;exact#v[K++J,by rw[A,Array.append_assoc]]
 .obtain⟨m,L,hl⟩:=I.loc;refine#v[m,ns m L,λi x v j A M=>?_];obtain⟨u,r,l⟩:=hl i x v j A M;refine#v[u,r,?_];rcases l with l | ⟨k,c,e,z⟩
  .exact .inl l
  .exact .inr #v[k,c,e,g x c e _ z]
 .obtain⟨v,z⟩:=I.cell x c e;exact#v[v,g x c e v z]
 .obtain⟨m,⟨o,_,_,w,_⟩,_⟩:=I.loc;exact free _ o (λz=>(hch _ z).2.1 rfl) w I.free
 .obtain⟨v,o,w,C⟩:=I.cell x c e;exact free c o (λz=>(hch c z).2.2.1 x c e rfl) w<|I.freeC x c e
 .obtain⟨e,n,E,D,d⟩:=I.pin p F;have f:=λz=>(hch p.1 z).2.2.2 p F rfl
  exact#v[keep p.1 p.2 E D f e n,free p.1 p.2 f e n,E,D,d]
def Inv.un (I:Inv X π σ H s)(u:Un X.fs [] H H' s.heap h')(hok:HOk X.prog X.w H' h'):Inv X π σ H' { s with heap:=h',toks:=t' }:=by
 obtain⟨m,⟨o,q,t,g,r⟩,_⟩:=id I.loc;obtain⟨k,j⟩:=u.any g I.free (by simp);exact I.step (ch:=[]) (λ_ z=>nomatch z) (λb o _ c _ e n=>u.keep b o e n c<|by simp) (λb o _ c _ e n=>u.slot b o e n c<|by simp) (λb o _ e n=>u.free b o e n<|by simp) (λb o _ e=>u.there b o e<|by simp) u.tups u.frzs u.tbls (λp i=>by obtain⟨l,d,f,a,h⟩:=i;rw[g]at a;cases a;exact#v[_,d,f,j,h]) hok I.bare
def Inv.call (I:Inv X π σ H s)(u:Un (frs X.stack) ch H H' s.heap h')(hok:HOk X.prog X.w H' h')(hg:AllBare g')
  (hch:∀b∈ch,(b∈X.ex\/X.s₀.heap.objs.size<=b)/\b≠X.env.locals/\(∀x c,X.env.cells.lookup x=some c->c≠b)/\∀p∈X.pn++π,p.1≠b) :
  Inv X π σ H' { s with heap:=h',gens:=g',drawn:=d',toks:=t' }:=by
 obtain⟨m,⟨o,w,y,i,r⟩,_⟩:=id I.loc;obtain⟨q,f⟩:=u.any i I.free λz=>(hch _ z).2.1 rfl
 exact I.step hch (λb o f l a e n=>u.keep b o e n (λz=>(QQ.1<|I.stkSub b z).elim f l) a) (λb o _ _ a e n=>u.any e n a) (λb o a e n=>u.free b o e n a) (λb o a e=>u.there b o e a) u.tups u.frzs u.tbls (λv k=>by obtain⟨t,g,h,d,j⟩:=k;rw[i]at d;cases d;exact#v[_,g,h,f,j]) hok hg
def Inv.turned (I:Inv X π σ H s)(k:∀b o,b≠it->s.heap.get? b=some o->h'.get? b=some o)(hn:H it=none)(hL:it≠X.env.locals)
  (h1:it∈X.ex\/X.s₀.heap.objs.size<=it) (h2:∀x c,X.env.cells.lookup x=some c->c≠it) (h3:∀p∈X.pn++π,p.1≠it):Inv X π σ H { s with heap:=h',toks:=t' }:=by
 have d:∀b u,H b=some u->b≠it:=λb u e z=>by rw[z,hn]at e;cases e
 refine I.step (ch:=[it]) (λb h=>?_) (λb o _ _ a e _=>k b o (λz=>a<|by simp[z]) e) (λb o _ _ a e _=>#v[o.slots,k b o (λz=>a<|by simp[z]) e]) (λ_ _ _ _ n=>n)
  (λb o a e=>#v[o,k b o (λz=>a<|by simp[z]) e]) (λ_ _ e=>e) (λ_ _ _ e=>e) (λb l e=>#v[#[],by rw[e];simp]) (λm g=>?_) (λb u e=>?_) I.bare
 .have e:b=it:=by simpa using h
  subst e;exact#v[h1,hL,h2,h3]
 .obtain⟨o,i,j,f,r⟩:=g;exact#v[o,i,j,k _ o (RM hL) f,r]
 .refine(I.hok b u e).stay (λc v a q=>k c v ?_ q) (λ_ q=>q) λ_ _ q=>q
  rcases a with z | z
  .rw[z];exact d b u e
  .exact d c _ z
def Inv.tok (I:Inv X π σ H s)(t):Inv X π σ H { s with toks:=t }:=I.un Un.refl I.hok
def Inv.kept (I:Inv X π σ H s)(k:∀b u,s.heap.get? b=some u->h'.get? b=some u):Inv X π σ H { s with heap:=h',toks:=t' }:=I.un (Un.kept k)<|I.hok.kept k
def Inv.laid {a:Xy}(I:Inv X π σ H s)(k:∀b u,s.heap.get? b=some u->h'.get? b=some u)(hp:s.heap.objs.size<=a)(new:C4 X.prog X.w (upd H a o) h' a o) :
  Inv X π σ (upd H a o) { s with heap:=h',toks:=t' }:=I.un (Un.laid k hp<|I.hok.fresh hp)<|I.hok.laid k hp new
def Inv.write (I:Inv X π σ H s)(mu:Mut (H x))(he:e=x\/H e=some (.own x))(k:∀b u,b≠e->s.heap.get? b=some u->h'.get? b=some u)(heo:∃u,h'.get? e=some u)
  (new:C4 X.prog X.w (upd H x o) h' x o):Inv X π σ (upd H x o) { s with heap:=h',toks:=t' }:=I.un (Un.write mu he k heo)<|I.hok.write mu he k heo new
def Inv.pins_of (I:Inv X π σ H s)(h:∀p∈pins',s.heap.get? p.1=some p.2/\H p.1=none/\p.1≠X.env.locals/\p.1 ∉ X.fs/\∀v,p.2.data ≠ .cell v):Inv X pins' σ H s :=
 #v[I.ok,I.os,I.bare,I.base,I.loc,I.cell,I.free,I.freeC,λp a=>(UH.1 a).elim (λz=>I.pin p<|SX _ z)<|h p,I.hok,I.len]
def gQ {N:List Str}(hN:N.Nodup){j:Nat}(a:N[i]? = some x)(b:N[j]? = some x):i=j:=by obtain⟨f,d⟩:=QR.1 a;obtain⟨e,c⟩:=QR.1 b;exact(List.getElem_inj hN).1<|d.trans c.symm
def uj (I:Inv X π σ H s)(hN:X.N.Nodup)(hi:X.N[i]? = some x)(hx:Loc X.env.scope x)(r:m6 v u)
  (h:∀s',Inv X π (σ.set i<|some v) H s'->(∃a,XH.SameBut a s.heap s'.heap/\(a=X.env.locals\/X.env.cells.lookup x=some a))->Q () s') (hf:autoParam (X.fn x=true\/X.env.scope.names.lookup x=some .local) eM):XR M A (storeName X.env x u) Q E s:=by
 obtain⟨m,hn,hl⟩:=id I.loc;have N:(X.env.scope.kind == .class||(X.env.scope.kind == .module&&X.env.locals != X.env.globals))=false:=by rw[I.ok.kind];rfl
 have D:i < σ.length:=by rw[I.len];exact(QR.1 hi).1
 have cne:=I.cne;have g:∀{a} {h'},(∃o,s.heap.get? a=some o/\H a=none)->XH.SameBut a s.heap h'->HOk X.prog X.w H h':=λ{a h'} ha f b ob e=>by
  obtain⟨_,_,w⟩:=ha;refine(I.hok b ob e).stay (λc R t q=>(f.2 c ?_).trans q) (λ_ q=>q) λ_ _ q=>q
  rintro rfl;rcases t with rfl | t
  .rw[w]at e;cases e
  .rw[w]at t;cases t
 rcases hx with C | C
 .refine wpAny_storeName_local C hn (λh' ac f=>?_) N;obtain⟨oL,_,_,ab,_⟩:=id hn;refine h _ #v[I.ok,I.os,I.bare,#v[λb o e n J hx=>?_,λb o e n J hx=>?_,I.base.free,λb o e hx=>?_,I.base.tups,I.base.frzs,I.base.tbls],#v[_,ac,λj y U l B e3=>?_],λy c e=>?_,I.free,I.freeC,λp hp=>?_,g #v[oL,ab,I.free] f,by simpa using I.len] #v[_,f,.inl rfl]
  .exact(f.2 b<|QY<|QO (QJ e) I.ok.above).trans<|I.base.keep b o e n J hx
  .obtain⟨Y,l⟩:=I.base.slot b o e n J hx;exact#v[Y,(f.2 b<|QY<|QO (QJ e) I.ok.above).trans l]
  .obtain⟨o',l⟩:=I.base.there b o e hx;exact#v[o',(f.2 b<|QY<|QO (QJ e) I.ok.above).trans l]
  .by_cases F:j=i
   .subst F;rw[hi]at l;cases l;rw[QW D]at B;cases B;exact#v[u,r,.inl #v[C,by simp]]
   .rw[QS<|RM F]at B;obtain⟨W,Z,q⟩:=hl j y U l B e3;refine#v[W,Z,?_];rcases q with ⟨k,e⟩ | ⟨k,c,e,z⟩
    .refine .inl #v[k,?_];have:y≠x:=λe=>F<|gQ hN l<|e▸hi
     simp[this,e]
    .exact .inr #v[k,c,e,z.sameBut f<|cne y c e]
  .obtain⟨R,z⟩:=I.cell y c e;exact#v[R,z.sameBut f<|cne y c e]
  .obtain⟨e,n,S,nf,d⟩:=I.pin p hp;exact#v[(f.2 p.1 S).trans e,n,S,nf,d]
 .have G:X.fn x=true:=by
   rcases hf with z | z
   .exact z
   .rw[z]at C;cases C
  obtain⟨c,t⟩:=I.ok.has x<|.inl C;obtain⟨R,z⟩:=I.cell x c t;refine wpAny_storeName_cell I.ok.kind C t z (λh' P f=>?_);obtain⟨oc,L,K⟩:=id z;refine h { s with heap:=h' } #v[I.ok,I.os,I.bare,#v[λb o e n J hx=>?_,λb o e n J hx=>?_,I.base.free,λb o e hx=>?_,I.base.tups,I.base.frzs,I.base.tbls],#v[m,hn.sameBut f<|RM<|cne x c t,λj y U l B e3=>?_],λy T e=>?_,I.free,I.freeC,λp hp=>?_,g #v[oc,L,I.freeC x c t] f,by simpa using I.len] #v[c,f,.inr t]
  .exact(f.2 b<|QY<|QO (QJ e)<|I.ok.cab x c G t).trans<|I.base.keep b o e n J hx
  .obtain⟨Y,l⟩:=I.base.slot b o e n J hx;exact#v[Y,(f.2 b<|QY<|QO (QJ e)<|I.ok.cab x c G t).trans l]
  .obtain⟨o',l⟩:=I.base.there b o e hx;exact#v[o',(f.2 b<|QY<|QO (QJ e)<|I.ok.cab x c G t).trans l]
  .by_cases F:j=i
   .subst F;rw[hi]at l;cases l;rw[QW D]at B;cases B;exact#v[u,r,.inr #v[.inl C,c,t,P]]
   .rw[QS<|RM F]at B;obtain⟨W,Z,q⟩:=hl j y U l B e3;refine#v[W,Z,?_];rcases q with q | ⟨k,T,e,z'⟩
    .exact .inl q
    .refine .inr #v[k,T,e,z'.sameBut f ?_];rintro rfl;exact F<|gQ hN l<|I.ok.inj _ _ _ e t▸hi
  .by_cases O:T=c
   .subst O;exact#v[_,P]
   .obtain⟨w2,z2⟩:=I.cell y T e;exact#v[w2,z2.sameBut f O]
  .obtain⟨e,n,S,nf,d⟩:=I.pin p hp;refine#v[(f.2 p.1 ?_).trans e,n,S,nf,d];intro q;rw[q,L]at e;have q':=QU e;exact d R (by rw[<-q'];exact K)
def V7 (I:Inv X π σ H s)(hN:X.N.Nodup)(hi:X.N[i]? = some x)(hx:Loc X.env.scope x)(r:m6 v u)
  (h:∀s',Inv X π (σ.set i<|some v) H s'->Q () s') (hf:autoParam (X.fn x=true\/X.env.scope.names.lookup x=some .local) eM):XR M A (storeName X.env x u) Q E s :=
 uj I hN hi hx r (λs' a _=>h s' a) hf
def Inv.call' (I:Inv X π σ H s)(ho:s'.os=s.os)(u:Un (frs X.stack) ch H H' s.heap s'.heap)(hok:HOk X.prog X.w H' s'.heap)(hg:AllBare s'.gens)
  (hch:∀b∈ch,(b∈X.ex\/X.s₀.heap.objs.size<=b)/\b≠X.env.locals/\(∀x c,X.env.cells.lookup x=some c->c≠b)/\∀p∈X.pn++π,p.1≠b):Inv X π σ H' s':=by obtain⟨h',g',d',t',a⟩:=s';have e:=ho;subst e;exact I.call u hok hg hch
end
abbrev XK :=Xx->Option Xy->Hp->Prop
abbrev St :=List<|Option V
abbrev VK :=V->Hp->Prop
abbrev TE :=St->Hp->VK->Prop
abbrev TT :=St->Hp->(Bool->Hp->Prop)->Prop
abbrev TA :=St->Hp->(List V->Hp->Prop)->Prop
structure Ends where
 nx:St->Hp->Prop
 rt:VK
 bk:St->Hp->Prop:=λ_ _=>False
 ct:St->Hp->Prop:=λ_ _=>False
abbrev TS :=Ends->St->Hp->Prop
def EP (X:Cx)(π:List (Xy×XM))(σ:St)(Q:VK)(u:Xx)(s':Xz):Prop:=∃v a,Inv X π σ a s'/\m6 v u/\Q v a
def TP (X:Cx)(π:List (Xy×XM))(σ:St)(Q:Bool->Hp->Prop)(b:Bool)(s':Xz):Prop:=∃a,Inv X π σ a s'/\Q b a
def AP (X:Cx)(π:List (Xy×XM))(σ:St)(Q:List V->Hp->Prop)(us:List Xx)(s':Xz):Prop:=∃a b,Inv X π σ b s'/\s0 a us/\Q a b
def SP (X:Cx)(π:List (Xy×XM))(D:Ends)(f:Flow)(s':Xz):Prop :=
 match f with
 | .next=>∃a b,Inv X π a b s'/\D.nx a b
 | .brk=>∃a b,Inv X π a b s'/\D.bk a b
 | .cont=>∃a b,Inv X π a b s'/\D.ct a b
 | .ret u=>∃v a b,Inv X π a b s'/\m6 v u/\D.rt v b
def PE (X:Cx)(e:XG)(t:TE):Prop :=
 ∀π s (a:St) H Q,Inv X π a H s->t a H Q->XR (model X.prog X.w) X.A (eval e X.env) (EP X π a Q) X.xe s
def PT (X:Cx)(e:XG)(t:TT):Prop :=
 ∀π s (a:St) H Q,Inv X π a H s->t a H Q->XR (model X.prog X.w) X.A (isTrue e X.env<|eval e X.env) (TP X π a Q) X.xe s
def PW (X:Cx)(e:XG)(t:TT):Prop :=
 ∀a π s (b:St) H Q,Inv X π b H s->t b H Q->XR (model X.prog X.w) X.A (isTrue e X.env a) (TP X π b Q) X.xe s
def PW.pt (h:PW X e t):PT X e t:=h _
def PA (X:Cx)(es:List XG)(t:TA):Prop :=
 ∀b π s (a:St) H Q,Inv X π a H s->t a H Q->XR (model X.prog X.w) X.A (spliced<|XO b<|XJ es X.env) (AP X π a Q) X.xe s
def PS (X:Cx)(st:XF)(t:TS):Prop :=
 ∀π s (a:St) H D,Inv X π a H s->t D a H->XR (model X.prog X.w) X.A (exec st X.env) (SP X π D) X.xe s
def PSs (X:Cx)(st:List XF)(t:TS):Prop :=
 ∀π s (a:St) H D,Inv X π a H s->t D a H->XR (model X.prog X.w) X.A (execs st X.env) (SP X π D) X.xe s
def thn (h:XR M A t Q E s)(hQ:∀a s,Q a s->Q' a s):XR M A t Q' E s:=Rj h hQ λ_ _ x=>x
end

section
section

def Z0 (i:Nat):TE:=λa H Q=>∃v,a[i]? = some (some v)/\Q v H
def tC (v:V):TE:=λ_ H Q=>Q v H
def P5 (hN:X.N[i]? = some x)(hv:Vis X.env.scope x)(hd:autoParam (nDb x) eL)(hcd:autoParam (nCd x) eL):PE X (.Name x pos) (Z0 i):=by
 intro π s f H Q I h;obtain⟨v,e,h⟩:=h;obtain⟨m,g,hl⟩:=I.loc;obtain⟨u,r,l⟩:=hl i x v hN e hv;have fin:EP X π f Q u s:=#v[v,H,I,r,h];rcases l with ⟨b,j⟩ | ⟨b,c,d,a⟩
 .exact wpAny_Name (UX I.ok.kind b g j fin) hd
 .rcases b with b | b
  .exact wpAny_Name (wpAny_loadName_cell I.ok.kind b d a fin) hd
  .exact wpAny_Name (wpAny_loadName_free I.ok.kind b d a fin hcd) hd
def x6 {i j pos}:PE X (.Constant (.int i) j pos) (tC<|.int i):=λ_ _ _ H _ I h=>wpAny_Constant_int #v[.int i,H,I.tok _,#v[_,rfl],h]
def yQ {b j pos}:PE X (.Constant (.bool b) j pos) (tC<|.bl b):=λ_ _ _ H _ I h=>Constant_bool #v[.bl b,H,I,rfl,h]
def Hx {j pos}:PE X (.Constant .none j pos) (tC .non):=λ_ _ _ H _ I h=>Constant_none #v[.non,H,I,rfl,h]
def pT {x j pos}:PE X (.Constant (.str x) j pos) (tC<|.str x):=λ_ _ _ H _ I h=>Calls.Constant_str #v[.str x,H,I.tok _,#v[_,rfl],h]
def Gl (X:Cx)(x:Str):Prop:=X.env.kindOf x=some .globalImplicit
def bH {σ:St}(I:Inv X π σ H s)(hg:Gl X x)(hm:X.mg x=some u)(h:Q u s)
  (hd:autoParam (nDb x) eL):XR (model X.prog X.w) X.A (eval (.Name x pos) X.env) Q E s :=
 Calls.Name_function_global I.ok.kind hg (Calls.loadGlobal_global (by rw[I.ok.glob];exact I.mod.glob.keeps I.bk) hm h) hd
def aK {σ:St}(I:Inv X π σ H s)(hg:Gl X x)(hm:X.mg x=none)(hv:XW x=some u)(h:Q u s)
  (hn:autoParam (x ≠ "__name__") eL) (hd:autoParam (nDb x) eL):XR (model X.prog X.w) X.A (eval (.Name x pos) X.env) Q E s:=by obtain⟨c,b,a⟩:=I.mod.blt;exact Calls.Name_function_global I.ok.kind hg (Calls.loadGlobal_builtin (by rw[I.ok.glob];exact I.mod.glob.keeps I.bk) hm (by rw[I.ok.blt];exact b.keeps I.bk) ((a x hn).trans hv) h) hd
def Bo (hg:Gl X x)(hm:X.mg x=some u)(r:m6 v u)(hd:autoParam (nDb x) eL):PE X (.Name x pos) (tC v) :=
 λ_ _ _ H _ I h=>bH I hg hm #v[v,H,I,r,h] hd
def Bv (hg:Gl X x)(hm:X.mg x=none)(hv:XW x=some u)(r:m6 v u)(hn:autoParam (x ≠ "__name__") eL)(hd:autoParam (nDb x) eL):PE X (.Name x pos) (tC v) :=
 λ_ _ _ H _ I h=>aK I hg hm hv #v[v,H,I,r,h] hn hd


def JD (t u:TT):TT:=λa H Q=>t a H λc b=>if c=true then u a b Q else Q false b
def tOr (t u:TT):TT:=λa H Q=>t a H λc b=>if c=true then Q true b else u a b Q
def Ik (t:TT):TT:=λa H Q=>t a H λc b=>Q (!c) b
def sv (ha:PT X a tA):PW X (.BoolOp .And [a] pos) tA:=by
 intro d π s b H Q I h;refine isTrue_and (thn (ha π s b H Q I h) λc s1 e=>?_);cases c with
 | true=>exact isTrue_and_nil e
 | false=>exact e
def GT (ha:PT X a tA):PW X (.BoolOp .Or [a] pos) tA:=by
 intro d π s b H Q I h;refine isTrue_or (thn (ha π s b H Q I h) λc s1 e=>?_);cases c with
 | false=>exact isTrue_or_nil e
 | true=>exact e
def vZ (ha:PT X a tA)(hb:PW X (.BoolOp .And (b::rest) pos) tB'):PW X (.BoolOp .And (a::b::rest) pos) (JD tA tB'):=by
 intro i π s d H Q I h;refine isTrue_and (thn (ha π s d H _ I h) ?_ );rintro c s1 ⟨g,f,e⟩;cases c with
 | true=>exact hb i π s1 d g Q f e
 | false=>exact#v[g,f,e]
def Jt (ha:PT X a tA)(hb:PW X (.BoolOp .Or (b::rest) pos) tB'):PW X (.BoolOp .Or (a::b::rest) pos) (tOr tA tB'):=by
 intro i π s d H Q I h;refine isTrue_or (thn (ha π s d H _ I h) ?_ );rintro c s1 ⟨g,f,e⟩;cases c with
 | true=>exact#v[g,f,e]
 | false=>exact hb i π s1 d g Q f e
def FF (ha:PT X a tA):PT X (.UnaryOp .Not a pos) (Ik tA):=by intro π s b H Q I h;exact isTrue_not (ha π s b H (λc d=>Q (!c) d) I h)
def DO (ta tb:TE):TE:=λa H Q=>ta a H λx b=>∃c,x = .bl c/\if c=true then tb a b Q else Q (.bl false) b
def DH (ta:TE):TE:=λa H Q=>ta a H λx b=>∃c,x = .bl c/\Q (.bl (!c)) b
def EF {op}(h:PE X a t):PE X (.BoolOp op [a] pos) t:=λπ s b H Q I c=>BoolOp_one<|h π s b H Q I c
def FD (ha:PE X a ta)(hb:PE X (.BoolOp .And (b::rest) pos) tb):PE X (.BoolOp .And (a::b::rest) pos) (DO ta tb):=by
 intro π s e H Q I h;refine BoolOp_and (thn (ha π s e H _ I h) ?_ );rintro v s1 ⟨x,g,f,i,d⟩;obtain⟨c,rfl,d⟩:=d;cases i;refine SD ?_;cases c with
 | true=>exact hb π s1 e g Q f d
 | false=>exact#v[.bl false,g,f,rfl,d]
def Hj (ha:PE X a ta):PE X (.UnaryOp .Not a pos) (DH ta):=by intro π s d H Q I h;refine UnaryOp_ (thn (ha π s d H _ I h) ?_ );rintro v s1 ⟨x,g,f,e,b⟩;obtain⟨c,rfl,b⟩:=b;cases e;exact not_of<|SD #v[.bl (!c),g,f,rfl,b]
def tIf (t:TT)(ta tb:TE):TE:=λa H Q=>t a H λc b=>if c=true then ta a b Q else tb a b Q
def nA (hc:PT X c tA)(ha:PE X a ta)(hb:PE X b tb):PE X (.IfExp c a b pos) (tIf tA ta tb):=by
 intro π s e H Q I h;refine wpAny_IfExp (thn (hc π s e H _ I h) ?_ );rintro d s1 ⟨i,g,f⟩;cases d with
 | true=>exact ha π s1 e i Q g f
 | false=>exact hb π s1 e i Q g f
end
end

section
def SqL (K:Qf)(H:Hp)(a:Xy)(xs:List V):Prop :=
 Rd H a (.lst xs) \/
  ∃(o:XM) (b:Array Xx) (n:Nat),K.lookup a=some o/\o.cls = .type "list" /\ o.dict=none/\o.data = .seq b n/\b.size<=XI/\s0 xs b.toList
def SqT (K:Qf)(H:Hp)(a:Xy)(xs:List V):Prop :=
 Rd H a (.tup xs) \/
  ∃(o:XM) (b:Array Xx) (n:Nat),K.lookup a=some o/\o.cls = .type "tuple" /\ o.data = .seq b n/\b.size<=XI/\s0 xs b.toList
def JY:Xx->Option V
 | .none=>some .non
 | .bool b=>some<|.bl b
 | .int i _=>some<|.int i
 | .str x _=>some<|.str x
 | .bytes b _=>some<|.byt b
 | .float b _=>some<|.flt b
 | .ref a=>some<|.ref a
 | .type n=>some<|.ty n
 | _=>none
def m6.abs (r:m6 x u):JY u=some x:=by
 cases x with
 | non=>cases r;rfl
 | bl _=>cases r;rfl
 | int _=>obtain⟨t,rfl⟩:=r;rfl
 | str _=>obtain⟨t,rfl⟩:=r;rfl
 | byt _=>obtain⟨t,rfl⟩:=r;rfl
 | flt _=>obtain⟨t,rfl⟩:=r;rfl
 | ref _=>cases r;rfl
 | ty _=>cases r;rfl
def m6.inj {u} (r:m6 x u)(q:m6 y u):x=y:=QU<|r.abs.symm.trans q.abs
theorem s0.inj {xs ys}{us}(h:s0 xs us)(k:s0 ys us):xs=ys:=by induction h generalizing ys with
 | nil=>cases k;rfl
 | cons r t i=>cases k with | cons q t'=>rw[r.inj q,i t']
section
variable {σ:St}
def SqL.of {K} (h:H a=some (.lst xs)):SqL K H a xs:=.inl<|.inl h
def SqT.of {K} (h:H a=some (.tup xs)):SqT K H a xs:=.inl<|.inl h
def Inv.list (I:Inv X π σ H s)(h:SqL X.K H a xs):∃its,s0 xs its/\PlainL s.heap a its.toArray/\xs.length<=XI:=by
 rcases h with h | ⟨o,its,n,c,f,d,b,g,r⟩
 .obtain⟨z,its,n,r,e⟩:=h.ok I.hok;exact#v[its,r,#v[_,n,e,rfl,rfl,rfl],z]
 .refine#v[its.toList,r,#v[o,n,I.kIn a o c,f,d,by simpa using b],?_];have e:=r.length;simp only[RS]at e;simp[*]
def Inv.tuple (I:Inv X π σ H s)(h:SqT X.K H a xs):∃its,s0 xs its/\IsTup s.heap a its.toArray/\xs.length<=XI:=by
 rcases h with h | ⟨o,its,n,c,d,b,f,r⟩
 .obtain⟨z,its,r,p⟩:=h.ok I.hok;exact#v[its,r,p,z]
 .refine#v[its.toList,r,#v[o,I.kIn a o c,d,n,by simpa using b],?_];have e:=r.length;simp only[RS]at e;simp[*]
def Inv.list_inj (I:Inv X π σ H s)(h:SqL X.K H a xs)(h':SqL X.K H a ys):xs=ys:=by
 obtain⟨c,r,⟨o,n,e,_,_,d⟩,_⟩:=I.list h;obtain⟨b,i,⟨k,l,f,_,_,g⟩,_⟩:=I.list h';rw[e]at f;cases f;rw[d]at g;injection g with j _
 have:c=b:=by simpa using Sn Array.toList j
 subst this;exact r.inj i
def Inv.tuple_inj (I:Inv X π σ H s)(h:SqT X.K H a xs)(h':SqT X.K H a ys):xs=ys:=by
 obtain⟨c,r,⟨o,e,_,n,d⟩,_⟩:=I.tuple h;obtain⟨b,i,⟨k,f,_,l,g⟩,_⟩:=I.tuple h';rw[e]at f;cases f;rw[d]at g;injection g with j _
 have:c=b:=by simpa using Sn Array.toList j
 subst this;exact r.inj i
end
abbrev Cx.wish (X:Cx)(E:Xx->Xz->Prop):Cx:={ X with xe:=E }
abbrev Cx.nox (X:Cx):Cx:=X.wish λ_ _=>False
def Cx.Ok.wish {X:Cx}(ok:X.Ok)(E):(X.wish E).Ok :=
 #v[ok.mod,ok.kind,ok.glob,ok.blt,ok.above,ok.inj,ok.has,ok.cab,ok.hd,ok.frames,ok.stk,ok.exf,ok.bs,ok.bsz,ok.noex,ok.exfs,ok.funs,ok.frf]
def Cx.Ok.unwish {X:Cx}(ok:(X.wish E).Ok):X.Ok :=
 #v[ok.mod,ok.kind,ok.glob,ok.blt,ok.above,ok.inj,ok.has,ok.cab,ok.hd,ok.frames,ok.stk,ok.exf,ok.bs,ok.bsz,ok.noex,ok.exfs,ok.funs,ok.frf]
section
variable {σ:St}
def Inv.wish (I:Inv X π σ H s)(E):Inv (X.wish E) π σ H s:=#v[I.ok.wish E,I.os,I.bare,I.base,I.loc,I.cell,I.free,I.freeC,I.pin,I.hok,I.len]
def Inv.unwish (I:Inv (X.wish E) π σ H s):Inv X π σ H s:=#v[I.ok.unwish,I.os,I.bare,I.base,I.loc,I.cell,I.free,I.freeC,I.pin,I.hok,I.len]
def SP.unwish (h:SP (X.wish E) π D f s'):SP X π D f s':=by
 cases f with
 | next=>obtain⟨a,b,I,q⟩:=h;exact#v[a,b,I.unwish,q]
 | brk=>obtain⟨a,b,I,q⟩:=h;exact#v[a,b,I.unwish,q]
 | cont=>obtain⟨a,b,I,q⟩:=h;exact#v[a,b,I.unwish,q]
 | ret u=>obtain⟨v,a,b,I,r,q⟩:=h;exact#v[v,a,b,I.unwish,r,q]
def PT.nox (h:PT X.nox e t):PT X e t:=λπ s σ H Q I a =>
 Rj (h π s σ H Q (I.wish _) a) (λ_ _ #v[c,b,q]=>#v[c,b.unwish,q]) λ_ _ z=>False.elim z
def PSs.nox {st}(h:PSs X.nox st t):PSs X st t:=λπ s σ H D I a =>
 Rj (h π s σ H D (I.wish _) a) (λ_ _ q=>q.unwish) λ_ _ z=>False.elim z
end
section
variable {st:XF}
def Aa :TS:=λD a H=>D.nx a H
def qF (t u:TS):TS:=λD a H=>t { D with nx:=u D } a H
def gr :PSs X [] Aa:=λ_ _ a H _ I h=>Tw #v[a,H,I,h]
def D5 (h1:PS X st t)(h2:PSs X rest u):PSs X (st::rest) (qF t u):=by
 intro π s b H D I h;refine VU (thn (h1 π s b H { D with nx:=u D } I h) λf s1 q=>?_);cases f with
 | next =>obtain⟨a,d,c,q⟩:=q;exact h2 π s1 a d D c q
 | ret v=>exact q
 | brk=>exact q
 | cont=>exact q
def R4 (h1:PS X st t):PSs X [st] t:=by
 intro π s a H D I h;refine VU (thn (h1 π s a H D I h) λf s1 q=>?_);cases f with
 | next=>exact Tw q
 | ret v=>exact q
 | brk=>exact q
 | cont=>exact q
def Inv.quiet {σ:St}(I:Inv X π σ H s):interactive X.env=false:=by simp[interactive,I.ok.kind]
def wm (te:TE):TS:=λD a H=>te a H λ_ b=>D.nx a b
def Cs (he:PE X e te)(hs:autoParam (XT e none pos.line X.env=pure false) eH):PS X (.Expr e pos) (wm te):=by intro π s a H D I h;exact wpAny_Expr_any (thn (he π s a H _ I h) λv s1 q90=>by obtain⟨x,d,c,f,b⟩:=q90;exact #v[a,d,c,b]) I.quiet hs
def II (te:TE):TS:=λD a H=>te a H D.rt
def iF (he:PE X e te):PS X (.Return (some e) pos) (II te):=by intro π s a H D I h;exact wpAny_Return_some (thn (he π s a H _ I h) λv s1 q90=>by obtain⟨x,f,d,b,c⟩:=q90;exact #v[x,a,f,d,b,c])
def Bp (c:TT)(t u:TS):TS:=λD a H=>c a H λb d=>if b=true then t D a d else u D a d
def mK (hc:PT X c tc)(ha:PSs X a t)(hb:PSs X b u):PS X (.If c a b pos) (Bp tc t u):=by
 intro π s e H D I h;refine wpAny_If (thn (hc π s e H _ I h) ?_ );rintro d s1 ⟨i,g,f⟩;cases d with
 | true=>exact ha π s1 e i D g f
 | false=>exact hb π s1 e i D g f
end
abbrev TG :=V->St->Hp->(St->Hp->Prop)->Prop
abbrev TGs :=List V->St->Hp->(St->Hp->Prop)->Prop
def PG (X:Cx)(target:XG)(t:TG):Prop :=
 ∀π s (b:St) H v u Q,Inv X π b H s->m6 v u->t v b H Q ->
  XR (model X.prog X.w) X.A (assign target X.env u) (λ_ d=>∃a c,Inv X π a c d/\Q a c) X.xe s
def PGs (X:Cx)(ts:List XG)(t:TGs):Prop :=
 ∀π s (b:St) H c us Q,Inv X π b H s->s0 c us->t c b H Q ->
  XR (model X.prog X.w) X.A (assignInOrder ((XY ts X.env).map (·.2)) us) (λ_ e=>∃a d,Inv X π a d e/\Q a d) X.xe s
abbrev Ac :=V->V->V->Hp->(Hp->Prop)->Prop
def GN (X:Cx)(t:Ac):Prop :=
 ∀π s (a:St) H o i v b c u Q,Inv X π a H s->m6 o b->m6 i c->m6 v u->t o i v H Q ->
  XR (model X.prog X.w) X.A (setItem b c u) (λ_ e=>∃d,Inv X π a d e/\Q d) X.xe s
abbrev TIp :=V->V->Hp->VK->Prop
def PIp (X:Cx)(op:Operator)(t:TIp):Prop :=
 ∀π s (a:St) H x y v u Q,Inv X π a H s->m6 x v->m6 y u->t x y H Q ->
  XR (model X.prog X.w) X.A (inplaceOp op v u) (EP X π a Q) X.xe s
section

def M6 (i:Nat):TG:=λv a H Q=>Q (a.set i<|some v) H
def Bk (hN:X.N.Nodup)(hi:X.N[i]? = some x)(hx:Loc X.env.scope x)(hf:autoParam (X.fn x=true\/X.env.scope.names.lookup x=some .local) eM):PG X (.Name x pos) (M6 i):=by intro π s b H v u Q I r h;exact wpAny_assign_Name (V7 I hN hi hx r (λc a=>#v[_,H,a,h]) hf)
def JB :TGs:=λb a H Q=>b=[]/\Q a H
def DA (t:TG)(u:TGs):TGs:=λc b H Q=>∃v r,c=v::r/\t v b H λa d=>u r a d Q
def AL :PGs X [] JB:=by intro π s a H b us Q I r h;obtain⟨e,h⟩:=h;subst e;cases r;exact assignInOrder_nil #v[a,H,I,h]
def Ab (h1:PG X e t)(h2:PGs X es u)
  (hs:autoParam ((XY (e::es) X.env).map (·.2)=assign e X.env::(XY es X.env).map (·.2)) eH):PGs X (e::es) (DA t u):=by
 intro π s b H j us Q I r h;obtain⟨v,k,f,h⟩:=h;subst f;cases r with
 | cons r c =>rw[hs];refine assignInOrder_cons (thn (h1 π s b H _ _ _ I r h) ?_ );rintro _ s1 ⟨a,i,g,d⟩;exact h2 π s1 a i _ _ Q g c d
def FP (K:Qf)(n:Nat)(t:TGs):TG:=λv c H Q=>∃a b,v = .ref a/\SqT K H a b/\b.length=n/\t b c H Q
def EM (hc:X.calm=true)(h:PGs X es t)
  (hn:autoParam ((XY es X.env).length=n) eH) (hst:autoParam ((XY es X.env).findIdx? (·.1)=none) eH):PG X (.Tuple es k pos) (FP X.K n t):=by
 intro π s d H v u Q I r c;obtain⟨a,g,m,l,hl,c⟩:=c;subst m;cases r;obtain⟨i,f,ht,q⟩:=I.tuple l;refine assign_Tuple_tuple (I.ok.hd hc) ht (by simp[hn,<-hl,f.length]) hst λh' j=>?_
 have p:Inv X π d H { s with heap:=h' }:=I.kept λb o e=>j b o (QY<|QJ e) e
 exact h π _ d H g _ Q p (by simpa using f) c
def JH (to ti:TE)(t:Ac):TG:=λv a H Q=>to a H λo d=>ti a d λi c=>t o i v c λb=>Q a b
def qt (ho:PE X o to)(hi:PE X i ti)(hs:GN X t)
  (ha:autoParam (∀v,assign (.Subscript o i pos) X.env v=(do
   let ov <-holding [v] (eval o X.env)
   let iv <-holding [v,ov] (eval i X.env)
   standAt pos
   holding [v,ov,iv] (setItem ov iv v)
   release [v,ov,iv] [])) eT):PG X (.Subscript o i pos) (JH to ti t):=by intro π s a H v u Q I r h;rw[ha];refine QD (Sq<|thn (ho π s a H _ I h) ?_ );rintro ov s1 ⟨x,n,k,c,f⟩;refine QD (Sq<|thn (hi π s1 a n _ k f) ?_ );rintro iv s2 ⟨y,m,j,b,e⟩;refine QD (Tg<|QD<|Sq<|thn (hs π s2 a m x y v ov iv u _ j c b r e) ?_ );rintro _ p ⟨l,g,d⟩;exact wpAny_release #v[a,l,g,d]
def aa (te:TE)(g:TG):TS:=λD a H=>te a H λx b=>g x a b D.nx
def kR (he:PE X e te)(hg:PG X tg g)(hs:autoParam (swapsWithSole [tg] e pos.line X.env=pure false) eH)(hw:autoParam (swappedStores [tg] e X.env=pure none) eH)
  (h1:autoParam ((XY [tg] X.env).map (·.2)=[assign tg X.env]) eH):PS X (.Assign [tg] e pos) (aa te g):=by intro π s a H D I h;refine wpAny_Assign_stores (thn (he π s a H _ I h) ?_ ) hs hw;rintro v s1 ⟨x,f,d,b,c⟩;rw[h1];exact thn (hg π s1 a f x v _ d b c) λ_ s2 q=>q
def M3 (hN:X.N.Nodup)(hi:X.N[i]? = some x)(hx:Loc X.env.scope x)(he:PE X e te)(hs:autoParam (XT e (some<|.Name x pos') pos.line X.env=pure false) eH)(hf:autoParam (X.fn x=true\/X.env.scope.names.lookup x=some .local) eM) :
  PS X (.Assign [.Name x pos'] e pos) (aa te<|M6 i):=by intro π s a H D I h;refine wpAny_Assign_Name (thn (he π s a H _ I h) ?_ ) hs;rintro v s1 ⟨y,g,f,b,c⟩;exact V7 f hN hi hx b (λs2 d=>#v[_,g,d,c]) hf
def Jg (i j:Nat)(ta:TA):TS:=λD a H=>ta a H λb c=>∃v w,b=[v,w]/\D.nx ((a.set i<|some v).set j<|some w) c
def GY {ta}{kt k2 pt2}(hc:X.calm=true)(hN:X.N.Nodup)(hi:X.N[i]? = some x)(hj:X.N[j]? = some y)(hij:i≠j)
  (hx:X.env.scope.names.lookup x=some .local) (hy:X.env.scope.names.lookup y=some .local) (ha:PA X [a,b] ta)
  (hw:swappedStores [.Tuple [.Name x px,.Name y py] kt pt] (.Tuple [a,b] k2 pt2) X.env=pure (some [x,y]))
  (hs:autoParam (swapsWithSole [.Tuple [.Name x px,.Name y py] kt pt] (.Tuple [a,b] k2 pt2) pos.line X.env=pure false) eH) :
  PS X (.Assign [.Tuple [.Name x px,.Name y py] kt pt] (.Tuple [a,b] k2 pt2) pos) (Jg i j ta):=by
 intro π s l H D I h;rw[exec_Assign_arm];refine QD<|Tg ?_;rw[hs];refine QD<|QF ?_;rw[QK<|by decide];refine QD (Tuple_<|thn (ha _ π s l H _ I h) ?_ );rintro us s1 ⟨G,n,F,t,g⟩;obtain⟨v,w,A,g⟩:=g;subst A;obtain⟨d,c,rfl,r,f⟩:∃d c,us=[d,c]/\m6 v d/\m6 w c:=by
  cases t with
  | cons p q =>
   cases q with
   | cons z u =>cases u;exact#v[_,_,rfl,p,z]
 refine RI ?_ (by show 2<=XI;decide);have E:Inv X π l n { s1 with heap:=s1.heap.push { cls:=.type "tuple",data:=.seq [d,c].toArray } }:=F.kept λb o e=>QE _ e
 rw[hw];refine QD<|QF ?_;refine QD (Th<|QD<|unpackItems_tuple (items:=#[d,c]) (I.ok.hd hc) (IsTup.new s1.heap _) λh' k=>?_);have C:=E.kept (t':=s1.toks) λb o e=>k b o (QY<|QJ e) e
 refine QD (assignInOrder_cons<|wpAny_bindName<|V7 C hN hj (.inl hy) f (λs2 B=>?_)<|.inr hy);refine assignInOrder_cons (wpAny_bindName<|V7 B hN hi (.inl hx) r (λJ m=>assignInOrder_nil<|QF ?_)<|.inr hx);rw[List.set_comm _ _<|RM hij]at m;exact#v[_,n,m,g]
def FY (i:Nat)(te:TE)(ti:TIp):TS:=λD a H=>∃x,a[i]? = some (some x)/\te a H λy c=>ti x y c λz b=>D.nx (a.set i<|some z) b
def Hy (hN:X.N.Nodup)(hi:X.N[i]? = some x)(hx:Loc X.env.scope x)(he:PE X e te)(ho:PIp X op ti)(hf:autoParam (X.fn x=true\/X.env.scope.names.lookup x=some .local) eM) :
  PS X (.AugAssign (.Name x pos') op e pos) (FY i te ti):=by
 intro π s j H D I h;obtain⟨v,E,h⟩:=h;obtain⟨m,A,hl⟩:=I.loc;have g:Vis X.env.scope x:=by rcases hx with k | k;exact .inl k;exact .inr<|.inl k
 obtain⟨u,r,l⟩:=hl i x v hi E g;refine wpAny_AugAssign_Name ?_;have n:XR (model X.prog X.w) X.A (eval e X.env) (λw f=>XR (model X.prog X.w) X.A (inplaceOp op u w) (λr d=>XR (model X.prog X.w) X.A (storeName X.env x r) (λ_=>SP X π D .next) X.xe d) X.xe f) X.xe s:=by
  refine thn (he π s j H _ I h) ?_;rintro w s1 ⟨y,L,J,p,t⟩
  refine thn (ho π s1 j L v y u w _ J r p t) ?_;rintro z s2 ⟨M,K,G,o,q⟩
  exact V7 G hN hi hx o (λN F=>#v[_,K,F,q]) hf
 rcases l with ⟨a,B⟩ | ⟨a,c,C,b⟩
 .exact UX I.ok.kind a A B n
 .rcases a with a | a
  .exact wpAny_loadName_cell I.ok.kind a C b n
  .rcases hx with k | k
   .have:X.env.scope.names.lookup x=some .free:=a;rw[k]at this;cases this
   .have:X.env.scope.names.lookup x=some .free:=a;rw[k]at this;cases this
def yf (to ti te:TE)(tget:V->V->Hp->VK->Prop)(tip:TIp)(tset:Ac):TS:=λD a H=>to a H λo g=>ti a g λi f=>tget o i f λx e=>te a e λy d=>tip x y d λz c=>tset o i z c λb=>D.nx a b
def HU (X:Cx)(t:V->V->Hp->VK->Prop):Prop :=
 ∀π s (a:St) H o i b c Q,Inv X π a H s->m6 o b->m6 i c->t o i H Q ->
  XR (model X.prog X.w) X.A (getItem b c) (EP X π a Q) X.xe s
def BH (ho:PE X o to)(hi:PE X i ti)(hg:HU X tget)(he:PE X e te)(hp:PIp X op tip)(hs:GN X tset)
  (ha:autoParam (∀ov iv new,augStore i ov iv new=(do holding [new,ov,iv] (setItem ov iv new);release [new,ov,iv] [];pure .next)) oD):PS X (.AugAssign (.Subscript o i tpos) op e pos) (yf to ti te tget tip tset):=by
 intro π s a H D I h;refine wpAny_AugAssign_SubscriptAny (thn (ho π s a H _ I h) ?_ ) ha;rintro ov s1 ⟨d,P,J,g,A⟩;refine thn (hi π s1 a P _ J A) ?_;rintro iv s2 ⟨c,O,G,f,z⟩
 refine thn (hg π s2 a O d c ov iv _ G g f z) ?_;rintro b p ⟨l,N,F,t,y⟩
 refine thn (he π p a N _ F y) ?_;rintro v n ⟨k,M,E,r,x⟩
 refine thn (hp π n a M l k b v _ E t r x) ?_;rintro new m ⟨j,L,C,q,w⟩
 exact thn (hs π m a L d c j ov iv new _ C g f q w) λ_ Q #v[K,B,u]=>#v[a,K,B,u]
def ipI (f:Int->Int->Int):TIp:=λx y H Q=>∃i j,x = .int i/\y = .int j/\Q (.int<|f i j) H
def FE :PIp X .Add (ipI λi j=>i+j):=by intro π s e H x y v u Q I b a h;obtain⟨i,j,d,c,q⟩:=h;subst d;subst c;obtain⟨t,rfl⟩:=b;obtain⟨t',rfl⟩:=a;exact iadd_int #v[.int _,H,I.tok _,#v[_,rfl],q]
end
section

def pG (c:TT)(tb:TS):TS:=λD a H=>∃W:Nat->St->Hp->Prop,(∃m,W m a H)/\∀m a H,W m a H ->
 c a H λb f=>if b=true then ∃N,(∀d g,N d g->∃e,e<m/\W e d g)/\tb { D with nx:=N,ct:=N,bk:=D.nx } a f else D.nx a f
def wO (hp:PassesOwn (model X.prog X.w) X.A X.env X.xe)(hc:PT X c tc)(hb:PSs X body tb):PS X (.While c body [] pos) (pG tc tb):=by
 intro π s y H D I h;obtain⟨W,⟨C,A⟩,g⟩:=h;refine wpAny_While (codeAny_whileLoop (λn B=>∃e x,Inv X π e x B/\W n e x) ?_ C #v[y,H,I,A]);rintro n s1 ⟨d,w,E,z⟩;refine Ug hp (thn (hc π s1 d w _ E<|g n d w z) ?_ );rintro b s2 ⟨u,t,k⟩;cases b with
 | true =>
  obtain⟨N,r,k⟩:=k;rw[QH rfl];refine Ug hp (thn (hb π s2 d u _ t k) λf F j=>?_);cases f with
  | next =>obtain⟨a,i,q,m⟩:=j;obtain⟨o,p,l⟩:=r a i m;exact#v[o,p,a,i,q,l]
  | cont =>obtain⟨a,i,q,m⟩:=j;obtain⟨o,p,l⟩:=r a i m;exact#v[o,p,a,i,q,l]
  | brk=>exact j
  | ret v=>exact j
 | false =>rw[QK Ri];exact Tw #v[d,u,t,k]
end
structure It where
 go:Nat->Hp->Prop
 yld:Nat->Hp->V->Hp->Prop
 stop:Nat->Hp->Prop
def bX (X:Cx)(π:List (Xy×XM))(H:Hp)(b:Xy):Prop :=
 H b=none/\b≠X.env.locals/\b ∉ X.fs/\(b∈X.ex\/X.s₀.heap.objs.size<=b)/\(∀x c,X.env.cells.lookup x=some c->c≠b)/\∀p∈X.pn++π,p.1≠b
def Inv.fpOk {σ:St}{b:Xy}(I:Inv X π σ H s)(hb:s.heap.objs.size<=b)(hn:H' b=none):bX X π H' b:=by
 refine#v[hn,Rr<|QO I.lt hb,I.nofs hb,.inr<|QZ I.sz hb,λx c e z=>?_,λp a z=>?_]
 .obtain⟨v,q⟩:=I.cell x c e;exact absurd (QO q.lt (by rw[z];exact hb))<|Tf _
 .exact absurd (QO (QJ (I.pin p a).1) (by rw[z];exact hb))<|Tf _
structure Turn P w K tg (J:It) (fp:List Xy) it (tn:Nat->XH->Prop):Prop where
 mem:it∈fp
 obj:∀i h,tn i h->∀b∈fp,∃o,h.get? b=some o/\∀v,o.data ≠ .cell v
 keep:∀i h h',tn i h->(∀b∈fp,∀o,h.get? b=some o->h'.get? b=some o)->tn i h'
 item:∀X,X.prog=P->X.w=w->X.K=K->X.calm=true->∀i π s (σ:St) H E,Inv X π σ H s->(∀b∈fp,bX X π H b)->tn i s.heap->J.go i H ->
  XR (model P w) X.A (pyNext<|.ref it) (λr s1=>∃u,r=some u /\
   XR (model P w) X.A (letOwnedTupleGo tg (.ref it) u) (λ_ s2=>∃x H',Inv X π σ H' s2/\m6 x u/\J.yld i H x H'/\tn (i+1) s2.heap/\∀b∈fp,H' b=none) E s1) E s
 done:∀X,X.prog=P->X.w=w->X.K=K->X.calm=true->∀i π s (σ:St) H E,Inv X π σ H s->(∀b∈fp,bX X π H b)->tn i s.heap->J.stop i H ->
  XR (model P w) X.A (pyNext<|.ref it) (λr s1=>r=none/\Inv X π σ H s1) E s
 self:∀A i s Q E,tn i s.heap->Q (.ref it) s->XR (model P w) A (pyIter<|.ref it) Q E s
abbrev TI :=St->Hp->(It->Hp->Prop)->Prop
def PIE (X:Cx)(π:List (Xy×XM))(σ:St)(tg:XG)(R:It->Hp->Prop)(itv:Xx)(s2:Xz):Prop :=
 ∃(d:Xy) (e:List Xy) (c:Nat->XH->Prop) (J:It) (a:Hp),itv = .ref d/\Inv X π σ a s2/\Turn X.prog X.w X.K tg J e d c/\c 0 s2.heap/\(∀b∈e,bX X π a b)/\R J a
def PI (X:Cx)(tg iter:XG)(wi:TI):Prop :=
 ∀π s (a:St) H R,Inv X π a H s->wi a H R ->
  XR (model X.prog X.w) X.A (eval iter X.env) (λv s1=>XR (model X.prog X.w) X.A (pyIter v) (PIE X π a tg R) X.xe s1) X.xe s
def yp (ho:s.heap.get? it=some o)(hc:o.cls = .type n)(hd:o.data = .fields vs)
    (hn:["enumerate","zip","dict_itemiterator","dict_reverseitemiterator","odict_iterator","itertools.zip_longest","itertools.pairwise"].contains n=false) (hQ:Q () s):XR M A (letOwnedTupleGo tg (.ref it) u) Q E s:=by
  cases tg <;> first
    | exact QF hQ
    | (cases u <;> first
        | exact QF hQ
        | (refine QD (wpAny_load ho ?_)
           rw[hc,hd]
           show XR M A (if (["enumerate","zip","dict_itemiterator","dict_reverseitemiterator","odict_iterator","itertools.zip_longest","itertools.pairwise"].contains n&&vs[0]? == some (rawInt _))=true then _ else _) Q E s
           rw[QK (by intro h;rw[hn,WA]at h;cases h)]
           exact QF hQ))
def Itl (K:Qf)(a:Xy):It :=
 #v[λi H=>∃b x,SqL K H a b/\b[i]? = some x,λi H x c=>c=H/\∀b,SqL K H a b->b[i]? = some x,λi H=>∃b,SqL K H a b/\b.length<=i]
def Itt (K:Qf)(a:Xy):It :=
 #v[λi H=>∃b x,SqT K H a b/\b[i]? = some x,λi H x c=>c=H/\∀b,SqT K H a b->b[i]? = some x,λi H=>∃b,SqT K H a b/\b.length<=i]
def Itr (lo:Int)(n:Nat):It:=#v[λi _=>i<n,λi H x a=>a=H/\x = .int (lo+i),λi _=>n<=i]
def vq {K} (a it):Turn P w K tg (Itl K a) [it] it (λi h=>h.IsListIter it a i) where
 mem:=by simp
 obj:=λi h st b f=>by
  have e:b=it:=by simpa using f
  subst e;obtain⟨o,e,c,d⟩:=st;exact#v[o,e,λv z=>by rw[d]at z;cases z]
 keep:=λi h h' st k=>st.at λo e=>k it (by simp) o e
 item:=by
  intro X t r y J i π s G H E I l st hg;subst t r y;obtain⟨L,x,j,q⟩:=hg;obtain⟨n,m,p,N⟩:=I.list j;obtain⟨u,Q,M⟩:=m.get q;obtain⟨F,D,R,C,B,A⟩:=l it (by simp);refine wpAny_pyNext_list_item st p.isList (by simpa using Q) λh' g sb=>?_
  have T:Inv X π G H { s with heap:=h' }:=I.turned (λb o f e=>(sb.2 b f).trans e) F D C B A;obtain⟨o,e,c,d⟩:=id g;exact#v[u,rfl,yp e c d (by decide) #v[x,H,T,M,#v[rfl,λU O=>by rw[I.list_inj O j];exact q],g,λb f=>(l b f).1]]
 done:=by intro X t r y J i π s G H E I l st hg;subst t r y;obtain⟨L,j,q⟩:=hg;obtain⟨n,m,p,N⟩:=I.list j;obtain⟨F,D,R,C,B,A⟩:=l it (by simp);have hl:=m.length;exact wpAny_pyNext_list_end (I.ok.hd J) st p.isList (by simp;lia) λh' S=>#v[rfl,I.turned (λb o f e=>S b o f e) F D C B A]
 self:=λ_ _ _ _ _ st h=>wpAny_pyIter_listiter st h
def oC {K} (a it):Turn P w K tg (Itt K a) [it] it (λi h=>h.IsTupleIter it a i) where
 mem:=by simp
 obj:=λi h st b g=>by
  have e:b=it:=by simpa using g
  subst e;obtain⟨o,e,c,d⟩:=st;exact#v[o,e,λv z=>by rw[d]at z;cases z]
 keep:=λi h h' st k=>st.at λo e=>k it (by simp) o e
 item:=by
  intro X t r y J i π s G H E I m st hg;subst t r y;obtain⟨L,x,l,q⟩:=hg;obtain⟨f,n,p,N⟩:=I.tuple l;obtain⟨u,Q,M⟩:=n.get q;obtain⟨F,D,R,C,B,A⟩:=m it (by simp);refine wpAny_pyNext_tuple_item st (p) (by simpa using Q) λh' j sb=>?_
  have T:Inv X π G H { s with heap:=h' }:=I.turned (λb o g e=>(sb.2 b g).trans e) F D C B A;obtain⟨o,e,c,d⟩:=id j;exact#v[u,rfl,yp e c d (by decide) #v[x,H,T,M,#v[rfl,λU O=>by rw[I.tuple_inj O l];exact q],j,λb g=>(m b g).1]]
 done:=by intro X t r y J i π s G H E I m st hg;subst t r y;obtain⟨L,l,q⟩:=hg;obtain⟨f,n,p,N⟩:=I.tuple l;obtain⟨F,D,R,C,B,A⟩:=m it (by simp);have hl:=n.length;exact wpAny_pyNext_tuple_end (I.ok.hd J) st (p) (by simp;lia) λh' S=>#v[rfl,I.turned (λb o g e=>S b o g e) F D C B A]
 self:=λ_ _ _ _ _ st h=>wpAny_pyIter_tupleiter st h
def pQ {K} (it) (lo) (n):Turn P w K tg (Itr lo n) [it] it (λi h=>IsRangeIter h it (lo+(i:Nat)*1) ((n:Int)-(i:Nat)) 1) where
 mem:=by simp
 obj:=λi h st b a=>by
  have e:b=it:=by simpa using a
  subst e;exact#v[_,st,λv z=>by have A:=z;cases A]
 keep:=λi h h' st k=>k it (by simp) _ st
 item:=by
  intro X j f l g i π s x H E I d st hg;subst j f l;obtain⟨u,r,D,q,p,m⟩:=d it (by simp);have W:=Walks.range (prog:=X.prog) (w:=X.w) (I.ok.hd g) it lo 1 n;refine W.item i s _ _ hg st λv h' y C c B=>?_
  obtain⟨t,rfl⟩:=C;have G:Inv X π x H { s with heap:=h',toks:=y }:=I.turned (λb o a e=>B b o (by simpa using a) e) u r q p m;refine#v[_,rfl,yp c rfl rfl (by decide) #v[.int<|lo+i,H,G,#v[t,?_],#v[rfl,rfl],c,λb a=>(d b a).1]];rw[VN]
 done:=by intro X j f l g i π s x H E I d st hg;subst j f l;obtain⟨u,r,D,q,p,m⟩:=d it (by simp);exact wpAny_pyNext_range_end (I.ok.hd g) st (by have:n<=i:=hg;lia) λh' F=>#v[rfl,I.turned (λb o a e=>F b o a e) u r q p m]
 self:=λ_ _ _ _ _ st h=>wpAny_pyIter_rangeiter st h
end

section
section

def vU {σ:St}{lo}(I:Inv X π σ H s)(h1:-(2 ^ 62)<=lo)(h2:lo<2 ^ 62)(h3:-(2 ^ 62)<=hi)(h4:hi<2 ^ 62)
  (q:R (Itr lo (hi-lo).toNat) H):XR (model X.prog X.w) X.A (pyIter<|.ref s.heap.objs.size) (PIE X π σ tg R) E { s with heap:=s.heap.push { cls:=.type "range",data:=.fields #[.int lo t,.int hi u,.int 1 v] },toks:=tk }:=by
 refine wpAny_pyIter_range (IsRange.new ..) (small_one h1 h2 h3 h4) ?_;have a:Inv X π σ H { s with heap:=s.heap.push { cls:=.type "range",data:=.fields #[.int lo t,.int hi u,.int 1 v] },toks:=tk }:=I.kept λb o e=>QE _ e
 refine#v[(s.heap.push { cls:=.type "range",data:=.fields #[.int lo t,.int hi u,.int 1 v] }).objs.size,[(s.heap.push { cls:=.type "range",data:=.fields #[.int lo t,.int hi u,.int 1 v] }).objs.size],_,_,H,rfl,
  a.kept λb o e=>QE _ e,pQ _ lo (hi-lo).toNat,?_,λb c=>?_,q]
 .have f:lo+((0:Nat))*1=lo:=by simp
  have d:(((hi-lo).toNat:Nat))-((0:Nat))=Builtin.Range.rangeSize lo hi 1:=by rw[rangeSize_one];split <;> lia
  rw[f,d];exact QV _ rfl
 .have e:b=(s.heap.push { cls:=.type "range",data:=.fields #[.int lo t,.int hi u,.int 1 v] }).objs.size:=by simpa using c
  subst e;exact a.fpOk (QP _)<|a.hok.fresh<|QP _
def Ek (ta:TA):TI:=λa H R=>ta a H λb c=>∃j,b=[.int j] /\ -(2 ^ 62)<=j/\j<2 ^ 62/\R (Itr 0 j.toNat) c
def vv {ta}(hg:Gl X "range")(hm:X.mg "range" = none)(ha:PA X [a] ta)(hs:autoParam (XJ [a] X.env=[(false,eval a X.env)]) eH):PI X tg (.Call (.Name "range" p) [a] [] pos) (Ek ta):=by
 intro π s c H R I h;refine Call_ (aK I hg hm boot_range<|Ta (thn (ha pos π s c H _ I h) ?_ ) hs rfl);rintro us s1 ⟨k,l,i,f,b⟩;obtain⟨j,e,b,g,q⟩:=b;subst e;cases f with
 | cons r d =>cases d;obtain⟨t,rfl⟩:=r;exact call_range_1 (vU i (by simp[*] ) (by simp[*] ) b g<|by simpa using q)
def yr (wi:TI)(g:TG)(tb:TS):TS:=λD a H=>wi a H λJ h=>∃W:Nat->Nat->St->Hp->Prop,(∃m,W 0 m a h)/\∀i m a H,W i m a H ->
 (J.stop i H/\D.nx a H)\/(J.go i H/\∃N,(∀b c,N b c->∃e,e<m/\W (i+1) e b c)/\∀x c,J.yld i H x c->g x a c λd f=>tb { D with nx:=N,ct:=N,bk:=D.nx } d f)
def fk (fp:List Xy)(h:XH):List (Xy×XM):=fp.filterMap λb=>(h.get? b).map λo=>(b,o)
def R3 (hb:b∈fp)(e:h.get? b=some o):(b,o)∈fk fp h:=WJ.2 #v[b,hb,by rw[e];rfl]
def uL (hp:p∈fk fp h):p.1∈fp/\h.get? p.1=some p.2:=by
 obtain⟨b,a,e⟩:=WJ.1 hp;cases q:h.get? b with
 | none=>rw[q]at e;cases e
 | some o =>rw[q]at e;have c:=QU e;subst c;exact#v[a,q]
def Inv.pinned {σ:St}(I:Inv X π σ H s)(hf:∀b∈fp,bX X π H b)(ho:∀b∈fp,∃o,s.heap.get? b=some o/\∀v,o.data ≠ .cell v):Inv X (π++fk fp s.heap) σ H s :=
 I.pins_of λp f=>(UH.1 f).elim (λz=>I.pin p<|Rp _ z) λz=>by obtain⟨a,e⟩:=uL z;obtain⟨i,h,g,_⟩:=hf p.1 a;obtain⟨o,c,d⟩:=ho p.1 a;rw[e]at c;cases c;exact#v[e,i,h,g,d]
def Inv.unpinned {σ:St}(I:Inv X (π++pl) σ H s):Inv X π σ H s:=I.pins_of λp a=>I.pin p<|Rp _<|SX _ a
def yB (hp:PassesOwn (model X.prog X.w) X.A X.env X.xe)(hc:X.calm=true)(hi:PI X tg iter wi)(hg:PG X tg g)(hb:PSs X body tb)
  (hs:autoParam (∀x,XX iter X.env x=pure x) eT):PS X (.For tg iter body [] pos) (yr wi g tb):=by
 intro π s Q H D I h;refine wpAny_For (thn (hi π s Q H _ I h) λv s1 h1=>thn h1 λab s2 h2=>?_) hs;obtain⟨it,fp,R,J,H2,e,I2,T,K,Y,W,⟨m0,w0⟩,z⟩:=h2;subst e;have k:∀{t},(∀b∈fp,t b=none)->∀b∈fp,bX X π t b:=λhn b hb=>#v[hn b hb,(Y b hb).2]
 refine codeAny_forLoop_any (λn V=>∃i j t,Inv X π j t V/\R i V.heap/\(∀b∈fp,t b=none)/\W i n j t) ?_ m0 #v[0,Q,H2,I2,K,λb hb=>(Y b hb).1,w0];rintro n U ⟨i,c,F,Z,B,E,w3⟩;rcases z i n c F w3 with ⟨A,qn⟩ | ⟨go,N,hN,step⟩
 .refine Ug hp (thn (T.done X rfl rfl rfl hc i π U c F X.xe Z (k E) B A) ?_ );rintro r s4 ⟨M,I4⟩;subst M;exact Tw #v[c,F,I4,qn]
 .refine Ug hp (thn (T.item X rfl rfl rfl hc i π U c F X.xe Z (k E) B go) ?_ );rintro r s4 ⟨u,M,h4⟩;subst M;refine Ug hp (thn h4 ?_ );rintro _ S ⟨x,H5,I5,r5,y5,y,O⟩;have P:=I5.pinned (k O)<|T.obj _ _ y;refine Ug hp (thn (hg _ S c H5 x u _ P r5<|step x H5 y5) ?_ );rintro _ s6 ⟨G,H6,I6,q6⟩;refine Ug hp (thn (hb _ s6 G H6 _ I6 q6) λf L w=>?_);have l:∀{a} {q},Inv X (π++fk fp S.heap) a q L->N a q->∃m,m<n/\∃i j t,Inv X π j t L/\R i L.heap/\(∀b∈fp,t b=none)/\W i m j t:=λ{a q} p C=>by obtain⟨m',hm,w7⟩:=hN a q C;refine#v[m',hm,i+1,a,q,p.unpinned,T.keep _ _ _ y λb hb o e=>(p.pin (b,o)<|Rp _<|Rp _<|R3 hb e).1,λb hb=>?_,w7];obtain⟨o,e,d⟩:=T.obj _ _ y b hb;exact(p.pin (b,o)<|Rp _<|Rp _<|R3 hb e).2.1
  cases f with
  | next=>obtain⟨a,q,p,C⟩:=w;exact l p C
  | cont=>obtain⟨a,q,p,C⟩:=w;exact l p C
  | brk=>obtain⟨a,q,p,w⟩:=w;exact#v[a,q,p.unpinned,w]
  | ret v=>obtain⟨x7,a,q,p,r7,w⟩:=w;exact#v[x7,a,q,p.unpinned,r7,w]
end
end
section
abbrev R2 :=V->V->Hp->VK->Prop
def OpR (X:Cx)(f:Xx->Xx->Sem Xx)(r:R2):Prop :=
 ∀π s (a:St) H x y v u Q,Inv X π a H s->m6 x v->m6 y u->r x y H Q ->
  XR (model X.prog X.w) X.A (f v u) (EP X π a Q) X.xe s
def UnR (X:Cx)(f:Xx->Sem Xx)(r:V->Hp->VK->Prop):Prop :=
 ∀π s (a:St) H x v Q,Inv X π a H s->m6 x v->r x H Q ->
  XR (model X.prog X.w) X.A (f v) (EP X π a Q) X.xe s
def D1 (X:Cx)(f:Xx)(r:List V->Hp->VK->Prop):Prop :=
 ∀π s (a:St) H b us Q,Inv X π a H s->s0 b us->r b H Q ->
  XR (model X.prog X.w) X.A (call f us) (EP X π a Q) X.xe s
def JQ (X:Cx)(r:V->Hp->(Bool->Hp->Prop)->Prop):Prop :=
 ∀π s (a:St) H x v Q,Inv X π a H s->m6 x v->r x H Q ->
  XR (model X.prog X.w) X.A (truthy v) (TP X π a Q) X.xe s
def tOp (r:R2)(ta tb:TE):TE:=λa H Q=>ta a H λx c=>tb a c λy b=>r x y b Q
def tUn (r:V->Hp->VK->Prop)(ta:TE):TE:=λa H Q=>ta a H λx b=>r x b Q
def rI (C:Int->Int->Prop)(g:Int->Int->V):R2:=λx y H Q=>∃i j,x = .int i/\y = .int j/\C i j/\Q (g i j) H
def rI0 (g:Int->Int->V):R2:=λx y H Q=>∃i j,x = .int i/\y = .int j/\Q (g i j) H
def rU (g:Int->V):V->Hp->VK->Prop:=λx H Q=>∃i,x = .int i/\Q (g i) H
section

def Gc (ha:PE X a ta)(hb:PE X b tb){σ:St}{R:V->V->Hp->Prop}(I:Inv X π σ H s)
  (h:ta σ H λx H1=>tb σ H1 λy H2=>R x y H2)  {f:Xx->Xx->Sem Xx}
  (hf:∀v u s2 x y H2,Inv X π σ H2 s2->m6 x v->m6 y u->R x y H2->XR (model X.prog X.w) X.A (f v u) Q X.xe s2) :
  XR (model X.prog X.w) X.A (eval a X.env) (λv s₁=>XR (model X.prog X.w) X.A (eval b X.env) (λu s₂=>XR (model X.prog X.w) X.A (f v u) Q X.xe s₂) X.xe s₁) X.xe s:=by
 refine thn (ha π s σ H _ I h) ?_;rintro v s1 ⟨x,H1,j,d,g⟩
 refine thn (hb π s1 σ H1 _ j g) ?_;rintro u s2 ⟨y,H2,i,c,e⟩
 exact hf v u s2 x y H2 i d c e
def G5 (ho:OpR X (binaryOp op) r)(ha:PE X a ta)(hb:PE X b tb):PE X (.BinOp a op b pos) (tOp r ta tb):=by intro π s c H Q I h;exact wpAny_BinOp (Gc ha hb I h λv u s2 x y g f e d q=>ho π s2 c g x y v u Q f e d q)
def xN (ho:UnR X (unaryOp op) r)(ha:PE X a ta):PE X (.UnaryOp op a pos) (tUn r ta):=by intro π s b H Q I h;exact UnaryOp_ (thn (ha π s b H _ I h) λv s1 q90=>by obtain⟨x,f,e,c,d⟩:=q90;exact ho π s1 b f x v Q e c d)
def opI {g:Int->Int->Int}
  (rule:∀i j t u s Q E,C i j->Q (.int (g i j) s.toks) { s with toks:=s.toks+1 }->XR (model X.prog X.w) X.A (f (.int i t)<|.int j u) Q E s) :
  OpR X f (rI C λi j=>.int<|g i j):=by intro π s d H x y v u Q I b a h;obtain⟨i,j,rfl,rfl,c,q⟩:=h;obtain⟨t,rfl⟩:=b;obtain⟨t',rfl⟩:=a;exact rule i j t t' s _ _ c #v[.int<|g i j,H,I.tok _,#v[_,rfl],q]
def Ip {g:Int->Int->Int}
  (rule:∀i j t u s Q E,Q (.int (g i j) s.toks) { s with toks:=s.toks+1 }->XR (model X.prog X.w) X.A (f (.int i t)<|.int j u) Q E s) :
  OpR X f (rI0 λi j=>.int<|g i j):=by intro π s c H x y v u Q I b a h;obtain⟨i,j,rfl,rfl,q⟩:=h;obtain⟨t,rfl⟩:=b;obtain⟨t',rfl⟩:=a;exact rule i j t t' s _ _ #v[.int<|g i j,H,I.tok _,#v[_,rfl],q]
def Aq {g:Int->Int->Bool}
  (rule:∀i j t u s Q E,Q (.bool<|g i j) s->XR (model X.prog X.w) X.A (f (.int i t)<|.int j u) Q E s) :
  OpR X f (rI0 λi j=>.bl<|g i j):=by intro π s c H x y v u Q I b a h;obtain⟨i,j,rfl,rfl,q⟩:=h;obtain⟨t,rfl⟩:=b;obtain⟨t',rfl⟩:=a;exact rule i j t t' s _ _ #v[.bl<|g i j,H,I,rfl,q]
def JK (i j:Int):Prop:=0<j/\j<1073741824
def CV (i j:Int):Prop:=0<=j/\j<=1000000/\i.natAbs<2 ^ 64
def wB (i j:Int):Prop:=(-(2 ^ 64)<i/\i<2 ^ 64)\/(-(2 ^ 64)<j/\j<2 ^ 64)
def wB.ok (h:wB i j):IntMulOk i j:=by
 rcases h with ⟨b,a⟩ | ⟨b,a⟩
 .exact .of_left<|intBits_le_64 b a
 .exact .of_right<|intBits_le_64 b a
def cM :OpR X (binaryOp .Add) (rI0 λi j=>.int<|i+j):=Ip λ_ _ _ _ _ _ _ q=>add_int q
def EY :OpR X (binaryOp .Sub) (rI0 λi j=>.int<|i-j):=Ip λ_ _ _ _ _ _ _ q=>sub_int q
def cL :OpR X (binaryOp .Mult) (rI wB λi j=>.int<|i*j):=opI λ_ _ _ _ _ _ _ a q=>mul_int q a.ok
def lJ :OpR X (binaryOp .FloorDiv) (rI JK λi j=>.int<|i / j):=opI λi j _ _ _ _ _ a q=>by have c:=a.1;have b:=a.2;exact floordiv_int (by lia) (by rw[WU i<|by lia];exact q) (.inl<|PyProof.noPylong_small<|by omega )
def ay :OpR X (binaryOp .Mod) (rI (λ_ j=>0<j) λi j=>.int<|i % j):=opI λi j _ _ _ _ _ a q=>by have b:=a;exact mod_int' (by lia) (by rw[Int.fmod_eq_emod_of_nonneg i<|by lia];exact q)
def yA :OpR X (binaryOp .Pow) (rI CV λi j=>.int<|i ^ j.toNat):=opI λ_ _ _ _ _ _ _ a q=>pow_int_small a.1 a.2.1 a.2.2 q
def unI {g:Int->Int}
  (rule:∀i t s Q E,Q (.int (g i) s.toks) { s with toks:=s.toks+1 }->XR (model X.prog X.w) X.A (f<|.int i t) Q E s) :
  UnR X f (rU λi=>.int<|g i):=by intro π s b H x v Q I a h;obtain⟨i,rfl,q⟩:=h;obtain⟨t,rfl⟩:=a;exact rule i t s _ _ #v[.int<|g i,H,I.tok _,#v[_,rfl],q]
def qz :UnR X (unaryOp .USub) (rU λi=>.int (-i)):=unI λ_ _ _ _ _ q=>neg_int q
end
def HQ:V->V->Bool
 | .non,.non=>true | .non,.int _=>true | .int _,.non=>true | .non,.bl _=>true | .bl _,.non=>true | .non,.str _=>true | .str _,.non=>true
 | .int _,.int _=>true | .bl _,.bl _=>true | .str _,.str _=>true | .byt _,.byt _=>true
 | .int _,.str _=>true | .str _,.int _=>true | .bl _,.str _=>true | .str _,.bl _=>true
 | _,_=>false
def rEq :R2:=λx y H Q=>HQ x y=true/\Q (.bl<|decide (x=y)) H
def rNe :R2:=λx y H Q=>HQ x y=true/\Q (.bl (!decide (x=y))) H
def sx :decide (V.int i=V.int j)=(i == j):=by rw[Vl];simp
def xO :decide (V.bl i=V.bl j)=(i == j):=by rw[Vl];simp
def tG :decide (V.str i=V.str j)=(i == j):=by rw[Vl];simp
def qI :decide (V.byt i=V.byt j)=(i.toList == j.toList):=by rw[Vl];cases i;cases j;simp
section

def A5 {σ:St}(I:Inv X π σ H s)(q:Q (.bl k) H)(e:k=k'):EP X π σ Q (.bool k') s:=by subst e;exact#v[.bl k,H,I,rfl,q]
def Ih :OpR X (compareOp .Eq) rEq:=by
 intro π s d H x y v u Q I c a h;obtain⟨b,q⟩:=h;cases x with
 | non =>
  cases c;cases y with
  | non=>cases a;exact PySem.EqNone.eq_none_none (A5 I q<|by simp)
  | bl j=>cases a;exact PySem.EqNone.eq_none_bool (A5 I q<|by simp)
  | int j=>obtain⟨t',rfl⟩:=a;exact PySem.EqNone.eq_none_int (A5 I q<|by simp)
  | str j=>obtain⟨t',rfl⟩:=a;exact PySem.EqNone.eq_none_str (A5 I q<|by simp)
  | _=>exact absurd (b) Ri
 | bl i =>
  cases c;cases y with
  | non=>cases a;exact PySem.EqNone.eq_bool_none (A5 I q<|by simp)
  | bl j=>cases a;exact eq_bool<|A5 I q xO
  | str j=>obtain⟨t',rfl⟩:=a;exact PySem.EqMixed.eq_bool_str (A5 I q<|by simp)
  | _=>exact absurd (b) Ri
 | int i =>
  obtain⟨t,rfl⟩:=c;cases y with
  | non=>cases a;exact PySem.EqNone.eq_int_none (A5 I q<|by simp)
  | int j=>obtain⟨t',rfl⟩:=a;exact eq_int<|A5 I q sx
  | str j=>obtain⟨t',rfl⟩:=a;exact PySem.EqMixed.eq_int_str (A5 I q<|by simp)
  | _=>exact absurd (b) Ri
 | str i =>
  obtain⟨t,rfl⟩:=c;cases y with
  | non=>cases a;exact PySem.EqNone.eq_str_none (A5 I q<|by simp)
  | bl j=>cases a;exact PySem.EqMixed.eq_str_bool (A5 I q<|by simp)
  | int j=>obtain⟨t',rfl⟩:=a;exact PySem.EqMixed.eq_str_int (A5 I q<|by simp)
  | str j=>obtain⟨t',rfl⟩:=a;exact eq_str<|A5 I q tG
  | _=>exact absurd (b) Ri
 | byt i =>
  obtain⟨t,rfl⟩:=c;cases y with
  | byt j=>obtain⟨t',rfl⟩:=a;exact PySem.W.eq_bytes<|A5 I q qI
  | _=>exact absurd (b) Ri
 | _=>cases y <;> exact absurd (b) Ri
def IS :OpR X (compareOp .NotEq) rNe:=by
 intro π s d H x y v u Q I c a h;obtain⟨b,q⟩:=h;cases x with
 | non =>
  cases c;cases y with
  | non=>cases a;exact PySem.EqNone.ne_none_none (A5 I q<|by simp)
  | bl j=>cases a;exact PySem.EqNone.ne_none_bool (A5 I q<|by simp)
  | int j=>obtain⟨t',rfl⟩:=a;exact PySem.EqNone.ne_none_int (A5 I q<|by simp)
  | str j=>obtain⟨t',rfl⟩:=a;exact PySem.EqNone.ne_none_str (A5 I q<|by simp)
  | _=>exact absurd (b) Ri
 | bl i =>
  cases c;cases y with
  | non=>cases a;exact PySem.EqNone.ne_bool_none (A5 I q<|by simp)
  | bl j=>cases a;exact ne_bool<|A5 I q<|Sn not xO
  | str j=>obtain⟨t',rfl⟩:=a;exact PySem.EqMixed.ne_bool_str (A5 I q<|by simp)
  | _=>exact absurd (b) Ri
 | int i =>
  obtain⟨t,rfl⟩:=c;cases y with
  | non=>cases a;exact PySem.EqNone.ne_int_none (A5 I q<|by simp)
  | int j=>obtain⟨t',rfl⟩:=a;exact ne_int<|A5 I q<|Sn not sx
  | str j=>obtain⟨t',rfl⟩:=a;exact PySem.EqMixed.ne_int_str (A5 I q<|by simp)
  | _=>exact absurd (b) Ri
 | str i =>
  obtain⟨t,rfl⟩:=c;cases y with
  | non=>cases a;exact PySem.EqNone.ne_str_none (A5 I q<|by simp)
  | bl j=>cases a;exact PySem.EqMixed.ne_str_bool (A5 I q<|by simp)
  | int j=>obtain⟨t',rfl⟩:=a;exact PySem.EqMixed.ne_str_int (A5 I q<|by simp)
  | str j=>obtain⟨t',rfl⟩:=a;exact ne_str<|A5 I q<|Sn not tG
  | _=>exact absurd (b) Ri
 | byt i =>
  obtain⟨t,rfl⟩:=c;cases y with
  | byt j=>obtain⟨t',rfl⟩:=a;exact PySem.W.ne_bytes<|A5 I q<|Sn not qI
  | _=>exact absurd (b) Ri
 | _=>cases y <;> exact absurd (b) Ri
def Dm :OpR X (compareOp .Lt) (rI0 λi j=>.bl<|decide (i<j)):=Aq λ_ _ _ _ _ _ _ q=>lt_int q
def HM :OpR X (compareOp .LtE) (rI0 λi j=>.bl<|decide (i<=j)):=Aq λ_ _ _ _ _ _ _ q=>le_int q
def zR :OpR X (compareOp .Gt) (rI0 λi j=>.bl<|decide (j<i)):=Aq λ_ _ _ _ _ _ _ q=>gt_int q
def Dt :OpR X (compareOp .GtE) (rI0 λi j=>.bl<|decide (j<=i)):=Aq λ_ _ _ _ _ _ _ q=>ge_int q
def cG (b)(h:autoParam (op ≠ .In) eL)(h2:autoParam (op ≠ .NotIn) eL):behindInMarks op b=false:=by
 have c:(op == CmpOp.In)=false:=by cases op <;> first | rfl | exact absurd rfl h
 have a:(op == CmpOp.NotIn)=false:=by cases op <;> first | rfl | exact absurd rfl h2
 cases b <;> simp[behindInMarks,c,a]
def CC (ho:OpR X (compareOp op) r)(ha:PE X a ta)(hb:PE X b tb)(hm:behindInMarks op b=false):PE X (.Compare a [op] [b] pos) (tOp r ta tb):=by intro π s c H Q I h;exact wpAny_Compare1 (Gc ha hb I h λv u s2 x y g f e d q=>ho π s2 c g x y v u Q f e d q) hm
def mW (t:TE):TT:=λa H Q=>t a H λx b=>∃k,x = .bl k/\Q k b
def bR (ho:OpR X (compareOp op) r)(ha:PE X a ta)(hb:PE X b tb)(hm:behindInMarks op b=false):PT X (.Compare a [op] [b] pos) (mW<|tOp r ta tb):=by
 intro π s d H Q I h;refine wpAny_isTrue_Compare1 (thn (ha π s d H _ I h) λv s1 #v[x,w,p,i,m]=>thn (hb π s1 d w _ p m) λu s2 #v[y,t,o,g,l] =>
  thn (ho π s2 d t x y v u _ o i g l) ?_ ) hm;rintro c A ⟨z,q,n,f,k,e,j⟩
 subst e;cases f;exact SD #v[q,n,j]
def oF (r r':R2)(ta tb tc:TE):TE:=λa H Q=>ta a H λx f=>tb a f λy e=>r x y e λz b=>∃k,z = .bl k /\
 (if k=true then tc a b λc d=>r' y c d Q else Q (.bl false) b)
def za (ho:OpR X (compareOp op) r)(ho':OpR X (compareOp op') r')(ha:PE X a ta)(hb:PE X b tb)(hc:PE X c tc)
  (hm:lastMarks [op,op'] [b,c]=false:=by with_unfolding_all rfl):PT X (.Compare a [op,op'] [b,c] pos) (mW<|oF r r' ta tb tc):=by
 intro π s f H Q I h;refine isTrue_chain (thn (ha π s f H _ I h) λv s1 #v[x,S,N,A,E]=>test_link (thn (hb π s1 f S _ N E) λu s2 #v[y,R,M,g,D] =>
  thn (ho π s2 f R x y v u _ M A g D) ?_ )) hm;rintro d p ⟨z,l,j,w,k,e,i⟩
 subst e;cases w;refine SD ?_;cases k with
 | false =>obtain⟨W,J,F⟩:=i;cases J;exact ite_ff #v[l,j,F]
 | true =>refine ite_tt (test_last<|thn (hc π p f l _ j i) λn o #v[m,P,L,t,C]=>thn (ho' π o f P y m u n _ L g t C) ?_ );rintro Y U ⟨T,O,K,q,V,G,B⟩;subst G;cases q;exact SD #v[O,K,B]
def zF (K:Qf)(x:V)(H:Hp)(k:Bool):Prop :=
 match x with
 | .non=>k=false
 | .bl b=>k=b
 | .int i=>k=(i != 0)
 | .str y=>y.length<=XI/\k=((y.length:Int) != 0)
 | .byt y=>y.size<=XI/\k=((y.size:Int) != 0)
 | .ref p=>(∃a,SqL K H p a/\k = !a.isEmpty)\/(∃a,SqT K H p a/\k = !a.isEmpty)\/∃c,H p=some (.dK c)/\k = !c.isEmpty
 | _=>False
def oY {vs:List (κ×Xx)}(r:KV dy vs):(!vs.isEmpty) = !dy.isEmpty:=by cases r <;> rfl
def iI (r:s0 xs its):(!its.toArray.isEmpty) = !xs.isEmpty:=by cases r <;> simp
def aS :(XI:Nat)<2 ^ 63:=by rw[Ry];decide
def GR :JQ X (λx H Q=>∃k,zF X.K x H k/\Q k H):=by
 intro π s A H x v Q I g h;obtain⟨k,e,q⟩:=h;have B:=Ry;cases x with
 | non =>cases g;have a:=e;subst a;exact truthy_none #v[H,I,q]
 | bl b =>cases g;have a:=e;subst a;exact SD #v[H,I,q]
 | int i =>obtain⟨t,rfl⟩:=g;have a:=e;subst a;exact PySem.P.truthy_int #v[H,I,q]
 | str y =>obtain⟨t,rfl⟩:=g;obtain⟨w,a⟩:=e;subst a;exact PySem.P.truthy_str (by lia) #v[H,I.tok _,q]
 | byt y =>obtain⟨t,rfl⟩:=g;obtain⟨w,a⟩:=e;subst a;exact PySem.W.truthy_bytes (by lia) #v[H,I.tok _,q]
 | ref p =>
  cases g;have a:=e;rcases a with ⟨f,j,a⟩ | ⟨f,j,a⟩ | ⟨c,j,a⟩
  .subst a;obtain⟨o,r,n,u⟩:=I.list j;have d:=r.length;exact wpAny_truthy_list n.isList (by simp only[Rb];lia) #v[H,I.tok _,by rw[iI r];exact q]
  .subst a;obtain⟨o,r,n,u⟩:=I.tuple j;have d:=r.length;exact truthy_tuple n (by simp only[Rb];lia) #v[H,I.tok _,by rw[iI r];exact q]
  .subst a;obtain⟨u,z,l,r,m⟩:=I.hok p _ j;have d:=Um r;exact wpAny_truthy_dict z m (by lia) #v[H,I.tok _,by rw[oY r];exact q]
 | _=>exact(e).elim
def xy (ha:PE X a ta)(he:∀whole,isTrue a X.env whole=(do let v <-whole;standAt a.pos;holding [v] (truthy v))) :
  PT X a (λσ H Q=>ta σ H λx H'=>∃k,zF X.K x H' k/\Q k H'):=by intro π s σ H Q I h;exact isTrue_plain (thn (ha π s σ H _ I h) λv s1 q90=>by obtain⟨x,e,d,b,c⟩:=q90;exact GR π s1 σ e x v Q d b c)<|he _
def oS :OpR X (binaryOp .Add) (λx y H Q=>∃i j,x = .str i/\y = .str j/\i.length+j.length<=XI/\Q (.str<|i++j) H):=by intro π s d H x y v u Q I b a h;obtain⟨i,j,rfl,rfl,c,q⟩:=h;obtain⟨t,rfl⟩:=b;obtain⟨t',rfl⟩:=a;exact add_str (λt' e=>#v[.str<|i++j,H,I.tok _,#v[_,rfl],q]) c
def T3 (r:s0 [x] us):∃u,us=[u]/\m6 x u:=by
 cases r with
 | cons b a=>cases a;exact#v[_,rfl,b]
def vM (r:s0 [x,y] us):∃u w',us=[u,w']/\m6 x u/\m6 y w':=by
 cases r with
 | cons d c =>
  cases c with
  | cons b a=>cases a;exact#v[_,_,rfl,d,b]
def yG :D1 X (.builtin "abs") (λxs H Q=>∃i,xs=[.int i]/\Q (.int<|if i<0 then -i else i) H):=by intro π s a H xs us Q I r h;obtain⟨i,rfl,q⟩:=h;obtain⟨u,rfl,t,rfl⟩:=T3 r;exact call_abs_int λu b=>#v[.int (if i<0 then -i else i),H,I.tok _,#v[_,rfl],q]
def uc (hc:X.calm=true):D1 X (.builtin "max") (λxs H Q=>∃i j,xs=[.int i,.int j]/\Q (.int<|if j > i then j else i) H):=by
 intro π s b H xs us Q I r h;obtain⟨i,j,rfl,q⟩:=h;obtain⟨u,c,rfl,⟨t,rfl⟩,⟨t',rfl⟩⟩:=vM r;refine max_two_ints (I.ok.hd hc) λh' d k=>#v[_,H,I.kept k,?_,q]
 by_cases a:j > i
 .rw[QH a,QH a];exact#v[_,rfl]
 .rw[QK a,QK a];exact#v[_,rfl]
def uX (hc:X.calm=true):D1 X (.builtin "min") (λxs H Q=>∃i j,xs=[.int i,.int j]/\Q (.int<|if j<i then j else i) H):=by
 intro π s b H xs us Q I r h;obtain⟨i,j,rfl,q⟩:=h;obtain⟨u,c,rfl,⟨t,rfl⟩,⟨t',rfl⟩⟩:=vM r;refine min_two_ints (I.ok.hd hc) λh' d k=>#v[_,H,I.kept k,?_,q]
 by_cases a:j<i
 .rw[QH a,QH a];exact#v[_,rfl]
 .rw[QK a,QK a];exact#v[_,rfl]
end
end
variable {C dx:Xy}
section
structure ObjM (h:XH) x dx C mA:Prop where
 obj:h.get? x=some (PySem.W.instObj C dx)
 ns:h.Ns1 dx mA
 ne:dx≠x
def jM {h:XH}(n:h.Ns1 dx mA):∃od,h.get? dx=some od/\∀name,PySem.W.lookIn name od=some (mA name):=by
 obtain⟨o,es,k,d,i,g,_,f⟩:=n;refine#v[o,d,λname=>?_];have e:=f name;unfold nsFind findBy at e;rw[<-Array.find?_toList]at e;unfold PySem.W.lookIn;rw[i];dsimp only;split
 .rename_i y q;rw[q]at e;exact Sn some e
 .rename_i q;rw[q]at e;have a:es.toList.any (·.refKey)=false:=by rw[List.any_eq_false];intro y c;obtain⟨z,t,b⟩:=g y<|Array.mem_toList_iff.1 c;simp[DictEntry.refKey,b]
  have j:¬es.toList.any (·.refKey)=true:=by rw[a];exact Ri
  rw[QK j];exact Sn some e
def ObjM.look (I:ObjM h x dx C mA):∃od,PySem.W.InstAt h x (PySem.W.instObj C dx) C (some od)/\∀name,PySem.W.lookIn name od=some (mA name) :=
 let #v[od,a,hl]:=jM I.ns
 #v[od,#v[I.obj,rfl,rfl,a],hl]
def eP.some_of (r:eP (some v) o):∃u,o=some u/\m6 v u:=by
 cases o with
 | none=>exact(r).elim
 | some u=>exact#v[u,rfl,r]
section

def AK (hok:HOk P w H h)(e:H a=some (.ins C dx fs)):∃mA,ObjM h a dx C mA/\(∀f,eP (fs.lookup f)<|mA f)/\PySem.Within mA (fs.map (·.1))/\fs.length<=1000/\H dx=some (.own a):=by obtain⟨d,z,c,b,mA,n,r,q⟩:=(hok a _ e);exact#v[mA,#v[b,n,c],r,q,z,d]
end
structure Cls (K:Qf) C:Prop where
 pg:PySem.W.plainGet K C Str.empty=true
 hd:PySem.W.hasDictIn K C=true
 po:PySem.W.plainOver K C=true
 sa:PySem.W.findIn K (.ref C) "__setattr__" = some (some<|.builtin "object.__setattr__")
def Cls.get {K} (c:Cls K C)(f):PySem.W.plainGet K C f=true:=c.pg
section

def Dh (hb:XU e f env (eval e env)=eval e env)
  (h:XR (model prog w) A (eval e env) (λo s₁=>XR (model prog w) A (getAttr o f true) Q E s₁) E s):XR (model prog w) A (eval (.Attribute e f pos) env) Q E s :=
 Attribute_any_ h (by rw[arm_eval_Attribute,hb])
end
section
variable {σ:St}{H:Hp}
inductive TyOf (K:Qf) (H:Hp):V->Xx->Prop where
 | non:TyOf K H .non (.type "NoneType")
 | bl (x:Bool):TyOf K H (.bl x) (.type "bool")
 | int (i:Int):TyOf K H (.int i) (.type "int")
 | str (x:Str):TyOf K H (.str x) (.type "str")
 | flt (x:UInt64):TyOf K H (.flt x) (.type "float")
 | lst {a:Xy} {xs:List V} (e:H a=some (.lst xs)):TyOf K H (.ref a) (.type "list")
 | frz {a:Xy} {o:XM} {xs:List V} (e:H a=some (.frz o<|.lst xs)):TyOf K H (.ref a) (.type "list")
 | tup {a:Xy} {xs:List V} (e:H a=some (.tup xs)):TyOf K H (.ref a) (.type "tuple")
 | dK {a:Xy} {dy:List (Key×V)} (e:H a=some (.dK dy)):TyOf K H (.ref a) (.type "dict")
 | dT {a:Xy} {dy:List (List Key×V)} (e:H a=some (.dT dy)):TyOf K H (.ref a) (.type "dict")
 | ins {a C dx:Xy} {fs:List (Str×V)} (e:H a=some (.ins C dx fs)) (cl:Cls K C) (ha:PySem.W.findIn K (.ref C) "__class__" = some (some<|.builtin "object.__class__"))
   (hn:PySem.W.specialIn K (.builtin "object.__class__") "__get__" = some (some<|.builtin "getset_descriptor.__get__")) (htk:PySem.W.takesIn K (.builtin "object.__class__")=some true)
   (hm:PySem.W.mroIn K C (.type "object")=some true):TyOf K H (.ref a) (.ref C)
def bu (I:Inv X π σ H s)(rx:m6 x u)(ty:TyOf X.K H x t)(e:PySem.W.kitOne X.K t c=some b)(h:∀tk,Q (.bool b) { s with toks:=tk }) :
  XR (model X.prog X.w) A (call (.builtin "isinstance") [u,c]) Q E s:=by
 cases ty with
 | non=>cases(rx);exact Sr PySem.W.kitx_none I.kIn True.intro e (λz=>nomatch z) h
 | bl y=>cases(rx);exact Sr PySem.W.kitx_bool I.kIn True.intro e (λz=>nomatch z) h
 | int i=>obtain⟨t,q⟩:=(rx);cases q;exact Sr PySem.W.kitx_int I.kIn True.intro e (λz=>nomatch z) h
 | str y=>obtain⟨t,q⟩:=(rx);cases q;exact Sr PySem.W.kitx_str I.kIn True.intro e (λz=>nomatch z) h
 | flt y=>obtain⟨t,q⟩:=(rx);cases q;exact Sr PySem.W.kitx_float I.kIn True.intro e (λz=>nomatch z) h
 | @lst a j d =>cases(rx);obtain⟨_,_,n,_,f⟩:=(I.hok a _ d);exact Sr Xa I.kIn #v[_,f,rfl] e (λz=>nomatch z) h
 | @frz a r j d =>cases(rx);obtain⟨_,_,_,n,_,f⟩:=(I.hok a _ d);exact Sr Xa I.kIn #v[_,f,rfl] e (λz=>nomatch z) h
 | @tup a j d =>cases(rx);obtain⟨_,_,_,p⟩:=(I.hok a _ d);obtain⟨o,f,k,_⟩:=p;exact Sr PySem.W.kitx_tuple I.kIn #v[o,f,k] e (λz=>nomatch z) h
 | @dK a g d =>cases(rx);obtain⟨_,_,F,_,p⟩:=(I.hok a _ d);obtain⟨o,es,D,f,k,_⟩:=p;exact Sr PySem.W.kitx_dict I.kIn #v[o,f,k.1] e (λz=>nomatch z) h
 | @dT a g d =>cases(rx);obtain⟨_,_,j,_,o,es,D,f,k,_⟩:=(I.hok a _ d);exact Sr PySem.W.kitx_dict I.kIn #v[o,f,k.1] e (λz=>nomatch z) h
 | @ins a C dx fs d m B v l w =>cases(rx);obtain⟨mA,O,_⟩:=AK I.hok d;obtain⟨G,J,_⟩:=O.look;exact Sr (PySem.W.kitx_own (m.get _) m.hd B v l w) I.kIn J e (λz=>nomatch z) h
end
end
variable {kindOf:Str->Option Yb}
section
structure Room k (A:XC):Prop where
 hd:A.handled=none
 dp:A.depth+3*k+5<recursionLimit
 un:A.units+16*k+200<XZ
 gd:A.guards=some []
def Room.mono (r:Room k A)(h:j<=k):Room j A:=#v[r.hd,by have:=r.dp;lia,by have:=r.un;lia,r.gd]
def Room.deeper (r:Room (k+1) A)(env):Room k (A.deeper env) :=
 #v[r.hd,by have:=r.dp;show A.depth+1+3*k+5<_;lia,by have:=r.un;show A.units+3+16*k+200<_;lia,r.gd]
def pN {A:XC}:(A.under<|.builtin "type.__call__" #v[.ref C::us,kw]).depth=A.depth+1:=by first | rfl | simp[Code.weight]
def oA {A:XC}:(A.under<|.builtin "type.__call__" #v[.ref C::us,kw]).units=A.units+1:=by first | rfl | simp[Code.cUnits]
def md {A:XC}(h:A.guards=some []):(A.under<|.builtin "type.__call__" #v[.ref C::us,kw]).guards=some []:=by first | exact h | simp[Code.guards,h]
def Room.make (r:Room (k+1) A)(C) (us) (kw):Room k (A.under<|.builtin "type.__call__" #v[.ref C::us,kw]) :=
 #v[r.hd,by have:=r.dp;rw[pN];lia,by have:=r.un;rw[oA];lia,md r.gd]
def Room.depth (r:Room k A):A.depth<recursionLimit:=by have:=r.dp;lia
def Room.units (r:Room k A):A.units+64<XZ:=by have:=r.un;lia
def az :TA:=λ_ H Q=>Q [] H
def J8 (ta:TE)(tr:TA):TA:=λa H Q=>ta a H λx d=>tr a d λb c=>Q (x::b) c
section

def K5 :PA X [] az:=λ_ _ _ _ H Q I h=>Calls.spliced_nil #v[[],H,I,.nil,h]
def A1 (ha:PE X e te)(hr:PA X es t)(hs:autoParam (XJ (e::es) X.env=(false,eval e X.env)::XJ es X.env) eH):PA X (e::es) (J8 te t):=by intro pos π s a H Q I h;rw[hs];refine UI (thn (ha π s a H _ I h) ?_ );rintro u s1 ⟨x,l,j,d,g⟩;exact thn (hr pos π s1 a l _ j g) λus s2 q90=>by obtain⟨b,k,i,c,f⟩:=q90;exact #v[x::b,k,i,.cons d c,f]
def ur (t:TA):TE:=λc H Q=>t c H λa b=>a.length<=XI/\∀p,b p=none->Q (.ref p) (upd b p<|.tup a)
def Am (t:TA):TE:=λc H Q=>t c H λa b=>a.length<=XI/\∀p,b p=none->Q (.ref p) (upd b p<|.lst a)
def jY {x1}(h:PA X es t):PE X (.Tuple es x1 pos) (ur t):=by intro π s d H Q I g;refine wpAny_Tuple_spliced (thn (h pos π s d H _ I g) λus s1 #v[f,c,a,r,z,q]=>#v[by rw[<-r.length];exact z,?_]);have i:=a.hok.fresh<|QP _;refine#v[.ref s1.heap.objs.size,upd c s1.heap.objs.size<|.tup f,a.laid (λb u e=>QE _ e) (QP _) ?_,rfl,q _ i];exact#v[z,us,r,#v[_,QV _ rfl,rfl,_,rfl]]
def kI (h:PA X es t):PE X (.List es pos) (Am t):=by intro π s d H Q I g;refine wpAny_List_spliced (thn (h pos π s d H _ I g) λus s1 #v[f,c,a,r,z,q]=>#v[by rw[<-r.length];exact z,?_]);have i:=a.hok.fresh<|QP _;refine#v[.ref s1.heap.objs.size,upd c s1.heap.objs.size<|.lst f,a.laid (λb u e=>QE _ e) (QP _) ?_,rfl,q _ i];exact#v[z,us,0,r,QV _ rfl]
end
abbrev Sp :=List V->Hp->VK->XK->Prop
abbrev CXT :=List XN->Hp->Xz->XK->Xx->Xz->Prop
structure Env0 P w K mg base (A:XC) outer (s:Xz) (H:Hp):Prop where
 frames:A.frames=some outer
 mod:Mod K mg base
 bs:∀b o,base.get? b=some o->s.heap.get? b=some o/\H b=none
 bsz:base.objs.size<=s.heap.objs.size
 funs:s.heap.FunFrames base outer
 frf:∀b∈frs outer,H b=none
 hok:HOk P w H s.heap
 bare:AllBare s.gens
def CE (outer:List XN)(P:XA)(w:XB)(H:Hp)(s:Xz)(Q:VK)(u:Xx)(s':Xz):Prop :=
 ∃v a,s'.os=s.os/\AllBare s'.gens/\Un (frs outer) [] H a s.heap s'.heap/\HOk P w a s'.heap/\m6 v u/\Q v a
def CR (CX:CXT)(outer:List XN)(P:XA)(w:XB)(H:Hp)(s:Xz)(Q:VK)(E:XK)(r:Result)(s':Xz):Prop :=
 match r with
 | .ok (.ret u)=>CE outer P w H s Q u s'
 | .ok _=>False
 | .error e=>CX outer H s E e s'
structure FnOk P w K mg base CX k f fd (ps:List Str) (sp:Sp):Prop where
 len:∀vs H Q E,sp vs H Q E->vs.length=ps.length
 run:∀A outer s H args us vs Q E,Room k A->Env0 P w K mg base A outer s H->BindsTo s fd args (ps.zip us)->s0 vs us->sp vs H Q E ->
  codeAny (model P w) A (.call (.ref f) args) (CR CX outer P w H s Q E) s
section
variable {σ:St}
def Inv.env0 (I:Inv X π σ H s):Env0 X.prog X.w X.K X.mg X.base X.A X.stack s H :=
 #v[I.ok.frames,I.ok.mod,I.bs,QZ I.ok.bsz I.sz,I.stack,I.stkFree,I.hok,I.bare]
def Inv.after (I:Inv X π σ H s)(h:CE X.stack X.prog X.w H s Q u s'):EP X π σ Q u s':=by obtain⟨v,j,f,a,un,e,r,q⟩:=h;obtain⟨i,g,d,t,c⟩:=s';obtain rfl:=f;exact#v[v,j,I.call un e a<|λb z=>absurd z<|by simp,r,q]
end
def aQ (sp:Sp)(dvs:List V)(E:XK)(t:TA):TE:=λa H Q=>t a H λb c=>sp (b++dvs) c Q E
def cQ (K:Qf)(fd:XE)(ps:List Str)(ds:List Xx):Prop :=
 ∀s us,K.In s.heap->(us++ds).length=ps.length->BindsTo s fd #v[us,[]] (ps.zip<|us++ds)
def cQ.all {K}(h:∀us,us.length=ps.length->bindArgs fd #v[us,[]]=pure (ps.zip us)):cQ K fd ps []:=λs us _ hl=>by rw[Sd]at hl ⊢;exact .of_eq<|h us hl
def oJ (CX:CXT)(X:Cx)(E:XK):Prop:=∀π (b:St) H s e a,Inv X π b H s->CX X.stack H s E e a->X.xe e a
section

def EZ {σ:St}(F:FnOk X.prog X.w X.K X.mg X.base CX k f fd ps sp)(hr:Room k X.A)(hb:cQ X.K fd ps ds)(hd:s0 dvs ds)(hx:oJ CX X E)
  (I:Inv X π σ H s) (r:s0 vs us) (h:sp (vs++dvs) H Q E):XR (model X.prog X.w) X.A (call (.ref f) us) (EP X π σ Q) X.xe s:=by
 have b:=r.append hd;have hl:(us++ds).length=ps.length:=by rw[<-b.length];exact F.len _ _ _ _ h
 refine UY (Wf (F.run X.A X.stack s H #v[us,[]] (us++ds) (vs++dvs) Q E hr I.env0 (hb s us I.kIn hl) b h) λr c a=>?_);cases r with
 | error e=>exact hx π σ H s e c I a
 | ok d =>
  cases d with
  | ret u=>exact I.after a
  | next=>exact False.elim a
  | brk=>exact False.elim a
  | cont=>exact False.elim a
def AG (F:FnOk X.prog X.w X.K X.mg X.base CX k f fd ps sp)(hr:Room k X.A)(hg:Gl X x)(hm:X.mg x=some (.ref f))(hk:PySem.W.keepIn X.K (.ref f)=true)(hb:cQ X.K fd ps ds)(hd:s0 dvs ds)(hx:oJ CX X E)
  (ha:PA X (e::es) t) (hdb:autoParam (nDb x) eL) (he:autoParam (XJ (e::es) X.env=(false,eval e X.env)::XJ es X.env) eH) (hpl:autoParam ((XO pos<|XJ es X.env).any (·.1)=false) eH) :
  PE X (.Call (.Name x p) (e::es) [] pos) (aQ sp dvs E t):=by intro π s b H Q I h;refine Ub<|bH I hg hm ?_ hdb;refine PySem.W.callWith_K I.ok.mod.kin hk (thn (ha pos π s b H _ I h) λus s1 #v[c,d,a,r,q]=>#v[a.kIn,?_]) he hpl;exact EZ F hr hb hd hx a r q
end
structure FnScope (N P:List Str) (sc:XD):Prop where
 kind:sc.kind = .function:=by rfl
 co:sc.isCoroutine=false:=by rfl
 gen:sc.isGenerator=false:=by rfl
 nd:N.Nodup:=by decide +kernel
 pre:N.take P.length=P:=by rfl
 par:∀x∈P,sc.names.lookup x=some .local\/sc.names.lookup x=some .cell:=by decide +kernel
 nofree:∀y∈sc.names,y.2 ≠ .free:=by decide +kernel
theorem jT :∀{binds} {m},(∀v,(x,v) ∉ binds)->bindL kindOf binds m x=m x
 | [],_,_=>rfl
 | (n,v)::r,m,h=>by
  unfold bindL;rw[jT λw a=>h w<|QG _ a];split
  .have:x≠n:=by rintro rfl;exact h v QN
   simp[this]
  .rfl
theorem jL :∀{binds} {m},(∀v,(x,v) ∉ binds)->bindC kindOf binds m x=m x
 | [],_,_=>rfl
 | (n,v)::r,m,h=>by
  unfold bindC;rw[jL λw a=>h w<|QG _ a];split
  .rfl
  .have:x≠n:=by rintro rfl;exact h v QN
   simp[this]
def eB :∀{P:List Str} {vs} {i:Nat} {m},P.Nodup->P[i]? = some x->vs[i]? = some v->kindOf x=some .local ->
  bindL kindOf (P.zip vs) m x=some v
 | [],_,_,_,_,h,_,_=>by simp at h
 | _::_,[],_,_,_,_,h,_=>by simp at h
 | p::P,w::vs,0,m,nd,h1,h2,hk=>by
  simp at h1 h2;subst h1;subst h2;show bindL kindOf ((p,w)::P.zip vs) m p=_;unfold bindL;rw[jT λv a=>(Tx.1 nd).1 (Wg a).1,QH hk];simp
 | p::P,w::vs,i+1,m,nd,h1,h2,hk=>by show bindL kindOf ((p,w)::P.zip vs) m x=_;exact eB (Tx.1 nd).2 (by simpa using h1) (by simpa using h2) hk
def jy :∀{P:List Str} {vs} {i:Nat} {m},P.Nodup->P[i]? = some x->vs[i]? = some v->kindOf x≠some .local ->
  bindC kindOf (P.zip vs) m x=some v
 | [],_,_,_,_,h,_,_=>by simp at h
 | _::_,[],_,_,_,_,h,_=>by simp at h
 | p::P,w::vs,0,m,nd,h1,h2,hk=>by
  simp at h1 h2;subst h1;subst h2;show bindC kindOf ((p,w)::P.zip vs) m p=_;unfold bindC;rw[jL λv a=>(Tx.1 nd).1 (Wg a).1,QK hk];simp
 | p::P,w::vs,i+1,m,nd,h1,h2,hk=>by show bindC kindOf ((p,w)::P.zip vs) m x=_;exact jy (Tx.1 nd).2 (by simpa using h1) (by simpa using h2) hk
def W6 (N:List Str)(vs:List V):St:=vs.map some++List.replicate (N.length-vs.length) none
def P4 (CX:CXT)(P:XA)(w:XB)(K:Qf)(mg:Str->Option Xx)(base:XH)(N:List Str)(qual:Str)(scope:XD)(f:Xy)(cd:Xx)(A:XC)(outer:List XN)(s:Xz)(H:Hp)(E:XK):Cx where
 prog:=P
 w:=w
 K:=K
 mg:=mg
 base:=base
 A:=A.deeper<|envOfC qual scope s.heap.objs.size f cd
 N:=N
 s₀:=s
 H₀:=H
 env:=envOfC qual scope s.heap.objs.size f cd
 outer:=outer
 stack:=envOfC qual scope s.heap.objs.size f cd::outer
 ex:=[]
 calm:=true
 fn:=λ_=>true
 pn:=[]
 xe:=λe b=>XR (model P w) (A.deeper<|envOfC qual scope s.heap.objs.size f cd) (leaving (envOfC qual scope s.heap.objs.size f cd) e) (λ_ a=>CX outer H s E e a) (λc a=>CX outer H s E c a) b
def mH {sc:XD}(h:sc.names.lookup x=some .cell):∃c,(cellsFrom n sc.names []).lookup x=some c:=by have q:=UP sc.names n []<|.inl h;exact Su.1 q
def tQ {K}
  (S:FnScope N ps scope) (hd:A.handled=none) (e0:Env0 P w K mg base A outer s H) (hl:vs.length=ps.length) (r:s0 vs us)
  (x:InCallC s s.heap.objs.size (bindL (envOfC qual scope s.heap.objs.size f cd).kindOf (ps.zip us) λ_=>none) (cellsFrom (s.heap.objs.size+1) scope.names []) (bindC (envOfC qual scope s.heap.objs.size f cd).kindOf (ps.zip us) λ_=>none) s1) :
  Inv (P4 CX P w K mg base N qual scope f cd A outer s H E) [] (W6 N vs) H s1:=by
 have F:ps.length<=N.length:=by have:=Sn List.length S.pre;rw[VW]at this;lia
 obtain⟨t,I,rfl,C⟩:=x.done;have g:∀b,b ∉ (P4 CX P w K mg base N qual scope f cd A outer s H E).ex:=λb z=>absurd (show b∈([]) from z) (by simp)
 refine#v[#v[e0.mod,S.kind,rfl,rfl,QP _,λy z c t d=>?_,λy j=>?_,λy c _ h=>?_,λ_=>hd,XC.frames_deeper e0.frames,.inr #v[rfl,rfl],λb z=>absurd z<|g b,e0.bs,e0.bsz,λb _ _=>g b,λb z=>absurd z<|g b,e0.funs,e0.frf],
  rfl,e0.bare,Un.kept C,#v[_,x.toInCall.ns,λi y v t d J=>?_],λy c h=>#v[_,x.cell y c h],e0.hok.fresh<|QP _,λy c h=>?_,λp m=>absurd (show p∈([]) from m) (by simp),e0.hok.kept C,?_]
 .exact name_of_addr x.apart (RZ t)<|RZ d
 .have j:=j;rcases j with j | j
  .exact mH j
  .exact absurd rfl<|S.nofree _<|RZ j
 .exact RJ<|x.above y c<|RZ h
 .have o:i<vs.length:=by
   unfold W6 at d;by_cases o:i<vs.length
   .exact o
   .rw[Tj<|by simpa using o]at d;rw[Sk]at d;split at d <;> cases d
  have G:vs[i]? = some v:=by
   unfold W6 at d;rw[Tv (by simpa using o),Rc]at d;cases e:vs[i]? with
   | none=>rw[e]at d;cases d
   | some a=>rw[e]at d;cases d;rfl
  obtain⟨u,B,D⟩:=r.get G;have m:ps[i]? = some y:=by rw[<-S.pre,List.getElem?_take_of_lt<|by lia];exact t
  have l:ps.Nodup:=by rw[<-S.pre];exact S.nd.sublist<|List.take_sublist _ _
  refine#v[u,D,?_];rcases S.par y (RA m) with k | k
  .exact .inl #v[k,eB l m B k]
  .obtain⟨c,e⟩:=mH k;refine .inr #v[.inl k,c,e,?_];have q:=x.cell y c e;rw[jy l m B (by show scope.names.lookup y≠_;rw[k];decide)]at q;exact q
 .exact e0.hok.fresh<|RJ<|x.above y c<|RZ h
 .unfold W6;show _=N.length;rw[RW,QI,Ts];simp[*]
def DX {K:Qf}{kV}
     (lk:K.lookup f=some #v[oc,od,.func<|PySem.W.fnOf name qual params body scope dV kV doc pm an dr ct,osl]) (hcd:PySem.W.codeIn K dr qual=true) (S:FnScope N ps scope)
  (len:∀vs H Q E,sp vs H Q E->vs.length=ps.length)
  (hbody:∀A outer s H vs Q E,Room k (A.deeper<|envOfC qual scope s.heap.objs.size f dr)->sp vs H Q E ->
   ∃t,PSs (P4 CX P w K mg base N qual scope f dr A outer s H E) body t/\t { nx:=λ_ H'=>Q .non H',rt:=Q } (W6 N vs) H) :
  FnOk P w K mg base CX (k+1) f (PySem.W.fnOf name qual params body scope dV kV doc pm an dr ct) ps sp:=by
 refine#v[len,λA outer s H p us vs Q E m h F r g=>?_];have hl:=len _ _ _ _ g;have z:=h.mod.kin.keeps λb o e=>(h.bs b o e).1
 have l:=h.mod.nolimit.keeps λb o e=>(h.bs b o e).1
 have c:∀y∈ps.zip us,scope.names.lookup y.1=some .local\/(scope.names.lookup y.1=some .cell/\((cellsFrom (s.heap.objs.size+1) scope.names []).lookup y.1).isSome=true):=λ#v[n,v] B=>by
  rcases S.par n (Wg B).1 with q | q
  .exact .inl q
  .exact .inr #v[q,UP _ _ _<|.inl q]
 refine codeAny_call_function m.depth (z _ _ lk) rfl S.co S.gen rfl (PySem.W.codeRec_of z hcd)<|F _ _ _ _ ?_;refine wpAny_newFunctionEnv_cells S.kind c λL D s1 x=>?_
 subst D;refine#v[l.keeps x.toInCall.keep,codeAny_func ?_];obtain⟨t,ht,C⟩:=hbody A outer s H vs Q E (m.deeper _) g;have I:Inv (P4 CX P w K mg base N qual scope f dr A outer s H E) [] (W6 N vs) H s1:=tQ S m.hd h hl r x;refine Rj (ht [] s1 (W6 N vs) H _ I C) (λG i d=>?_) λe i d=>d
 have fin:∀{a} {H'} {v} {u},Inv (P4 CX P w K mg base N qual scope f dr A outer s H E) [] a H' i->m6 v u->Q v H'->CE outer P w H s Q u i :=
  λ{a H' v u} J j q=>#v[v,H',J.os,J.bare,J.base,J.hok,j,q]
 cases G with
 | ret u =>obtain⟨v,a,H',J,j,q⟩:=d;exact fin J j q
 | next =>obtain⟨a,H',J,q⟩:=d;exact fin (v:=V.non) J rfl q
 | brk =>obtain⟨_,_,_,q⟩:=d;exact False.elim q
 | cont =>obtain⟨_,_,_,q⟩:=d;exact False.elim q
end
section
section
variable {id:String}
def tCB (r:List V->Hp->VK->Prop)(t:TA):TE:=λa H Q=>t a H λb c=>r b c Q
def Y9 (hc:D1 X (.builtin id) r)(hg:Gl X x)(hm:X.mg x=none)(hv:XW x=some (.builtin id))(ha:PA X (e::es) t)(hn:autoParam (x ≠ "__name__") eL)(hdb:autoParam (nDb x) eL)
  (he:autoParam (XJ (e::es) X.env=(false,eval e X.env)::XJ es X.env) eH) (hpl:autoParam ((XO pos<|XJ es X.env).any (·.1)=false) eH):PE X (.Call (.Name x p) (e::es) [] pos) (tCB r t):=by intro π s a H Q I h;refine Ub<|aK I hg hm hv ?_ hn hdb;exact PyProof.Rows.callWith_builtin1 (thn (ha pos π s a H _ I h) λus s1 q90=>by obtain⟨b,g,f,c,d⟩:=q90;exact hc π s1 a g b us Q f c d) he hpl
def jr (hc:D1 X (.type T) r)(hg:Gl X x)(hm:X.mg x=none)(hv:XW x=some (.type T))(ha:PA X (e::es) t)(hn:autoParam (x ≠ "__name__") eL)(hdb:autoParam (nDb x) eL)
  (he:autoParam (XJ (e::es) X.env=(false,eval e X.env)::XJ es X.env) eH) (hpl:autoParam ((XO pos<|XJ es X.env).any (·.1)=false) eH):PE X (.Call (.Name x p) (e::es) [] pos) (tCB r t):=by intro π s a H Q I h;refine Ub<|aK I hg hm hv ?_ hn hdb;exact Ta (thn (ha pos π s a H _ I h) λus s1 q90=>by obtain⟨b,g,f,c,d⟩:=q90;exact hc π s1 a g b us Q f c d) he hpl
end
end
end L2
namespace HT
open PySem PyProof.Rows
section

def cat_tup (ht:IsTup s.heap t vs.toArray)(hb:IsTup s.heap b ws.toArray)(hv:vs≠[])
  (h1:ws=[]->Q (.ref t) s) (h2:ws≠[]->Q (.ref s.heap.objs.size) { s with heap:=s.heap.push { cls:=.type "tuple",data:=.seq (vs++ws).toArray } })
  (hsz:vs.length+ws.length<=XI):XR (model prog w) A (binaryOp .Add (.ref t)<|.ref b) Q E s:=by
 obtain⟨⟨cls,dd,data,k⟩,i,o,n,m⟩:=id ht;obtain⟨⟨p,g,j,c⟩,a,f,l,d⟩:=id hb;simp only at o m f d;subst o m f d;have e:vs.toArray++ws.toArray=(vs++ws).toArray:=by simp
 by_cases h:ws=[]
 .exact concat_meets #v[_,i,rfl] #v[_,a,rfl] noFill_tuple_add seq_tuple_add VO VC (Vn _ _)
   (tuple_addW1 t b vs.toArray ws.toArray n l dd g k c (by simpa using hv)<|by simp[h]) #v[i,a,h1 h]
 .refine concat_meets #v[_,i,rfl] #v[_,a,rfl] noFill_tuple_add seq_tuple_add VO VC (Vn _ _)
   (tuple_addW2 t b vs.toArray ws.toArray n l dd g k c (by simpa using hv) (by simpa using h) (by rw[Rb,Rb];exact hsz)) #v[i,a,?_]
  rw[e];exact h2 h
def sIx (n d:Nat):Option Int->Nat
 | none=>d
 | some v=>if v<0 then(v+(n:Int)).toNat else min v.toNat n
def sIx_none (n d):sIx n d none=d:=rfl
def sIx_nat (n d k:Nat):sIx n d (some (k:Int))=min k n:=by show(if k<0 then((k:Int)+n ).toNat else min (k:Int).toNat n)=min k n;rw[QK (by simp[*] ),RQ]
def pA (p:IsPart v o)(h:Q o s):XR (model prog w) A (Builtin.Slice.slicePartIndex v) Q E s:=by
 cases p with
 | none=>exact slicePart_none h
 | int i t=>exact slicePart_int h
end
end HT
namespace L2
open PySem PySem.Spec PyProof.Rows

section
abbrev TO :=St->Hp->(Option Int->Hp->Prop)->Prop
def PO (X:Cx)(e:Option XG)(t:TO):Prop :=
 ∀a s (b:St) H Q,Inv X a b H s->t b H Q ->
  XR (model X.prog X.w) X.A (evalPart e X.env) (λu d=>∃o c,Inv X a b c d/\IsPart u o/\Q o c) X.xe s
def CQ :TO:=λ_ H Q=>Q none H
def Jn (t:TE):TO:=λa H Q=>t a H λx b=>∃i,x = .int i/\Q (some i) b
def ax :∀{us},s0 (ns.map V.int) us->IntsAre us ns:=by
 induction ns with
 | nil=>intro us r;rw[RK]at r;cases r;exact .nil
 | cons n ns c =>
  intro us r;rw[QL]at r;cases r with
  | cons b a =>obtain⟨t,e⟩:=b;subst e;exact .cons n t<|c a
section
variable {lo:Option XG}
def CM :PO X none CQ:=by intro a s b H Q I h;rw[evalPart_none];exact QF #v[none,H,I,.none,h]
def tL (h:PE X e te):PO X (some e) (Jn te):=by
 intro a s b H Q I f;rw[evalPart_some];refine thn (h a s b H _ I f) ?_;rintro u s1 ⟨x,j,g,c,d⟩
 obtain⟨i,rfl,q⟩:=d;obtain⟨t,rfl⟩:=c;exact#v[some i,j,g,.int i t,q]
def SlR (X:Cx)(r:V->Option Int->Option Int->Hp->VK->Prop):Prop :=
 ∀a s (b:St) H x v d c lo hi e Q,Inv X a b H s->m6 x v->s.heap.IsSliceOf e d c .none->IsPart d lo->IsPart c hi->r x lo hi H Q ->
  ∃T f,typeLookup (.type T) "__getitem__" = pure (some<|.builtin f)/\s.TypeIs v T/\XR (model X.prog X.w) X.A (getItem v<|.ref e) (EP X a b Q) X.xe s
def tSl (r:V->Option Int->Option Int->Hp->VK->Prop)(te:TE)(tl th:TO):TE:=λa H Q=>te a H λx d=>tl a d λl c=>th a c λu b=>r x l u b Q
def wc (hr:SlR X r)(he:PE X e te)(hl:PO X lo tl)(hu:PO X hi th):PE X (.Subscript e (.Slice lo hi none p2) pos) (tSl r te tl th):=by
 intro a s d H Q I h;refine Subscript_ (thn (he a s d H _ I h) ?_ );rintro v s1 ⟨x,C,A,j,n⟩;refine wpAny_Slice (thn (hl a s1 d C _ A n) λg s2 #v[l,B,z,p,m]=>thn (hu a s2 d B _ z m) ?_ );rintro f c ⟨u,i,y,o,k⟩;rw[evalPart_none];refine QF ?_;have w:Inv X a d i { c with heap:=c.heap.push { cls:=.type "slice",data:=.fields #[g,f,.none] } }:=y.kept λb D q=>QE _ q
 obtain⟨T,E,t,ht,hg⟩:=hr a { c with heap:=c.heap.push { cls:=.type "slice",data:=.fields #[g,f,.none] } } d i x v g f l u c.heap.objs.size Q w j (WK ..) p o k;exact tail_any ht t hg (by with_unfolding_all rfl)
def uI (xs:List V)(lo hi:Option Int):List V:=(xs.drop<|HT.sIx xs.length 0 lo).take<|HT.sIx xs.length xs.length hi-HT.sIx xs.length 0 lo
def nC (xs) (lo hi):(uI xs lo hi).length<=xs.length:=by unfold uI;rw[VW,List.length_drop];lia
def IQ (K:Qf):R2:=λx y H Q=>∃a b d c,x = .ref a/\y = .ref b/\SqT K H a d/\SqT K H b c/\d≠[]/\d.length+c.length<=XI /\
 (c=[]->Q (.ref a) H)/\(c≠[]->∀p,H p=none->Q (.ref p) (upd H p<|.tup<|d++c))
def s0.nil_iff (r:s0 xs us):us=[]↔xs=[]:=by
 cases r with
 | nil=>simp
 | cons _ _=>simp
def Di :OpR X (binaryOp .Add) (IQ X.K):=by intro e s C H x y v u Q I l k h;obtain⟨a,b,j,i,rfl,rfl,B,A,t,g,n,m⟩:=h;cases l;cases k;obtain⟨r,d,p,_⟩:=I.tuple B;obtain⟨f,c,p2,_⟩:=I.tuple A;refine HT.cat_tup p p2 (λz=>t<|d.nil_iff.1 z) (λz=>#v[.ref a,H,I,rfl,n<|c.nil_iff.1 z]) (λz=>?_) (by rw[<-d.length,<-c.length];exact g);refine#v[.ref s.heap.objs.size,_,I.laid (λb D q=>QE _ q) (QP _) ?_,rfl,m (λw=>z<|c.nil_iff.2 w) _<|I.hok.fresh<|QP _];exact#v[by rw[RW];exact g,_,d.append c,IsTup.new _ _]
end
end
variable {π:List (Xy×XM)}{its:List Xx}
section
def ixN (n:Nat)(i:Int):Option Nat:=if 0<=i then(if i<n then some i.toNat else none) else if -(n:Int)<=i then some (i+n).toNat else none
def atI {α:Type}(xs:List α)(i:Int):Option α:=(ixN xs.length i).bind λj=>xs[j]?
def qM (h:ixN n i=some j):seqIndex? i n=some j/\j<n /\ -(n:Int)<=i/\i<n:=by
 unfold ixN at h;by_cases b:0<=i
 .rw[QH b]at h;by_cases a:i<n
  .rw[QH a]at h;have e:=QU h;exact#v[by rw[seqIndex_of b a,e],by lia,by lia,a]
  .rw[QK a]at h;cases h
 .rw[QK b]at h;by_cases a:-n<=i
  .rw[QH a]at h;have e:=QU h;exact#v[by rw[seqIndex_neg (by lia) a,e],by lia,a,by lia]
  .rw[QK a]at h;cases h
def gu (h:atI xs i=some v):∃j,seqIndex? i xs.length=some j/\xs[j]? = some v/\j<xs.length /\ -(xs.length:Int)<=i/\i<xs.length:=by
 unfold atI at h;cases e:ixN xs.length i with
 | none=>rw[e]at h;cases h
 | some j =>rw[e]at h;obtain⟨d,c,b,a⟩:=qM e;exact#v[j,d,h,c,b,a]
def km {j:Nat}(h:xs[j]? = some v):atI xs (j:Int)=some v:=by
 have a:=(QR.1 h).1;have e:ixN xs.length j=some j:=by unfold ixN;rw[QH (by simp[*] ),QH<|by simp[*] ];simp
 unfold atI;rw[e];exact h
def qZ (b:XG):Prop:=∀o i,subscripted b false o i=operate [o,i] (getItem o i)
def IxR (X:Cx)(r:R2):Prop :=
 ∀b a π s (c:St) H x y v u Q,Inv X π c H s->m6 x v->m6 y u->r x y H Q ->
  subscripted a false v u=operate [v,u] (getItem v u)->XR (model X.prog X.w) X.A (subscriptTail b a v u) (EP X π c Q) X.xe s
def MtR (X:Cx)(id:String)(r:V->List V->Hp->VK->Prop):Prop :=
 ∀π s (a:St) H x b v us Q,Inv X π a H s->m6 x v->s0 b us->r x b H Q ->
  XR (model X.prog X.w) X.A (call (.builtin id) (v::us)) (EP X π a Q) X.xe s
section

def cb (hr:IxR X r)(ha:PE X a ta)(hb:PE X b tb)(hs:qZ b):PE X (.Subscript a b pos) (tOp r ta tb):=by intro π s c H Q I h;exact Subscript_ (Gc ha hb I h λv u s2 x y g f e d q=>hr a b π s2 c g x y v u Q f e d q<|hs _ _)
def xC (K:Qf):R2:=λx y H Q=>∃p a i v,x = .ref p/\y = .int i/\SqL K H p a/\atI a i=some v/\Q v H
def Iq (K:Qf):R2:=λx y H Q=>∃p a i v,x = .ref p/\y = .int i/\SqT K H p a/\atI a i=some v/\Q v H
def Kc :R2:=λx y H Q=>∃z i c,x = .str z/\y = .int i/\z.length<=XI/\atI z.cps.toList i=some c/\Q (.str #v[#[c]]) H
def R8 :IxR X (xC X.K):=by
 intro b c π s g H x y v u Q I A o h k;obtain⟨p,G,i,z,rfl,rfl,B,C,q⟩:=h;cases A;obtain⟨t,rfl⟩:=o;obtain⟨its,r,e,J⟩:=I.list B;obtain⟨j,a,F,L,E,D⟩:=gu C;obtain⟨w,m,d⟩:=r.get F;have hl:=r.length;have K:=aS;have fin:EP X π g Q w s:=#v[z,H,I,d,q];by_cases l:0<=i
 .have f:i.toNat=j:=by rw[seqIndex_of l D]at a;exact QU a
  exact item_listR e.isList l (by lia) (by rw[f];simpa using m) fin k
 .have f:(i+its.toArray.size ).toNat=j:=by rw[seqIndex_neg (by lia) E]at a;rw[Rb,<-hl];exact QU a
  exact subscriptTail_builtinR e.isList.typeIs slot_list_getitem.lookup
   (wpAny_getItem_list_neg e.isList (by lia) (by rw[Rb] <;> lia) (by lia) (by rw[f];simpa using m) #v[rfl,fin]) k
def Hw :IxR X (Iq X.K):=by
 intro a b π s d H x y v u Q I k g h l;obtain⟨p,C,i,z,rfl,rfl,m,n,q⟩:=h;cases k;obtain⟨t,rfl⟩:=g;obtain⟨its,r,e,D⟩:=I.tuple m;obtain⟨j,A,o,J,G,F⟩:=gu n;obtain⟨w,B,c⟩:=r.get o;have hl:=r.length;have E:=aS;have fin:EP X π d Q w s:=#v[z,H,I,c,q];exact subscriptTail_builtinR e.typeIs slot_tuple_getitem.lookup
  (getItem_tuple e (by lia) (by lia) (by rw[Rb,<-hl];exact A) (by simpa using B) #v[rfl,fin]) l
def Ft :IxR X Kc:=by
 intro a b π s r H x y v u Q I f e h g;obtain⟨z,i,c,rfl,rfl,A,k,q⟩:=h;obtain⟨t,rfl⟩:=f;obtain⟨w,rfl⟩:=e;obtain⟨j,d,n,C,m,l⟩:=gu k;have hl:z.cps.toList.length=z.length:=by simp[Str.length]
 rw[hl]at d m l;have B:=aS;exact tail_any (typeIs_str s z t) slot_str_getitem.lookup (getItem_str (by have p:decide (i < -(2 ^ 63) )=false:=Rk (by lia);have o:decide (i >= 2 ^ 63)=false:=Rk (by lia);rw[p,o,Bool.or_false]) (by rw[d];simpa using n) #v[.str #v[#[c]],H,I.tok _,#v[_,rfl],q]) g
def ph (its:List Xx)(n j) (u):XM.mapSeq (·.setIfInBounds j u) { cls:=.type "list",data:=.seq its.toArray n }={ cls:=.type "list",data:=.seq (its.set j u).toArray n }:=by simp[XM.mapSeq]
def Inv.lst {σ:St}{H}{s}{p}{xs} (I:Inv X π σ H s)(h:H p=some (.lst xs)) :
  ∃(its:List Xx) (n:Nat),s0 xs its/\s.heap.get? p=some { cls:=.type "list",data:=.seq its.toArray n }/\xs.length<=XI:=by obtain⟨z,its,n,r,e⟩:=I.hok p _ h;exact#v[its,n,r,e,z]
def Inv.lstUpd {σ:St}(I:Inv X π σ H s)(h:H p=some (.lst xs))
  (ho:s.heap.get? p=some { cls:=.type "list",data:=.seq its.toArray n }) (hf:f { cls:=.type "list",data:=.seq its.toArray n }={ cls:=.type "list",data:=.seq its'.toArray n' }) (r:s0 ys its') (hz:ys.length<=XI) (t) :
  Inv X π σ (upd H p<|.lst ys) { s with heap:=s.heap.update p f,toks:=t }:=by
 have e:(s.heap.update p f).get? p=some { cls:=.type "list",data:=.seq its'.toArray n' }:=by rw[RR f ho (by rw[hf] <;> rfl),hf]
 refine I.write (by rw[h];trivial) (.inl rfl) (λb u a q=>(RT _ _<|RM a).trans q) #v[_,e] ?_;exact#v[hz,its',n',r,e]
def vS :V->V->V->Hp->(Hp->Prop)->Prop:=λo i v H Q=>∃p a k j,o = .ref p/\i = .int k/\H p=some (.lst a)/\ixN a.length k=some j/\Q (upd H p<|.lst<|a.set j v)
def dq :GN X vS:=by
 intro π s m H o i v C D u Q I y z x h;obtain⟨p,w,k,j,rfl,rfl,d,B,q⟩:=h;cases y;obtain⟨t,rfl⟩:=z;obtain⟨its,n,r,b,A⟩:=I.lst d;obtain⟨a,F,f,e⟩:=qM B;have hl:=r.length;have E:=aS;have l :=
  I.lstUpd d b (ph its n j u) (r.set x j) (by rw[Se];exact A) s.toks
 by_cases g:0<=k
 .have c:k.toNat=j:=by rw[seqIndex_of g e]at a;exact QU a
  exact PySem.W.ki_setAt b g (by lia) (by rw[Rb,<-hl];exact e) (by rw[c];exact#v[_,l,q])
 .have c:(k+its.toArray.size ).toNat=j:=by rw[seqIndex_neg (by lia) f]at a;rw[Rb,<-hl];exact QU a
  exact PySem.W.ki_setBack b (by lia) (by rw[Rb,<-hl];exact f) (by lia) (by rw[c];exact#v[_,l,q])
def lP (lo hi) (n):(sliceBounds lo hi none n).1=((HT.sIx n 0 lo:Nat):Int)/\(sliceBounds lo hi none n).2.1=((HT.sIx n n hi:Nat):Int)/\(sliceBounds lo hi none n).2.2=1:=by
 refine#v[?_,?_,rfl]
 .cases lo with
  | none=>simp[sliceBounds,HT.sIx]
  | some i =>
   simp only[sliceBounds,HT.sIx,Option.getD_none]
   by_cases h:i<0
   .simp only[h] <;> lia
   .simp only[h] <;> lia
 .cases hi with
  | none=>simp[sliceBounds,HT.sIx]
  | some i =>
   simp only[sliceBounds,HT.sIx,Option.getD_none]
   by_cases h:i<0
   .simp only[h] <;> lia
   .simp only[h] <;> lia
def jg (its:List Xx)(lo hi):slicePick its.toArray lo hi none=((its.drop<|HT.sIx its.length 0 lo).take<|HT.sIx its.length its.length hi-HT.sIx its.length 0 lo).toArray:=by obtain⟨c,b,a⟩:=lP lo hi its.toArray.size;unfold slicePick;rw[c,b,a];simp only[sliceRange_one,pick_run] <;> rfl
def JU (K:Qf):V->Option Int->Option Int->Hp->VK->Prop:=λx c d H Q=>∃a b,x = .ref a/\SqL K H a b/\∀p,H p=none->Q (.ref p) (upd H p<|.lst<|uI b c d)
def Aj :SlR X (JU X.K):=by intro π s n H x v t p e f u Q I g m j i h;obtain⟨a,c,rfl,l,q⟩:=h;cases g;obtain⟨its,r,ht,k⟩:=I.list l;have d:=r.length;refine#v["list",_,slot_list_getitem.lookup,ht.isList.typeIs,?_];refine wpAny_getItem_list_slice ht.isList m j i .none (by simp) ?_ (by rw[Rb] <;> lia);rw[jg,<-d];refine#v[.ref s.heap.objs.size,_,I.laid (λb w q=>QE _ q) (QP _) ?_,rfl,q _<|I.hok.fresh<|QP _];exact#v[QZ (nC c e f) k,_,0,(r.drop<|HT.sIx c.length 0 e).take<|HT.sIx c.length c.length f-HT.sIx c.length 0 e,QV _ rfl]
def U3 :D1 X (.builtin "len") (λxs H Q=>∃p ys,xs=[.ref p]/\(SqL X.K H p ys\/SqT X.K H p ys)/\Q (.int ys.length) H):=by
 intro π s g H xs us Q I r h;obtain⟨p,ys,rfl,b,q⟩:=h;obtain⟨u,rfl,e⟩:=T3 r;cases e;have i:=aS;rcases b with b | b
 .obtain⟨its,c,d,f⟩:=I.list b;have a:=c.length;exact Calls.call_len_list d.isList (by simp only[Rb] <;> lia) #v[.int ys.length,H,I.tok _,#v[s.toks+1,by rw[Rb,a]],q]
 .obtain⟨its,c,d,f⟩:=I.tuple b;have a:=c.length;exact len_tuple d (by simp only[Rb] <;> lia) #v[.int ys.length,H,I.tok _,#v[s.toks+1,by rw[Rb,a]],q]
def ka :D1 X (.builtin "len") (λxs H Q=>∃z,xs=[.str z]/\z.length<=XI/\Q (.int z.length) H):=by intro π s a H xs us Q I r h;obtain⟨z,rfl,b,q⟩:=h;obtain⟨u,rfl,t,rfl⟩:=T3 r;have c:=aS;exact len_str (by lia) #v[.int z.length,H,I.tok _,#v[_,rfl],q]
def jh :D1 X (.type "tuple") (λxs H Q=>∃p ys,xs=[.ref p]/\((SqL X.K H p ys/\∀l,H l=none->Q (.ref l) (upd H l<|.tup ys))\/(SqT X.K H p ys/\Q (.ref p) H))):=by
 intro π s g H xs us Q I r h;obtain⟨p,ys,rfl,h⟩:=h;obtain⟨u,rfl,m⟩:=T3 r;cases m;rcases h with ⟨f,q⟩ | ⟨f,q⟩
 .obtain⟨its,c,d,i⟩:=I.list f;have j:=c.length;refine call_tuple_list d.isList (λa kp=>?_) (by simp only[Rb] <;> lia);have k:Inv X π g H { s with heap:=a }:=I.kept kp;have n:Inv X π g (upd H a.objs.size<|.tup ys) { s with heap:=a.push { cls:=.type "tuple",data:=.seq its.toArray } } :=
   k.laid (λb o e=>QE _ e) (QP _) (#v[i,its,c,IsTup.new _ _])
  exact#v[.ref a.objs.size,_,n,rfl,q _<|k.hok.fresh<|QP _]
 .obtain⟨its,c,d,i⟩:=I.tuple f;exact call_tuple_same d #v[.ref p,H,I,rfl,q]
def tyV (K:Qf)(T:String)(x:V)(H:Hp):Prop:=match x with
 | .str _=>T = "str"
 | .int _=>T = "int"
 | .ref p=>(T = "list" /\ ∃b,SqL K H p b)\/(T = "tuple" /\ ∃o,K.lookup p=some o/\o.cls = .type "tuple" /\ o.dict=none) \/
   (T = "dict" /\ ((∃a,H p=some (.dK a))\/∃a,H p=some (.dT a)))\/(T = "set" /\ ∃S n,H p=some (.set S n))
 | _=>False
def Hm {σ:St}(I:Inv X π σ H s)(r:m6 x v)(ty:tyV X.K T x H) :
  s.TypeIs v T/\∀a,v = .ref a->∃ob,s.heap.get? a=some ob/\ob.dict=none:=by
 cases x with
 | str z =>obtain⟨t,rfl⟩:=r;cases(ty);exact#v[typeIs_str s z t,λ_ e=>nomatch e]
 | int i =>obtain⟨t,rfl⟩:=r;cases(ty);exact#v[typeIs_int s i t,λ_ e=>nomatch e]
 | ref p =>
  cases r;rcases ty with ⟨rfl,m,k⟩ | ⟨rfl,o,b,l,g⟩ | ⟨rfl,b⟩ | ⟨rfl,S,n,b⟩
  .obtain⟨its,_,j,_⟩:=I.list k;refine#v[j.isList.typeIs,λa e=>?_];cases e;obtain⟨o,n,e,c,g,_⟩:=j;exact#v[o,e,g]
  .refine#v[#v[o,I.kIn p o b,l],λa e=>?_];cases e;exact#v[o,I.kIn _ o b,g]
  .have z:∃o,s.heap.get? p=some o/\o.ExactDict:=by
    rcases b with ⟨f,b⟩ | ⟨f,b⟩
    .obtain⟨_,_,_,_,o,_,_,e,d,_⟩:=I.hok p _ b;exact#v[o,e,d]
    .obtain⟨_,_,_,_,o,_,_,e,d,_⟩:=I.hok p _ b;exact#v[o,e,d]
   obtain⟨o,e,d⟩:=z;refine#v[#v[o,e,d.1],λa h=>?_];cases h;exact#v[o,e,d.2.1]
  .obtain⟨o,_,_,_,e,d,_⟩:=I.hok p _ b;refine#v[#v[o,e,d.1],λa h=>?_];cases h;exact#v[o,e,d.2.1]
 | _=>exact False.elim ty
def tBM (K:Qf)(T:String)(r:V->List V->Hp->VK->Prop)(to:TE)(t:TA):TE:=λa H Q=>to a H λx b=>tyV K T x b/\t a b λc d=>r x c d Q
variable {id:String}
def Jo (pa:PlainAttrs T)(slot:Slot T name id)(hty:typeOf (.builtin id)=pure (.type "method_descriptor"))(hm:MtR X id r)(ho:PE X o to)(ha:PA X (e::es) t)
  (hbase:autoParam (XU o name X.env (eval o X.env)=eval o X.env) eH)
  (hfew:autoParam (((XO cpos<|XJ (e::es) X.env).all (λx=>!x.1)&&(Yc cpos<|Yd [] X.env).all (λx=>x.1.isSome)
   && decide ((e::es).length+([]:List XQ).length+(if ([]:List XQ).isEmpty then 0 else 1)<30))=true) eH)
  (hline:autoParam ((apos.endLine == cpos.line)=true) eH) (hs:autoParam (XJ (e::es) X.env=(false,eval e X.env)::XJ es X.env) eH) (hplain:autoParam ((XO cpos<|XJ es X.env).any (·.1)=false) eH) :
  PE X (.Call (.Attribute o name apos) (e::es) [] cpos) (tBM X.K T r to t):=by intro π s a H Q I h;refine wpAny_Call_method_late hbase hfew hline rfl (thn (ho π s a H _ I h) ?_ );rintro v s1 ⟨x,q,d,b,g,k⟩;obtain⟨m,l⟩:=Hm d b g;refine#v[T,id,pa,slot,hty,m,l,?_];have c:=ha cpos π s1 a q _ d k;rw[hs]at c ⊢;refine UQ (by show(false||(XO cpos<|XJ es X.env).any (·.1))=false;rw[hplain] <;> rfl)<|Wh ?_;exact thn c λus s2 q90=>by obtain⟨f,p,n,i,j⟩:=q90;exact hm π s2 a p x f v us Q n b i j
end
end

section
def MtM (X:Cx)(id:String)(r:V->List V->Hp->VK->Prop):Prop :=
 ∀π s (a:St) H x b v us Q,Inv X π a H s->m6 x v->s0 b us->r x b H Q ->
  XR (model X.prog X.w) X.A (call (.builtin id) (v::us)) (EP X π a Q) X.xe s
theorem s0.one {x}{us}(h:s0 [x] us):∃u,us=[u]/\m6 x u:=by cases h with | cons r t=>cases t;exact#v[_,rfl,r]
def s0.reverse (h:s0 xs us):s0 xs.reverse us.reverse:=by
 induction h with
 | nil=>exact .nil
 | cons r t a=>rw[VH,VH];exact s0.append a<|.cons r .nil
theorem s0.rep (h:s0 xs us):∀k,s0 (List.replicate k xs).flatten (List.replicate k us).flatten
 | 0=>.nil
 | k+1=>by rw[Sf,Sf,SY,SY];exact s0.append h<|s0.rep h k
def fg (its):∀k (acc:List Xx),
  List.foldl (λx1 x2=>x1++x2) acc.toArray (List.replicate k its.toArray)=(acc++(List.replicate k its).flatten).toArray
 | 0,acc=>by simp
 | k+1,acc=>by
  have e:acc.toArray++its.toArray=(acc++its).toArray:=by simp
  have a:(acc++its)++(List.replicate k its).flatten=acc++(List.replicate (k+1) its).flatten:=by rw[Sf,SY,Ur]
  rw[<-a,<-fg its k (acc++its),<-e,Sf,Wi]
section
variable {σ:St}
def Inv.lset (I:Inv X π σ H s)(hH:H l=some (.lst xs))
  (e:s.heap.get? l=some { cls:=.type "list",data:=.seq its.toArray n }) (hf:f its.toArray=its'.toArray) (hv:s0 ys its') (hz:ys.length<=XI) :
  Inv X π σ (upd H l<|.lst ys) { s with heap:=s.heap.update l<|XM.mapSeq f,toks:=t' }:=by have q:=PySem.IsL.update e f;rw[hf]at q;refine I.write (by rw[hH];exact trivial) (.inl rfl) (λc u b a=>(RT s.heap (XM.mapSeq f)<|RM b).trans a) #v[_,q] ?_;exact#v[hz,its',_,hv,q]
def Inv.lnew (I:Inv X π σ H s)(hv:s0 ys its)(hz:ys.length<=XI) :
  Inv X π σ (upd H s.heap.objs.size<|.lst ys) { s with heap:=s.heap.push { cls:=.type "list",data:=.seq its.toArray },toks:=t' } :=
 I.laid (λ_ _ q=>QE _ q) (QP _) #v[hz,its,0,hv,QV _ rfl]
def Inv.fresh (I:Inv X π σ H s):H s.heap.objs.size=none:=I.hok.fresh<|QP _
def Inv.lstM (I:Inv X π σ H s)(hH:H l=some (.lst xs)):xs.length<=XI/\∃(its:List Xx) (n:Nat),s0 xs its/\xs.length=its.length/\s.heap.get? l=some { cls:=.type "list",data:=.seq its.toArray n }:=by obtain⟨z,its,n,r,e⟩:=I.hok l _ hH;exact#v[z,its,n,r,r.length,e]
def zO (h:n<=XI):Builtin.List.listTooLong n=false:=by exact Rk (by simp[*] )
end
section

def kK :V->List V->Hp->VK->Prop:=λx b H Q=>∃l a y,x = .ref l/\b=[y]/\H l=some (.lst a)/\a.length<XI/\Q .non (upd H l<|.lst<|a++[y])
def bS :MtM X "list.append" kK:=by intro π s f H x i v us Q I b c h;obtain⟨l,g,y,rfl,rfl,a,j,q⟩:=h;cases b;obtain⟨u,rfl,d⟩:=c.one;obtain⟨z,its,n,r,hl,e⟩:=I.lstM a;refine UZ F.slot_list_append #v[_,e,rfl] F.entry_list_append (F.args_list_append_2 _ _) (PySem.list_append l its.toArray n u (by rw[Rb];lia)) #v[e,?_];refine#v[.non,_,I.lset a e (by simp) (r.append<|.cons d .nil) ?_,rfl,q];rw[RW,List.length_singleton];lia
def JP :R2:=λx y H Q=>∃l b c a,x = .ref l/\y = .ref b/\H l=some (.lst c)/\H b=some (.lst a)/\c.length+a.length<=XI/\∀p,H p=none->Q (.ref p) (upd H p<|.lst<|c++a)
def FW :OpR X (binaryOp .Add) JP:=by
 intro π s o H x y v u Q I d c h;obtain⟨l,b,w,p,rfl,rfl,i,j,B,q⟩:=h;cases d;cases c;obtain⟨z,its,n,r,hl,e⟩:=I.lstM i;obtain⟨t,a,A,f,g,m⟩:=I.lstM j;refine PySem.P.add_list e m ?_ (by rw[Rb,Rb];lia);have k:its.toArray++a.toArray=(its++a).toArray:=by simp
 rw[k];exact#v[.ref _,_,I.lnew (r.append f) (by rw[RW];omega ),rfl,q _ I.fresh]
def Jq :R2:=λx y H Q=>∃l k a,x = .ref l/\y = .int k/\H l=some (.lst a) /\ -(2 ^ 63)<=k/\k<2 ^ 63/\a.length*k.toNat<=XI /\
 ∀p,H p=none->Q (.ref p) (upd H p<|.lst (List.replicate k.toNat a).flatten)
def jW {α:Type}(xs:List α)(k):(List.replicate k xs).flatten.length=k*xs.length:=by
 induction k with
 | zero=>simp
 | succ k a=>rw[Sf,SY,RW,a,Nat.succ_mul,Nat.add_comm]
def xZ :OpR X (binaryOp .Mult) Jq:=by
 intro π s G H x y v u Q I A w h;obtain⟨l,k,J,rfl,rfl,B,D,C,o,q⟩:=h;cases A;obtain⟨t,rfl⟩:=w;obtain⟨z,its,n,r,hl,e⟩:=I.lstM B;have d:its.toArray.size*k.toNat<=XI:=by rw[Rb,<-hl];exact o
 have g:¬its.toArray.size*k.toNat > (2 ^ 63-1) / 8:=by
  have:XI<=(2 ^ 63-1) / 8:=by decide
  lia
 have f:¬(!Builtin.List.listFitsIndex k)=true:=by rw[fitsIndex_both D C];exact Ri
 have b:¬Builtin.List.listTooLong (its.toArray.size*k.toNat)=true:=by rw[zO d];exact Ri
 have c:List.foldl (λj i=>j++i) #[] (List.replicate (if its.toArray.isEmpty=true then 0 else k.toNat) its.toArray)=(List.replicate k.toNat its).flatten.toArray:=by
  have E:=λm=>by have:=fg its m [];rw[RC]at this;exact this
  rw[E];cases its with
  | nil=>simp
  | cons a K=>rw[QK<|by simp]
 refine wpAny_binaryOp_repeat_ref (by decide) #v[_,e,rfl] (λp=>typeIs_int p k t) noFill_list_mul F.fills_int_mul Wj repeat_list F.slot_int_index.lookup
  (UZ Wj (typeIs_int s k t) F.entry_int_rmul (F.args_int_rmul_2 _ _) (int___rmul___int_list k t l its.toArray n)
   #v[e,rfl,#v[_,e,rfl],UZ F.slot_list_mul #v[_,e,rfl] F.entry_list_mul (F.args_list_mul_2 _ _) (AutoListH.list___mul___list_int_3 l its.toArray n k t f g b) #v[e,?_]])
 rw[c];exact#v[.ref _,_,I.lnew (r.rep k.toNat) (by rw[jW,Xf];exact o),rfl,q _ I.fresh]
end
end
variable {o:Option V}{dy:List (List Key×V)}
section
section
variable {κ:Type}[DecidableEq κ]
def W1 (dy:List (κ×V))(k:κ):Option V:=(dy.find? λa=>decide (a.1=k)).map (·.2)
def U0 (dy:List (κ×V))(k:κ)(v:V):List (κ×V) :=
 if (dy.any λa=>decide (a.1=k))=true then dy.map (λa=>if a.1=k then(a.1,v) else a) else dy++[(k,v)]
def iO {k:κ}(e:p.1=k):W1 (p::r) k=some p.2:=by simp[W1,e]
def gC {k:κ}(e:¬p.1=k):W1 (p::r) k=W1 r k:=by simp[W1,e]
theorem nU (k):∀dy:List (κ×V),(dy.any λkv=>decide (kv.1=k))=(W1 dy k).isSome
 | []=>rfl
 | p::r=>by
  rw[WV];by_cases e:p.1=k
  .simp only[iO e,Rg e,Bool.true_or,Option.isSome_some]
  .rw[gC e,Rk e,Bool.false_or];exact nU k r
def aH (dy) (k:κ)(v):(U0 dy k v).length<=dy.length+1:=by
 unfold U0;split
 .rw[QI];simp[*]
 .rw[RW,QM,RV];simp[*]
def eP.isSome_eq (r:eP o u):o.isSome=u.isSome:=by
 cases o with
 | none=>cases u with
  | none=>rfl
  | some _=>exact(r).elim
 | some _=>cases u with
  | none=>exact(r).elim
  | some _=>rfl
def eP.getD (r:eP o u)(rd:m6 d d'):m6 (o.getD d) (u.getD d'):=by
 cases o with
 | none=>cases u with
  | none=>exact rd
  | some _=>exact(r).elim
 | some _=>cases u with
  | none=>exact(r).elim
  | some _=>exact r
def KV.val {dy}{vs} (r:KV dy vs)(k:κ):eP (W1 dy k) (valueAt vs k):=by
 induction r with
 | nil=>exact True.intro
 | @cons p q i a h t f =>
  obtain⟨d,g⟩:=h;by_cases e:p.1=k
  .have c:=d.symm.trans e;have b:valueAt (q::a) k=some q.2:=by simp[valueAt,c]
   rw[iO e,b];exact g
  .have c:¬q.1=k:=λz=>e<|d.trans z
   have b:valueAt (q::a) k=valueAt a k:=by simp[valueAt,c]
   rw[gC e,b];exact f
def KV.any {dy}{vs} (r:KV dy vs)(k:κ):(dy.any λkv=>decide (kv.1=k))=vs.any λkv=>decide (kv.1=k):=by
 induction r with
 | nil=>rfl
 | cons h t a=>rw[WV,WV,a,h.1]
def KV.repl {dy}{vs} (r:KV dy vs)(k:κ)(ry:m6 y u) :
  KV (dy.map λkv=>if kv.1=k then(kv.1,y) else kv) (vs.map λkv=>if kv.1=k then(kv.1,u) else kv):=by
 induction r with
 | nil=>exact .nil
 | @cons p q f d h t b =>
  rw[QL,QL];refine .cons ?_ b;obtain⟨a,c⟩:=h;by_cases e:p.1=k
  .rw[QH e,QH<|a.symm.trans e];exact#v[a,ry]
  .rw[QK e,QK<|λz=>e<|a.trans z];exact#v[a,c]
def KV.put {dy}{vs} (r:KV dy vs)(k:κ)(ry:m6 y u):KV (U0 dy k y) (stored vs k u):=by
 unfold U0 stored;rw[r.any k];by_cases e:(vs.any λa=>decide (a.1=k))=true
 .rw[QH e,QH e];exact r.repl k ry
 .rw[QK e,QK e];exact Paired.snoc r #v[rfl,ry]
def KV.length {dy}{vs:List (κ×Xx)}(r:KV dy vs):dy.length=vs.length:=Um r
end
def mY (r:m6 (kV k) u):(x9 P w).is k u=true:=by
 cases k with
 | inl i=>obtain⟨t,e⟩:=(r);subst e;exact ng P w i t
 | inr x=>obtain⟨t,e⟩:=(r);subst e;exact ot P w x t
theorem jU :∀{ks} {us},s0 (ks.map kV) us->ItemsAre (x9 P w) ks us
 | [],_,r=>by rw[RK]at r;cases r;exact .nil
 | k::ks,_,r=>by
  rw[QL]at r;cases r with
  | cons h t=>exact .cons (mY h)<|jU t
abbrev KT (H:Hp):List (List Key×V)->List (List Key×Xy×Xx)->Prop:=Paired λp q=>p.1=q.1/\H q.2.1=some (.tup<|p.1.map kV)/\m6 p.2 q.2.2
def KT.val (r:KT H dy xs)(k):eP (W1 dy k) ((atKey xs k).map (·.2)):=by
 induction r with
 | nil=>exact True.intro
 | @cons p q i a h t f =>
  obtain⟨d,_,g⟩:=h;by_cases e:p.1=k
  .have c:=d.symm.trans e;have b:atKey (q::a) k=some q.2:=by simp[atKey,c]
   rw[iO e,b];exact g
  .have c:¬q.1=k:=λz=>e<|d.trans z
   have b:atKey (q::a) k=atKey a k:=by simp[atKey,c]
   rw[gC e,b];exact f
def KT.repl (r:KT H dy xs)(k)(ry:m6 y u) :
  KT H (dy.map λkv=>if kv.1=k then(kv.1,y) else kv) (xs.map<|putAt k u):=by
 induction r with
 | nil=>exact .nil
 | @cons p q g f h t c =>
  rw[QL,QL];refine .cons ?_ c;obtain⟨a,b,d⟩:=h;unfold putAt;by_cases e:p.1=k
  .rw[QH e,QH<|a.symm.trans e];exact#v[a,b,ry]
  .rw[QK e,QK<|λz=>e<|a.trans z];exact#v[a,b,d]
def KT.put (r:KT H dy xs)(k)(hb:H b=some (.tup<|k.map kV))(ry:m6 y u) :
  KT H (U0 dy k y) (storedH xs k b u):=by
 have e:(dy.any λa=>decide (a.1=k))=(atKey xs k).isSome:=by rw[nU,(r.val k).isSome_eq,Us]
 unfold U0 storedH;rw[e];by_cases q:(atKey xs k).isSome=true
 .rw[QH q,QH q];exact r.repl k ry
 .rw[QK q,QK q];exact Paired.snoc r #v[rfl,hb,ry]
def KT.keeps {xs} (r:KT H dy xs)(ht:∀b ys,H b=some (.tup ys)->H' b=some (.tup ys)):KT H' dy xs :=
 Paired.mapP r λ_ _ z=>#v[z.1,ht _ _ z.2.1,z.2.2]
section

def Dn (ok:HOk P w H h)(e:Rd H a u):C4 P w H h a u:=e.ok ok
def wX {dy} (ok:HOk P w H h)(e:Rd H a (.dK dy)):dy.length<=XI/\(a == sysModules)=false/\∃vs,KV dy vs/\h.DictOf (x9 P w) a vs :=
 Dn ok e
def yk {dy} (ok:HOk P w H h)(e:H a=some (.dK dy)):dy.length<=XI/\(a == sysModules)=false/\∃vs,KV dy vs/\h.DictOf (x9 P w) a vs:=wX ok<|.inl e
def qA (ok:HOk P w H h)(e:H a=some (.tup<|ks.map kV)):(tupleKind<|x9 P w).is h ks a:=by obtain⟨_,its,r,o,d,c,n,b⟩:=(ok a _ e);exact#v[o,its.toArray,n,d,c,b,by simpa using jU r]
def xr (ok:HOk P w H h)(e:Rd H a (.dT dy)):dy.length<=XI/\(a == sysModules)=false /\
  ∃xs,KT H dy xs/\h.DictOfH (tupleKind<|x9 P w) a xs:=by
 obtain⟨z,y,xs,r,o,n,s,k,j,i,g,f⟩:=(Dn ok e);refine#v[z,y,xs,r,o,n,s,k,j,i,g,λx b=>?_,f];have all:∀{l} {m},KT H l m->∀x∈m,(tupleKind<|x9 P w).is h x.1 x.2.1:=by
  intro l m q;induction q with
  | nil=>intro x b;exact nomatch b
  | @cons p q v u c t d =>
   intro x b;rcases QQ.1 b with e | b
   .subst e;exact qA ok (by rw[<-c.1];exact c.2.1)
   .exact d x b
 exact all r x b
def Iz (ok:HOk P w H h)(e:H a=some (.dT dy)):dy.length<=XI/\(a == sysModules)=false /\
  ∃xs,KT H dy xs/\h.DictOfH (tupleKind<|x9 P w) a xs:=xr ok<|.inl e
end
def zG (H:Hp)(a:Xy)(y:V)(r:Option V):Prop :=
 (∃dy k,Rd H a (.dK dy)/\y=kV k/\r=W1 dy k)\/∃dy k b,Rd H a (.dT dy)/\y = .ref b/\H b=some (.tup<|k.map kV)/\r=W1 dy k
def BZ (H:Hp)(a:Xy)(y v:V)(H':Hp):Prop :=
 (∃dy k,H a=some (.dK dy)/\y=kV k/\dy.length<XI/\H'=upd H a (.dK<|U0 dy k v)) \/
 ∃dy k b,H a=some (.dT dy)/\y = .ref b/\H b=some (.tup<|k.map kV)/\dy.length<XI/\H'=upd H a (.dT<|U0 dy k v)
def zG.k {dy}{k} (e:H a=some (.dK dy)):zG H a (kV k) (W1 dy k):=.inl #v[dy,k,.inl e,rfl,rfl]
def BZ.k {dy}{k}(e:H a=some (.dK dy))(hl:dy.length<XI):BZ H a (kV k) v (upd H a<|.dK<|U0 dy k v):=.inl #v[dy,k,e,rfl,hl,rfl]
section
variable {σ:St}
def Inv.big (I:Inv X π σ H s):sysModules<s.heap.objs.size:=by have h:=(I.mod.glob.keeps I.bk).lt;exact US (by decide) h
def au (I:Inv X π σ H s)(mu:Mut (H a))(hs:XH.SameBut a s.heap h')(he:∃q,h'.get? a=some q)(new:C4 X.prog X.w (upd H a ob) h' a ob) :
  Inv X π σ (upd H a ob) { s with heap:=h',toks:=t' } :=
 I.write mu (.inl rfl) (λb q c z=>(hs.2 b c).trans z) he new
def yR {dy} (z:dy.length<=XI)(hd:(a == sysModules)=false)(rel:KV dy vs)(dd:h'.DictOf (x9 P w) a vs) :
  C4 P w H' h' a (.dK dy):=#v[z,hd,vs,rel,dd]
def uz (hu:A.units+1<XZ)(I:Inv X π σ H s)(g:BZ H a y v H')(ry:m6 y u)(rv:m6 v r)(h:∀s',Inv X π σ H' s'->Q () s') :
  XR (model X.prog X.w) A (setItem (.ref a) u r) Q E s:=by
 rcases g with ⟨dy,k,e,o,l,p⟩ | ⟨dy,k,b,e,o,x,l,p⟩
 .subst o p;obtain⟨z,n,vs,d,dd⟩:=yk I.hok e;have j:vs.length<=XI:=by rw[<-d.length];exact z
  have hl:(U0 dy k v).length<=XI:=by have:=aH dy k v;lia
  refine wpAny_setItem_pairs (mY ry) dd λt f m=>h _ ?_
  have C:∃q,t.get? a=some q:=let #v[q,_,_,i,_]:=f;#v[q,i];exact au I (by rw[e];exact True.intro) m C<|yR hl n (d.put k rv) f
 .subst o p;cases(ry);obtain⟨z,n,B,d,dd⟩:=Iz I.hok e;have j:B.length<=XI:=by rw[<-Um d];exact z
  have hl:(U0 dy k v).length<=XI:=by have:=aH dy k v;lia
  refine wpAny_setItem_heap (tupleKind_room_in1 hu) (qA I.hok x) dd λt f m=>h _ ?_
  obtain⟨q,K,L,i,J,G,F,_,D⟩:=f;refine au I (by rw[e];exact True.intro) m #v[q,i] #v[hl,n,_,(d.put k x rv).keeps λc M w=>?_,q,K,L,i,J,G,F,D];rw[f9<|IF w e<|λz=>nomatch z];exact w
end
def Ff (i:XG):Prop:=∀a b,subscripted i false a b=operate [a,b] (getItem a b)
def Df {id}
  (hl:typeLookup (.type T) "__getitem__" = pure (some<|.builtin id)) (hs:Ff slice)
  (h:XR (model prog w) A (eval value env) (λo s₁=>XR (model prog w) A (eval slice env) (λi s₂=>s₂.TypeIs o T/\XR (model prog w) A (getItem o i) Q E s₂) E s₁) E s) :
  XR (model prog w) A (eval (.Subscript value slice pos) env) Q E s:=by
 refine Subscript_ (Rj h (λo s₁ d=>Rj d (λi s₂ a=>?_) λ_ _ x=>x) λ_ _ x=>x);obtain⟨e,a⟩:=a;refine QD ?_;rw[getitemInPython_of_ne e.not_modules];refine QD<|TB e hl ?_;have fin:XR (model prog w) A (subscripted slice false o i) (λr b=>XR (model prog w) A (letTemporaryGo value o r >>= λ_=>pure r) Q E b) E s₂:=by rw[hs o i];exact wpAny_operating (Rj a (λr b c=>QD<|wpAny_letTemporaryGo<|QF c) λ_ _ x=>x)
 first
  | exact QF<|QD fin
  | exact QD<|QF<|QD fin
  | exact QD fin
def nI (h:XH)(hb:sysModules<h.objs.size):C4 P w H (h.push { cls:=.type "dict",data:=.dict #[] }) h.objs.size (.dK []) :=
 #v[Sb _,SL.2<|RM<|QY hb,[],.nil,XH.DictOf.new h]
def EW :TE:=λ_ H Q=>∀p,H p=none->Q (.ref p) (upd H p<|.dK [])
section

def wC :PE X (.Dict [] [] pos) EW:=λπ s b H Q I h =>
 wpAny_Dict_empty #v[.ref s.heap.objs.size,_,I.laid (λ_ _ q=>QE _ q) (QP _)<|nI s.heap I.big,rfl,h _<|I.hok.fresh<|QP _]
end
def gE:List (TE×TE)->St->Hp->(List (V×V)->Hp->Prop)->Prop
 | [],_,H,Q=>Q [] H
 | (tk,tv)::r,σ,H,Q=>tk σ H λx d=>tv σ d λy c=>gE r σ c λa b=>Q ((x,y)::a) b
abbrev VV :List (V×V)->List (Xx×Xx)->Prop:=Paired λp q=>m6 p.1 q.1/\m6 p.2 q.2
def PPs (X:Cx)(pos:Pos)(keys:List (Option XG))(values:List XG)(trs:List (TE×TE)):Prop :=
 ∀π s (a:St) H Q,Inv X π a H s->gE trs a H Q ->
  XR (model X.prog X.w) X.A (evalPairs<|pairTrees keys values X.env pos) (λvs d=>∃b c,Inv X π a c d/\VV b vs/\Q b c) X.xe s
def Au :PPs X pos [] [] []:=λπ s a H Q I h=>pairTrees_nil_walk #v[[],H,I,.nil,h]
def yX {vs}(hk:PE X k tk)(hv:PE X v tv)(hr:PPs X pos ks vs trs) :
  PPs X pos (some k::ks) (v::vs) ((tk,tv)::trs):=λπ s a H Q I h =>
 pairTrees_cons_walk (thn (hk π s a H _ I h) λu s1 #v[x,p,m,d,g]=>thn (hv π s1 a p _ m g) λr s2 q90 =>
  by obtain⟨y,o,l,c,f⟩:=q90;exact thn (hr π s2 a o _ l f) λq t q90=>by obtain⟨i,n,j,b,e⟩:=q90;exact #v[(x,y)::i,n,j,.cons #v[d,c] b,e])
def aV (dy more:List (Key×V)):List (Key×V):=more.foldl (λa b=>U0 a b.1 b.2) dy
def KV.merge :∀{more} {rs} {dy} {vs},KV more rs->KV dy vs->KV (aV dy more) (merged vs rs):=by
 intro more rs dy vs r;induction r generalizing dy vs with
 | nil=>intro q;exact q
 | @cons p q d c h t b =>
  intro a;have e:KV (U0 dy p.1 p.2) (stored vs q.1 q.2):=by have:=a.put p.1 h.2;rw[<-h.1];exact this
  exact b e
theorem cm:∀more dy,(aV dy more).length<=dy.length+more.length
 | [],dy=>by show dy.length<=dy.length+0;simp[*]
 | p::r,dy=>by have b:=cm r<|U0 dy p.1 p.2;have a:=aH dy p.1 p.2;show(aV (U0 dy p.1 p.2) r).length<=_;rw[QM];lia
theorem iD :∀{dy} {ws},VV (dy.map λkv=>(kV kv.1,kv.2)) ws->∃rs,Carries (x9 P w) ws rs/\KV dy rs
 | [],_,r=>by rw[RK]at r;cases r;exact#v[[],True.intro,.nil]
 | p::dy,_,r=>by
  rw[QL]at r;cases r with
  | @cons a b as bs h t =>obtain⟨rs,c,q⟩:=iD t;obtain⟨d,b2⟩:=b;exact#v[(p.1,b2)::rs,#v[mY h.1,rfl,c],.cons #v[rfl,h.2] q]
def Eh (trs:List (TE×TE)):TE:=λc H Q=>∀p,H p=none->gE trs c (upd H p<|.dK []) λd b=>b p=some (.dK [])/\∃dy,d=dy.map (λa=>(kV a.1,a.2))/\dy.length<=15/\Q (.ref p) (upd b p<|.dK<|aV [] dy)
def Cf (h:PPs X pos keys values trs)(hall:keys.all (·.isSome)=true)(hl:keys.length=values.length)(h0:keys≠[])
  (h15:keys.length<=15):PE X (.Dict keys values pos) (Eh trs):=by
 intro π s g H Q I q;have t:=I.hok.fresh<|QP s.heap.objs.size;have A:=I.laid (t':=s.toks) (λ_ _ q=>QE _ q) (QP _)<|nI s.heap I.big;refine wpAny_Dict_walk (knd:=x9 X.prog X.w) hall hl h0 h15 (thn (h π _ g _ _ A<|q _ t) ?_ );rintro B s2 ⟨C,D,f,d,e,dy,y,lk,m⟩;subst y;obtain⟨j,c,k⟩:=iD d;obtain⟨z,v,i,l,dd⟩:=yk f.hok e;cases l;refine#v[j,c,dd,λh' b p=>#v[.ref s.heap.objs.size,_,?_,rfl,m]];have n:(aV [] dy).length<=XI:=by have x:=cm dy [];rw[RV]at x;rw[Ry];lia
 have u:∃q,h'.get? s.heap.objs.size=some q:=let #v[q,_,_,r,_]:=b;#v[q,r];exact au f (by rw[e];exact True.intro) p u<|yR n v (k.merge .nil) b
structure M2 (X:Cx) o m (apos:Pos) e f cpos:Prop where
 base:XU o m X.env (eval o X.env)=eval o X.env
 few:((XO cpos<|XJ [e,f] X.env).all (λx=>!x.1)&&(Yc cpos<|Yd [] X.env).all (λx=>x.1.isSome)
  && decide (([e,f]:List XG).length+([]:List XQ).length+(if ([]:List XQ).isEmpty then 0 else 1)<30))=true
 line:(apos.endLine == cpos.line)=true
 trees:XO cpos (XJ [e,f] X.env)=[(false,eval e X.env),(false,eval f X.env)]
def IsD (H:Hp)(a:Xy):Prop:=(∃dy,Rd H a<|.dK dy)\/∃dy,Rd H a<|.dT dy
def GU {σ:St}(I:Inv X π σ H s)(d:IsD H a) :
  s.TypeIs (.ref a) "dict" /\ (∀b,Xx.ref a = .ref b->∃ob,s.heap.get? b=some ob/\ob.dict=none)/\(a == sysModules)=false:=by
 rcases d with ⟨dy,e⟩ | ⟨dy,e⟩
 .obtain⟨_,c,vs,_,dd⟩:=wX I.hok e;refine#v[dd.typeIs,λb q=>?_,c];cases q;obtain⟨ob,_,_,g,f,_⟩:=dd;exact#v[ob,g,f.2.1]
 .obtain⟨_,c,h,_,dd⟩:=xr I.hok e;refine#v[dd.typeIs,λb q=>?_,c];cases q;obtain⟨ob,_,_,g,f,_⟩:=dd;exact#v[ob,g,f.2.1]
section
variable {σ:St}
def EJ (hu:A.units+1<XZ)(I:Inv X π σ H s)(g:zG H a y o)(ry:m6 y u)(rd:m6 d r)(h:∀w' s',Inv X π σ H s'->m6 (o.getD d) w'->Q w' s') :
  XR (model X.prog X.w) A (call (.builtin "dict.get") [.ref a,u,r]) Q E s:=by
 rcases g with ⟨dy,k,e,i,l⟩ | ⟨dy,k,b,e,i,m,l⟩
 .subst i;obtain⟨z,f,vs,c,dd⟩:=wX I.hok e;refine call_meetsIn Uh dd.typeIs VP (VD _ _ _) (meets_dict_get_default (x9 X.prog X.w) a (mY ry) f r) #v[_,dd.mapOf,h _ _ (I.tok _) ?_];rw[l];exact(c.val k).getD rd
 .subst i;cases(ry);obtain⟨z,f,j,c,dd⟩:=xr I.hok e;refine call_meetsIn Uh dd.typeIs VP (VD _ _ _) (meetsH_dict_get_default (tupleKind<|x9 X.prog X.w) a b f r) #v[tupleKind_room_in1 hu,k,j,qA I.hok m,dd,h _ _ (I.tok _) ?_];rw[l];exact(c.val k).getD rd
end
def xB (td ty tx:TE):TE:=λb H Q=>td b H λx d=>∃a,x = .ref a/\IsD d a/\ty b d λy e=>tx b e λz c=>∃o,zG c a y o/\Q (o.getD z) c
section
variable {o:XG}
def zI (hu:X.A.units+1<XZ)(ho:PE X o td)(he:PE X e ty)(hf:PE X f tx)(m:M2 X o "get" apos e f cpos):PE X (.Call (.Attribute o "get" apos) [e,f] [] cpos) (xB td ty tx):=by
 intro π s b H Q I h;refine wpAny_Call_method m.base m.few m.line VE Uh PySem.F.type_dict_get (thn (ho π s b H _ I h) ?_ );rintro u s1 ⟨x,E,i,p,a,v,d,t⟩;subst v;obtain rfl:=p;obtain⟨k,j,_⟩:=GU i d;refine#v[k,j,?_];rw[m.trees];refine UQ rfl (Wh (UI (thn (he π s1 b E _ i t) λL s2 #v[y,D,B,n,r] =>
  UI (thn (hf π s2 b D _ B r) λM J #v[z,C,A,l,K,g,q]=>Calls.spliced_nil ?_))))
 exact EJ hu A g n l λF G w c=>#v[_,C,w,c,q]
end
end
end L2
namespace Att
open PySem PySem.W PySem.Calls PyProof.Rows
def fP :∀ns vs,WellAll P h vs (ns.map WData.int)->IntsAre vs ns:=by
 intro ns;induction ns with
 | nil =>intro vs w;rw[RK]at w;cases w;exact .nil
 | cons n ns c =>
  intro vs w;rw[QL]at w;cases w with
  | cons a b =>cases a;exact .cons _ _<|c _ b
def uS {l:OpenLaw}(hn:l.most=some n)
  (hpre:l.row.toRowW.claim.pre args=true) (hwl:WellAll P h vals args) :
  ∃a vs ns,vals=[Xx.ref a]/\args=[WData.list<|ns.map WData.int]/\h.get? a=some { cls:=.type "list",data:=.seq vs.toArray }/\IntsAre vs ns/\ns.length<=n:=by
 have g:=(pre_splitW hpre).1;have i:=(pre_splitW hpre).2;obtain⟨d,r,rfl,t,s⟩:=hasAllW_cons g;obtain rfl:=hasAllW_nil s;obtain⟨u,rfl,p⟩:=hasW_list t;obtain⟨ns,rfl⟩:=items_int p;have b:ns.length<=n:=by
  have f:(WTm.not<|.lt (.lit<|.int n )<|.len<|.arg 0).holds [] { args:=[.list<|ns.map .int] }=true:=by have f:=(holds_andW i).1;rw[hn]at f;exact f
  have e:=condW_of f<|w_not<|w_lt w_lit<|w_len_list<|w_arg rfl;rw[QI]at e;refine Nat.le_of_not_lt λq=>?_
  have m:n<((ns.length:Nat)):=by omega
  first
   | (rw[Rg m]at e;exact absurd e<|by decide)
   | (simp at e;lia)
 cases hwl with
 | cons k j =>
  cases j;cases k with
  | list o c=>exact#v[_,_,ns,rfl,rfl,o,fP ns _ c,b]
def vh (l:OpenLaw)(args):l.row.toRowW.claim.post args (.bool true) args=true :=
 postW_of (X:=(true == true))
  (show WShape.has [] (.bool true) .bool=true by first | rfl | decide | simp[WShape.arms])
  (w_eq_bool (w_res rfl) w_lit) rfl
def attach_call {l:OpenLaw}
  (hn:l.most=some n) (hdf:d.params.defaults=[])
  (call:∀w s₀ s₁ mg mb fa o pm cd doc a vs ns,
   Ground q loose [] XP w s₀ mg mb s₁.heap->YP w s₁.heap ->
   s₁.heap.get? fa=some o->o.data = .func (docDef d.name d.params d.body d.scope pm cd doc)->s₁.heap.CodeRec cd d.name->mg d.name=some (.ref fa) ->
   s₁.heap.get? a=some { cls:=.type "list",data:=.seq vs.toArray }->IntsAre vs ns->ns.length<=n->s₁.gens = #[] ->
   codeAny (model l.prog w) callerA (.call (.ref fa) #v[[.ref a],[]]) (λr s'=>r = .ok (.ret<|.bool true)/\OldK s₁.heap s'.heap/\s'.os=s₁.os/\AllBare s'.gens) s₁) :
  WalkO q loose XP YP l.row.toRowW d [] (λf vs=>PySem.call f vs):=by intro w s₀ s₁ mg mb G Y fa o pm cd doc D kV v z j p i hg s k as c m t h y;obtain rfl:=Dflts.none p hdf;obtain rfl:=Dflts.noKw p;obtain⟨a,vs,ns,rfl,rfl,e,b,g⟩:=uS hn c h;refine enter_call (Wf (call w s₀ s₁ mg mb fa o pm cd doc a vs ns G Y v (fd_plain z) j i e b g hg) λr s' u=>?_);obtain⟨rfl,C,B,A⟩:=u;exact#v[.inl #v[.bool true,.bool true,[],rfl,λ_=>rfl,.bool true,vh l _,λ_=>#v[List.Pairwise.nil,λ_ x=>(nomatch x)]],C,B,A]
end Att
namespace L2
open PySem PySem.Spec PyProof.Rows
section
theorem jE:∀{vs} {ns},IntsAre vs ns->s0 (ns.map V.int) vs
 | _,_,.nil=>.nil
 | _,_,.cons n t h=>.cons #v[t,rfl]<|jE h
end
end L2
namespace L2
open PySem PySem.Spec PyProof.Rows
def defArgs (s:XF):Arguments:=match s with
 | .FunctionDef _ a _ _ _ _ _ _ _ _=>a
 | _=>{ posonlyargs:=[],args:=[],vararg:=none,kwonlyargs:=[],kw_defaults:=[],kwarg:=none,defaults:=[] }
def defBody (s:XF):List XF:=match s with
 | .FunctionDef _ _ b _ _ _ _ _ _ _=>b
 | _=>[]
def defScope (s:XF):XD:=match s with
 | .FunctionDef _ _ _ _ _ _ sc _ _ _=>sc
 | _=>{ kind:=.function,names:=[],isGenerator:=false,isCoroutine:=false }
abbrev CX0:CXT:=λ_ _ _ _ _ _=>False
abbrev E0:XK:=λ_ _ _=>False
def Ju :oJ CX0 X E0:=λ_ _ _ _ _ _ _ h=>h.elim
structure Fun (K:Qf) x qual st f fd:Prop where
 ex:∃(oc:Xx) (od:Option Xy) (kV doc pm:Xx) (an:Option Xy) (dr ct:Xx) (osl:Array (Option Xx)),
  fd=PySem.W.fnOf x qual (defArgs st) (defBody st) (defScope st) .none kV doc pm an dr ct/\K.lookup f=some #v[oc,od,.func fd,osl]/\PySem.W.codeIn K dr qual=true
 kp:PySem.W.keepIn K (.ref f)=true
section
variable {K:Qf}
def Fun.ok {st}(F:Fun K x qual st f fd)(S:FnScope N ps (defScope st))(len:∀vs H Q E,sp vs H Q E->vs.length=ps.length)
  (hbody:∀dr A outer s H vs Q E,Room k (A.deeper<|envOfC qual (defScope st) s.heap.objs.size f dr)->sp vs H Q E ->
   ∃t,PSs (P4 CX0 P w K mg base N qual (defScope st) f dr A outer s H E).nox (defBody st) t/\t { nx:=λ_ H'=>Q .non H',rt:=Q } (W6 N vs) H):FnOk P w K mg base CX0 (k+1) f fd ps sp:=by
 obtain⟨j,i,kV,e,g,l,dr,ct,c,rfl,lk,b⟩:=F.ex;refine DX lk b S len λA outer s H vs Q E d a=>?_
 obtain⟨t,h,q⟩:=hbody dr A outer s H vs Q E d a;exact#v[t,h.nox,q]
def Fun.binds {st}(F:Fun K x qual st f fd)
  (h:∀kV doc pm an dr ct us,us.length=ps.length->bindArgs (PySem.W.fnOf x qual (defArgs st) (defBody st) (defScope st) .none kV doc pm an dr ct) #v[us,[]]=pure (ps.zip us)):cQ K fd ps []:=by obtain⟨d,c,kV,doc,pm,an,dr,ct,a,rfl,lk,b⟩:=F.ex;exact .all<|h kV doc pm an dr ct
def fun_mk {st}{kV} (l:K.lookup f=some #v[oc,od,.func<|PySem.W.fnOf x qual (defArgs st) (defBody st) (defScope st) .none kV doc pm an dr ct,osl])
  (c:PySem.W.codeIn K dr qual=true) (k:PySem.W.keepIn K (.ref f)=true):Fun K x qual st f (PySem.W.fnOf x qual (defArgs st) (defBody st) (defScope st) .none kV doc pm an dr ct):=#v[#v[oc,od,kV,doc,pm,an,dr,ct,osl,rfl,l,c],k]
end
def eO (h:n<=1000):n<XI:=Ra h (by decide)
section

def pv (i)(hN:autoParam (X.N[i]? = some x) eH)(hv:autoParam (Vis X.env.scope x) eN)(hd:autoParam (nDb x) eL)
  (hcd:autoParam (nCd x) eL):PE X (.Name x pos) (Z0 i):=P5 hN hv hd hcd
end
def Jc {B:Prop} (h:B):if false=true then A else B:=by rw[QK Ri];exact h
def ux {B:Prop}[Decidable c](h1:c->A)(h2:¬c->B):if c then A else B:=by
 by_cases h:c
 .rw[QH h];exact h1 h
 .rw[QK h];exact h2 h
def j9 (H H':Hp):Prop:=∀b o,H b=some o->H' b=some o
def j9.refl (H):j9 H H:=λ_ _ h=>h
end L2
set_option maxHeartbeats 4000000
namespace L2
open PySem PySem.Spec PyProof.Rows

section
def M9 (f:Str->Xy):List (Str×Yb)->List (Str×Xy)->List (Str×Xy)
 | [],acc=>acc
 | (n,kd)::r,acc=>M9 f r (if (kd == Yb.free)=true then(n,f n)::acc else acc)
def R0 (h:∀y∈scope.names,y.2 = .free->cellOf env y.1=pure (f y.1)) :
  closureFor scope env=pure (M9 f scope.names []):=by
 have d:∀l a,(∀y∈l,y.2 = .free->cellOf env y.1=pure (f y.1)) ->
   (forIn l a (λ(x:Str×Yb) (o:List (Str×Xy))=>if (x.2 == Yb.free)=true then(do let c <-cellOf env x.1;pure (ForInStep.yield ((x.1,c)::o))) else pure (ForInStep.yield o)))=pure (M9 f l a):=by
  intro l;induction l with
  | nil=>intro a _;rfl
  | cons y r k =>
   intro a j;obtain⟨n,g⟩:=y;rw[Wk];by_cases b:(g == Yb.free)=true
   .have e:g = .free:=by simpa using b
    have m:=j (n,g) QN e;simp only[b];rw[m];show(forIn r ((n,f n)::a) _:Sem _)=_;rw[k _ λz i=>j z<|QG _ i];simp only[M9,b,SA]
   .simp only[b];show(forIn r a _:Sem _)=_;rw[k _ λz i=>j z<|QG _ i];simp only[M9,b];rfl
 have:=d scope.names [] h;show(forIn scope.names [] _ >>= λr=>pure r)=_;rw[this];rfl
theorem U5 :∀l acc {x} {c},(M9 f l acc).lookup x=some c->((x,Yb.free)∈l/\c=f x)\/acc.lookup x=some c
 | [],_,_,_,h=>.inr h
 | (n,kd)::r,acc,x,c,h=>by
  rw[M9]at h;rcases U5 r _ h with ⟨a,i⟩ | a
  .exact .inl #v[QG _ a,i]
  .by_cases b:(kd == Yb.free)=true
   .rw[QH b]at a;have e:kd = .free:=by simpa using b
    subst e;by_cases d:x=n
    .subst d;simp at a;exact .inl #v[QN,a.symm]
    .have g:=SL.2 d;rw[RN,g]at a;exact .inr a
   .rw[QK b]at a;exact .inr a
theorem bE :∀l acc {x},((x,Yb.free)∈l\/acc.lookup x=some (f x))->(M9 f l acc).lookup x=some (f x)
 | [],_,_,h=>by
  rcases h with h | h
  .exact absurd h (by simp)
  .exact h
 | (n,kd)::r,acc,x,h=>by
  rw[M9];refine bE r _ ?_;by_cases a:(kd == Yb.free)=true
  .rw[QH a];have e:kd = .free:=by simpa using a
   subst e;by_cases b:x=n
   .subst b;exact .inr (by simp)
   .have c:=SL.2 b;rcases h with h | h
    .rcases QQ.1 h with z | z
     .cases z;exact absurd rfl b
     .exact .inl z
    .exact .inr (by rw[RN,c];exact h)
  .rw[QK a];rcases h with h | h
   .rcases QQ.1 h with z | z
    .cases z;exact absurd rfl a
    .exact .inl z
   .exact .inr h
def nJ (h:(relabel scope env).names.lookup x=some .cell\/(relabel scope env).names.lookup x=some .free):(x,Yb.free)∈scope.names\/(x,Yb.cell)∈scope.names:=by
 have g:∀a,(relabel scope env).names.lookup x=some a->a = .cell\/a = .free->(x,Yb.free)∈scope.names\/(x,Yb.cell)∈scope.names:=by
  intro a h i;have f:=RZ h;obtain⟨⟨n,d⟩,c,e⟩:=Rt.1 f;by_cases b:(d == Yb.free&&env.scope.kind == .function&&env.kindOf n == some .cell)=true
  .simp only[b]at e;cases e;have:d = .free:=by simp only[TL]at b;simpa using b.1.1
   subst this;exact .inl c
  .simp only[b]at e;cases e;rcases i with r | r
   .subst r;exact .inr c
   .subst r;exact .inl c
 rcases h with h | h
 .exact g _ h<|.inl rfl
 .exact g _ h<|.inr rfl
def Q0 (scope:XD)(cl:List (Str×Xy))(n:Nat):List (Str×Xy):=cellsFrom (n+1) scope.names cl
theorem O2:∀names n acc,cellsFrom n names acc=cellsFrom n names []++acc
 | [],_,_=>rfl
 | (x,k)::r,n,acc=>by
  unfold cellsFrom;split
  .rw[O2 r (n+1) ((x,n)::acc),O2 r (n+1) [(x,n)],Ur];rfl
  .exact O2 r n acc
theorem bq:∀names n {x} {c},(x,c)∈cellsFrom n names []->(x,Yb.cell)∈names
 | [],_,_,_,h=>by cases h
 | (y,k)::r,n,x,c,h=>by
  unfold cellsFrom at h;split at h
  .rename_i a;rw[O2]at h;rcases UH.1 h with h | h
   .exact QG _<|bq r (n+1) h
   .have a:k = .cell:=by simpa using a
    subst a;cases Rn.1 h;exact QN
  .exact QG _<|bq r n h
theorem xv {α:Type}:∀{l r:List (Str × α)} {x} {c},(l++r).lookup x=some c->l.lookup x=some c\/(l.lookup x=none/\r.lookup x=some c)
 | [],r,x,c,h=>.inr #v[rfl,h]
 | (y,v)::l,r,x,c,h=>by
  rw[Ru,RN]at h;rw[RN];cases hb:x == y with
  | true=>rw[hb]at h;exact .inl h
  | false=>rw[hb]at h;exact xv h
theorem kf {α:Type}:∀{l r:List (Str × α)} {x},l.lookup x=none->(l++r).lookup x=r.lookup x
 | [],r,x,h=>rfl
 | (y,v)::l,r,x,h=>by
  rw[RN]at h;rw[Ru,RN];cases hb:x == y with
  | true=>rw[hb]at h;cases h
  | false=>rw[hb]at h;exact kf h
theorem lQ {α:Type}:∀{l r:List (Str × α)} {x} {c},l.lookup x=some c->(l++r).lookup x=some c
 | [],r,x,c,h=>by cases h
 | (y,v)::l,r,x,c,h=>by
  rw[RN]at h;rw[Ru,RN];cases hb:x == y with
  | true=>rw[hb]at h;exact h
  | false=>rw[hb]at h;exact lQ h
def oG {code}
  (hQ:∀h₁,h₁.Ns s.heap.objs.size (λ_=>none)->(∀b o,s.heap.get? b=some o->h₁.get? b=some o)->CellsOk h₁ (s.heap.objs.size+1) (cellsFrom (s.heap.objs.size+1) scope.names []) ->
   Q (newEnv scope s.heap.objs.size globals (cellsFrom (s.heap.objs.size+1) scope.names closure) qual func code (some env) builtins) { s with heap:=h₁ }) :
  XR M A (newFunctionEnv scope globals closure [] qual func code (some env) builtins) Q E s:=by simp only[newFunctionEnv];refine QD<|wpAny_alloc ?_;refine QD (wpAny_layCells _ (λd a c=>by cases hkc:a == Yb.cell <;> simp[hkc]) _ _ _ _ ?_);have ok:=cellsFrom_ok scope.names (s.heap.push { cls:=.type "dict",data:=.dict #[] }) (s.heap.objs.size+1) [] #v[λ_ _ f=>(nomatch f),List.Pairwise.nil] (by rw[RG];exact QP _);rw[RG]at ok;rw[RG ..];rw[List.forIn_nil];refine QD<|QF<|QF ?_;exact hQ _ ((XH.Ns.new s.heap<|.type "dict").keeps<|pushCells_keeps _ _) (λb o e=>pushCells_keeps _ _ b o<|QE _ e) ok
theorem cq (hφ:∀n k,φ (n,k)=(n,k)\/(k = .free /\ φ (n,k)=(n,.cell))):∀{names:List (Str×Yb)} {x},names.lookup x=some .free->(names.map φ).lookup x=some .cell\/(names.map φ).lookup x=some .free
 | [],_,h=>by simp at h
 | (n,k)::r,x,h=>by
  have a:=@cq φ hφ r x;rw[QL];cases hx:x == n with
  | true =>
   simp only[RN,hx]at h;cases h;rcases hφ n .free with e | ⟨_,e⟩
   .rw[e,RN,hx];exact .inr rfl
   .rw[e,RN,hx];exact .inl rfl
  | false =>
   simp only[RN,hx]at h;rcases hφ n k with e | ⟨_,e⟩
   .rw[e,RN,hx];exact a h
   .rw[e,RN,hx];exact a h
def ke (h:scope.names.lookup x=some .free):(relabel scope env).names.lookup x=some .cell\/(relabel scope env).names.lookup x=some .free:=by
 refine cq (λn k=>?_) h;by_cases a:(k == Yb.free&&env.scope.kind == .function&&env.kindOf n == some .cell)=true
 .refine .inr #v[?_,QH a];simp only[TL]at a;simpa using a.1.1
 .exact .inl<|QK a
def rO (target iter:XG)(ifs:List XG)(it:Xx)(env:XN)(act:Sem Fin->Sem Fin)(more:Sem Fin):Sem Fin:=do
 standAt iter.pos
 match <-pyNext it with
 | none=>pure<|.done .next
 | some v =>
  letOwnedTupleGo target it v
  assign target env v
  let mut ok:=true
  for c in ifs do
   if ok then ok <-isTrue c env (eval c env)
  if ok then act more else more
def nH (elt:XG)(acc:Xx)(env:XN):Sem Unit:=do let _ <-call (.builtin "list.append") [acc,<-eval elt env]
section

def HP (I:Nat->Xz->Prop)
  (ht:compTurn (.ListComp elt gens scope pos) d it acc env=rO target iter ifs it env act (again<|.compLoop (.ListComp elt gens scope pos) d it acc env))
  (turn:∀n s,I n s->XR (model prog w) A (pyNext it) (λr s₁=>match r with
   | none=>R (.ok .next) s₁
   | some v=>XR (model prog w) A (letOwnedTupleGo target it v) (λ_ s₀=>XR (model prog w) A (assign target env v) (λ_ s₂ =>
     XR (model prog w) A (forIn ifs true λc r=>if r=true then do let ok <-isTrue c env (eval c env);pure (ForInStep.yield ok) else pure (ForInStep.yield r)) (λok s₃ =>
      if ok=true then ∀k Q E,(∀s₅,(∃m,m<n/\I m s₅)->XR (model prog w) A k Q E s₅)->XR (model prog w) A (act k) Q E s₃
      else ∃m,m<n/\I m s₃) (λ_ _=>False) s₂) (λ_ _=>False) s₀) (λ_ _=>False) s₁) (λ_ _=>False) s)
  (n) (h:I n s):codeAny (model prog w) A (.compLoop (.ListComp elt gens scope pos) d it acc env) R s:=by
 refine codeAny_loop rfl I (λn s j=>?_) n h;refine wpAny_noted ?_;rw[ht];refine QD (Tg<|QD<|Rj (turn n s j) (λr s₁ b=>?_) λ_ _ e=>e.elim);cases r with
 | none=>exact QF b
 | some v =>
  refine QD (Rj b (λ_ s₀ i=>?_) λ_ _ e=>e.elim);refine QD (Rj i (λ_ s₂ g=>QD<|Rj g (λok s₃ a=>?_) λ_ _ e=>e.elim) λ_ _ e=>e.elim);cases ok with
  | false=>exact QF #v[rfl,a]
  | true=>exact a _ _ _ λs₅ f=>QF #v[rfl,f]
end
def cF (k:Nat)(cap:List Nat)(σ:St):St:=List.replicate k none++cap.map λj=>(σ[j]?).join
structure Caps (ON:List Str) (osc:XD) (N:List Str) k (cap:List Nat) (scope:XD):Prop where
 kind:scope.kind = .function:=by rfl
 cell:∀y∈scope.names,y.2 = .cell->scope.names.lookup y.1=some .cell:=by decide +kernel
 loc:∀y∈scope.names,y.2 = .local->scope.names.lookup y.1=some .local:=by decide +kernel
 free:∀y∈scope.names,y.2 = .free->osc.names.lookup y.1=some .cell\/osc.names.lookup y.1=some .free:=by decide +kernel
 len:N.length=k+cap.length:=by rfl
 capx:(cap.map λj=>ON[j]?)=(N.drop k).map some:=by rfl
 capf:∀x∈N.drop k,scope.names.lookup x=some .free:=by decide +kernel
def cxC (X:Cx)(N:List Str)(scope:XD)(cl:List (Str×Xy))(C:Xy)(ex:List Xy)(π:List (Xy×XM))(s₀:Xz)(H₀:Hp):Cx where
 prog:=X.prog
 w:=X.w
 K:=X.K
 mg:=X.mg
 base:=X.base
 A:=X.A
 N:=N
 s₀:=s₀
 H₀:=H₀
 env:=compEnvC scope cl C X.env
 outer:=X.stack
 stack:=X.stack
 ex:=ex
 fn:=λx=>match scope.names.lookup x with
  | some .cell=>true
  | _=>false
 calm:=X.calm
 pn:=X.pn++π
 xe:=λ_ _=>False
def PTs (X:Cx)(ifs:List XG)(t:TT):Prop :=
 ∀a s (b:St) H Q,Inv X a b H s->t b H Q ->
  XR (model X.prog X.w) X.A (forIn ifs true λc r=>if r=true then do let ok <-isTrue c X.env (eval c X.env);pure (ForInStep.yield ok) else pure (ForInStep.yield r)) (TP X a b Q) X.xe s
def Jp :TT:=λ_ H Q=>Q true H
def Cd :PTs X [] Jp:=λ_ _ _ H _ I h=>wpAny_tests_nil #v[H,I,h]
def Br (h:PT X c t):PTs X [c] t:=λa s b H Q I q=>wpAny_tests_one<|h a s b H Q I q
def tLC (wi:TI)(k:Nat)(cap:List Nat)(g:TG)(tt:TT)(te:TE):TE:=λh H Q=>wi h H λJ n=>∀D,n D=none ->
 ∃W:Nat->Nat->St->List V->Hp->Prop,(∃m,W 0 m (cF k cap h) []<|upd n D<|.lst [])/\∀i m c a e,W i m c a e ->
  (J.stop i e/\Q (.ref D) e) \/
  (J.go i e/\∀x l,J.yld i e x l->g x c l λb o=>tt b o λok f=>if ok=true then te b f λy j=>j D=some (.lst a)/\a.length<XI/\∃d,d<m/\W (i+1) d b (a++[y]) (upd j D<|.lst<|a++[y])
   else f D=some (.lst a)/\∃d,d<m/\W (i+1) d b a f)
abbrev TM :=St->Hp->(St->Hp->Prop)->Prop
def PM (Y:Cx)(act:Sem Fin->Sem Fin)(t:TM):Prop:=∀a s (c:St) H Q,Inv Y a c H s->t c H Q ->
 ∀k R E,(∀d b e,Inv Y a b e d->Q b e->XR (model Y.prog Y.w) Y.A k R E d)->XR (model Y.prog Y.w) Y.A (act k) R E s
def lh {act:XN->Sem Fin->Sem Fin}
   {σ:St}       {Qs:Hp->Prop} {W:Nat->Nat->St->Hp->Prop}  {P:Xy->Result->Xz->Prop}
  (hturn:∀env,compTurn (.ListComp elt (#v[tg,iter,ifs,0]::rest) scope pos) 0 (.ref it) (.ref D) env=rO tg iter ifs (.ref it) env (act env) (again<|.compLoop (.ListComp elt (#v[tg,iter,ifs,0]::rest) scope pos) 0 (.ref it) (.ref D) env))
  (hc:X.calm=true) (hosc:X.env.scope=osc) (hcap:Caps X.N osc N k cap scope)
  (hcl:∀{x} {c},cl.lookup x=some c->X.env.cells.lookup x=some c) (hhas:∀x,(x,Yb.free)∈scope.names->∃c,cl.lookup x=some c)
  (hg:∀cl C ex π s H,PG (cxC X N scope cl C ex π s H) tg g)
  (ht:∀cl C ex π s H,PTs (cxC X N scope cl C ex π s H) ifs tt)
  (I3:Inv X π σ H3 s3) (T:Turn X.prog X.w X.K tg J fp it tn) (st:tn 0 s3.heap) (f3:∀b∈fp,bX X π H3 b) (w0:W 0 m0 (cF k cap σ) H3)
  (hend:∀s6 σ5 H5,Inv (cxC X N scope (Q0 scope cl s3.heap.objs.size) s3.heap.objs.size fp π s3 H3) [] σ5 H5 s6->Inv X π σ H5 s6->Qs H5->P s3.heap.objs.size (.ok .next) s6)
  (turn:∀i m O' H',W i m O' H'->(J.stop i H'/\Qs H') \/
   (J.go i H'/\∃C:Bool->St->Hp->Prop,(∀x H2,J.yld i H' x H2->g x O' H2 λσ2 H3=>tt σ2 H3 λok H4=>C ok σ2 H4)/\(∀σ2 H4,C false σ2 H4->∃m',m'<m/\W (i+1) m' σ2 H4) /\
    ∀pins' s (σ2:St) H4,Inv (cxC X N scope (Q0 scope cl s3.heap.objs.size) s3.heap.objs.size fp π s3 H3) pins' σ2 H4 s->C true σ2 H4->∀k R E,
     (∀s' σ3 H5,Inv (cxC X N scope (Q0 scope cl s3.heap.objs.size) s3.heap.objs.size fp π s3 H3) pins' σ3 H5 s'->(∃m',m'<m/\W (i+1) m' σ3 H5)->XR (model X.prog X.w) X.A k R E s')->XR (model X.prog X.w) X.A (act (compEnvC scope (Q0 scope cl s3.heap.objs.size) s3.heap.objs.size X.env) k) R E s)) :
  XR (model X.prog X.w) X.A (newFunctionEnv scope X.env.globals cl [] X.env.qual none .none<|some X.env) (λcenv s₄ =>
   codeAny (model X.prog X.w) X.A (.compStart (.ListComp elt (#v[tg,iter,ifs,0]::rest) scope pos) 0 (.ref it) (.ref D) { cenv with scope:=relabel scope X.env }) (P cenv.locals) s₄) X.xe s3:=by
 refine oG λG L w V=>?_
 have t:∀{x:Str} {c:Xy},(Q0 scope cl s3.heap.objs.size).lookup x=some c->((cellsFrom (s3.heap.objs.size+1) scope.names []).lookup x=some c/\scope.names.lookup x=some .cell/\G.IsCell c none/\s3.heap.objs.size<c)\/cl.lookup x=some c:=λ{x c} e=>by
  unfold Q0 at e;rw[O2]at e;rcases xv e with z | z
  .have hm:=RZ z;obtain⟨K,a2⟩:=V.empty x c hm;exact .inl #v[z,hcap.cell _ (bq _ _ hm) rfl,K,a2]
  .exact .inr z.2
 have be:∀{x:Str} {c:Xy},cl.lookup x=some c->c<s3.heap.objs.size:=λ{x c} e=>by obtain⟨v,z⟩:=I3.cell x c<|hcl e;exact z.lt
 have ap:∀{x:Str},scope.names.lookup x=some .free->(Q0 scope cl s3.heap.objs.size).lookup x=cl.lookup x:=λ{x} e=>by
  unfold Q0;rw[O2];refine kf ?_;cases q:(cellsFrom (s3.heap.objs.size+1) scope.names []).lookup x with
  | none=>rfl
  | some c =>have z:=hcap.cell _ (bq _ _<|RZ q) rfl;rw[e]at z;cases z
 have am:∀x y c,(Q0 scope cl s3.heap.objs.size).lookup x=some c->(Q0 scope cl s3.heap.objs.size).lookup y=some c->x=y:=λx y c h1 h2=>by
  rcases t h1 with ⟨K,_,_,A⟩ | a <;> rcases t h2 with ⟨b1,_,_,b4⟩ | b
  .exact name_of_addr V.apart (RZ K)<|RZ b1
  .exact absurd (be b)<|Va.2<|RJ A
  .exact absurd (be a)<|Va.2<|RJ b4
  .exact I3.ok.inj x y c (hcl a)<|hcl b
 have an:∀x,((relabel scope X.env).names.lookup x=some .cell\/(relabel scope X.env).names.lookup x=some .free)->∃c,(Q0 scope cl s3.heap.objs.size).lookup x=some c:=λx hx=>by
  unfold Q0;rw[O2];cases q:(cellsFrom (s3.heap.objs.size+1) scope.names []).lookup x with
  | some c=>exact#v[c,lQ q]
  | none =>
   rcases nJ hx with z | z
   .obtain⟨c,e⟩:=hhas x z;exact#v[c,(kf q).trans e]
   .have y:=UP scope.names (s3.heap.objs.size+1) []<|.inl<|hcap.cell _ z rfl;rw[q]at y;cases y
 have a6:∀x c,(cxC X N scope (Q0 scope cl s3.heap.objs.size) s3.heap.objs.size fp π s3 H3).fn x=true->(Q0 scope cl s3.heap.objs.size).lookup x=some c->s3.heap.objs.size<=c:=λx c h e=>by
  rcases t e with ⟨_,_,_,A⟩ | a
  .exact RJ A
  .have hx:scope.names.lookup x=some .cell:=by
    have h:(match scope.names.lookup x with | some .cell=>true | _=>false)=true:=h;split at h
    .assumption
    .cases h
   have y:=UP scope.names (s3.heap.objs.size+1) []<|.inl hx;obtain⟨c',I⟩:=Su.1 y;have M:(Q0 scope cl s3.heap.objs.size).lookup x=some c':=by unfold Q0;rw[O2];exact lQ I
   rw[e]at M;cases M;exact RJ (V.empty x c<|RZ I).2
 have a7:∀b∈fp,b≠s3.heap.objs.size:=λb f=>by obtain⟨o,e,_⟩:=T.obj _ _ st b f;exact QY<|QJ e
 have cne:∀b∈fp,∀{x:Str} {c:Xy},(Q0 scope cl s3.heap.objs.size).lookup x=some c->c≠b:=λb f {x c} e=>by
  rcases t e with ⟨_,_,_,A⟩ | a
  .obtain⟨o,e,_⟩:=T.obj _ _ st b f;exact RM<|QY<|US (QJ e) A
  .exact(f3 b f).2.2.2.2.1 x c<|hcl a
 have ab:∀{x:Str} {c:Xy},(Q0 scope cl s3.heap.objs.size).lookup x=some c->H3 c=none:=λ{x c} e=>by
  rcases t e with ⟨_,_,_,A⟩ | a
  .exact I3.hok.fresh<|RJ A
  .exact I3.freeC x c<|hcl a
 have nofs:∀{b:Xy},b≠X.env.locals->b ∉ X.fs->b ∉ frs X.stack:=λ{b} h1 h2 z=>(QQ.1<|I3.stkSub b z).elim h1 h2
 have IY:Inv (cxC X N scope (Q0 scope cl s3.heap.objs.size) s3.heap.objs.size fp π s3 H3) [] (cF k cap σ) H3 { s3 with heap:=G }:=by
  refine#v[#v[I3.ok.mod,hcap.kind,I3.ok.glob,I3.ok.blt,QP _,am,an,a6,I3.ok.hd,I3.ok.frames,.inl rfl,
   λb f=>#v[a7 b f,λx c e=>cne b f e],I3.bs,QZ I3.ok.bsz I3.sz,λb o e f=>?_,λb f=>nofs (f3 b f).2.1 (f3 b f).2.2.1,I3.stack,I3.stkFree],
   rfl,I3.bare,Un.kept w,#v[_,L,λi x v e1 M e3=>?_],λx c e=>?_,I3.hok.fresh<|QP _,λx c e=>ab e,λp Q=>?_,I3.hok.kept w,?_]
  .rcases(f3 b f).2.2.2.1 with z | z
   .exact I3.ok.noex b o e z
   .exact absurd (QO (QJ e)<|QZ I3.ok.bsz z)<|Tf _
  .by_cases hi:i<k
   .unfold cF at M;rw[Tv (by simpa using hi),Sk,QH hi]at M;cases M
   .obtain⟨d,rfl⟩:∃d,i=k+d:=#v[i-k,by lia];unfold cF at M;rw[Tj (by simp),Ts,Nat.add_sub_cancel_left,Rc]at M;obtain⟨j,hj,hv⟩:=Re.1 M;have bn:σ[j]? = some (some v):=by
     cases q:σ[j]? with
     | none=>rw[q]at hv;cases hv
     | some o=>rw[q]at hv;exact Sn some hv
    have bd:(N.drop k)[d]? = some x:=by rw[List.getElem?_drop];exact e1
    have hx:X.N[j]? = some x:=by have z:=Sn (λl=>l[d]?) hcap.capx;simp only[Rc,hj,bd]at z;exact QU z
    have Z:=hcap.capf x<|RA bd;have ba:=RZ Z;have Y:=hcap.free _ ba rfl;rw[<-hosc]at Y;obtain⟨m,hn,hl⟩:=I3.loc;obtain⟨u,r,l⟩:=hl j x v hx bn<|.inr Y;refine#v[u,r,?_];rcases l with ⟨hk,_⟩ | ⟨hk,c,bt,br⟩
    .have hk:X.env.scope.names.lookup x=some .local:=hk;rcases Y with z | z <;> (rw[hk]at z;cases z)
    .obtain⟨c',I⟩:=hhas x ba;have:=QU<|(hcl I).symm.trans bt;subst this;exact .inr #v[ke Z,c',(ap Z).trans I,br.keeps w]
  .rcases t e with ⟨_,_,a3,_⟩ | a
   .exact#v[_,a3]
   .obtain⟨v,z⟩:=I3.cell x c<|hcl a;exact#v[v,z.keeps w]
  .have Q:=Q;rw[Sd]at Q;obtain⟨K,a2,a3,A,a5⟩:=I3.pin p Q;exact#v[w _ _ K,a2,QY<|QJ K,nofs a3 A,a5]
  .show(cF k cap σ).length=N.length;unfold cF;rw[RW,Ts,QI,hcap.len]
 have B:∀{H':Hp},(∀b∈fp,H' b=none)->∀b∈fp,bX (cxC X N scope (Q0 scope cl s3.heap.objs.size) s3.heap.objs.size fp π s3 H3) [] H' b:=λ{H'} hn b f=>by obtain⟨a0,K,a2,a3,A,a5⟩:=f3 b f;refine#v[hn b f,a7 b f,nofs K a2,.inl f,λx c e=>cne b f e,λp Q=>a5 p ?_];have Q:=Q;rwa [Sd]at Q
 have O:codeAny (model X.prog X.w) X.A (.compLoop (.ListComp elt (#v[tg,iter,ifs,0]::rest) scope pos) 0 (.ref it) (.ref D)<|compEnvC scope (Q0 scope cl s3.heap.objs.size) s3.heap.objs.size X.env)
   (P s3.heap.objs.size) { s3 with heap:=G }:=by
  refine HP (λn s'=>∃i O' H',Inv (cxC X N scope (Q0 scope cl s3.heap.objs.size) s3.heap.objs.size fp π s3 H3) [] O' H' s'/\tn i s'.heap/\(∀b∈fp,H' b=none)/\W i n O' H') (hturn _) ?_ m0
   #v[0,_,H3,IY,T.keep _ _ _ st λb _ o e=>w b o e,λb f=>(f3 b f).1,w0]
  rintro n s5 ⟨i,σ5,H5,I5,al,bb,w5⟩;rcases turn i n σ5 H5 w5 with ⟨ad,q⟩ | ⟨go,C,step,bp,a9⟩
  .refine thn (T.done (cxC X N scope (Q0 scope cl s3.heap.objs.size) s3.heap.objs.size fp π s3 H3) rfl rfl rfl hc i [] s5 σ5 H5 _ I5 (B bb) al ad) ?_;rintro r s6 ⟨hr,I6⟩
   subst hr;have I7:=I3.call' I6.os I6.base I6.hok I6.bare λb f=>by obtain⟨a0,K,a2,a3,A,a5⟩:=f3 b f;exact#v[a3,K,A,a5]
   exact hend s6 σ5 H5 I6 I7 q
  .refine thn (T.item (cxC X N scope (Q0 scope cl s3.heap.objs.size) s3.heap.objs.size fp π s3 H3) rfl rfl rfl hc i [] s5 σ5 H5 _ I5 (B bb) al go) ?_;rintro r s6 ⟨u,hr,h6⟩
   subst hr;refine thn h6 ?_;rintro _ s7 ⟨x,H7,I7,r7,y7,U,bv⟩
   have bx:=I7.pinned (B bv)<|T.obj _ _ U;have F:∀{s':Xz} {O':St} {H':Hp},Inv (cxC X N scope (Q0 scope cl s3.heap.objs.size) s3.heap.objs.size fp π s3 H3) ([]++fk fp s7.heap) O' H' s'->tn (i+1) s'.heap/\∀b∈fp,H' b=none:=λ{s' O' H'} I'=>by refine#v[T.keep _ _ _ U λb f o e=>(I'.pin (b,o)<|Rp _<|Rp _<|R3 f e).1,λb f=>?_];obtain⟨o,e,d⟩:=T.obj _ _ U b f;exact(I'.pin (b,o)<|Rp _<|Rp _<|R3 f e).2.1
   refine thn (hg _ _ _ _ _ _ _ s7 σ5 H7 x u _ bx r7<|step x H7 y7) ?_;rintro _ s8 ⟨S,H8,I8,q8⟩
   refine thn (ht _ _ _ _ _ _ _ s8 S H8 _ I8 q8) ?_;rintro ok s9 ⟨H9,I9,q9⟩
   cases ok with
   | false =>obtain⟨m',hm,w9⟩:=bp _ _ q9;obtain⟨k1,k2⟩:=F I9;exact#v[m',hm,i+1,S,H9,I9.unpinned,k1,k2,w9]
   | true =>
    intro kk R E hk;refine a9 _ s9 S H9 I9 q9 kk R E λbm ac b0 bg #v[m',hm,bi]=>hk bm ?_
    obtain⟨k1,k2⟩:=F bg;exact#v[m',hm,i+1,ac,b0,bg.unpinned,k1,k2,bi]
 exact codeAny_compStart_list O (T.self X.A 0 _ _ _ (T.keep _ _ _ st λb _ o e=>w b o e) O)
def xQ 
   {σ:St}        {W:Nat->Nat->St->List V->Hp->Prop} 
  (hc:X.calm=true) (hosc:X.env.scope=osc) (hcap:Caps X.N osc N k cap scope)
  (hcl:∀{x} {c},cl.lookup x=some c->X.env.cells.lookup x=some c) (hhas:∀x,(x,Yb.free)∈scope.names->∃c,cl.lookup x=some c)
  (hg:∀cl C ex π s H,PG (cxC X N scope cl C ex π s H) tg g)
  (ht:∀cl C ex π s H,PTs (cxC X N scope cl C ex π s H) ifs tt)
  (he:∀cl C ex π s H,PE (cxC X N scope cl C ex π s H) elt te)
  (I3:Inv X π σ H3 s3) (hD:H3 D=some (.lst [])) (T:Turn X.prog X.w X.K tg J fp it tn) (st:tn 0 s3.heap) (f3:∀b∈fp,bX X π H3 b) (w0:W 0 m0 (cF k cap σ) [] H3)
  (turn:∀i m O' acc H',W i m O' acc H'->(J.stop i H'/\Q (.ref D) H') \/
   (J.go i H'/\∀x H2,J.yld i H' x H2->g x O' H2 λσ2 H3=>tt σ2 H3 λok H4=>if ok=true then te σ2 H4 λy H5=>H5 D=some (.lst acc)/\acc.length<XI/\∃m',m'<m/\W (i+1) m' σ2 (acc++[y]) (upd H5 D<|.lst<|acc++[y])
    else H4 D=some (.lst acc)/\∃m',m'<m/\W (i+1) m' σ2 acc H4)) :
  XR (model X.prog X.w) X.A (newFunctionEnv scope X.env.globals cl [] X.env.qual none .none<|some X.env) (λcenv s₄ =>
   codeAny (model X.prog X.w) X.A (.compStart (.ListComp elt [#v[tg,iter,ifs,0]] scope pos) 0 (.ref it) (.ref D) { cenv with scope:=relabel scope X.env }) (compPost (model X.prog X.w) X.A X.xe none (EP X π σ Q) (.ref D) cenv.locals) s₄) X.xe s3:=by
 refine lh (act:=λenv k=>do nH elt (.ref D) env;k) (Qs:=Q<|.ref D) (W:=λi m O' H'=>∃acc,H' D=some (.lst acc)/\W i m O' acc H') (λenv=>by rfl) hc hosc hcap hcl hhas hg ht I3 T st f3 #v[[],hD,w0] (λM G H5 F I7 q=>?_) λi m O' H' #v[acc,Z,w]=>?_
 .obtain⟨m,S,_⟩:=id F.loc;refine#v[m,S,λf t=>?_];obtain⟨g0,g1,g2,g3,g4,g5⟩:=I3.fpOk (QP _) F.free;exact#v[.ref D,H5,I7.turned (λb o Y e=>(t.2 b Y).trans e) g0 g1 g3 g4 g5,rfl,q]
 .rcases turn i m O' acc H' w with h | ⟨go,step⟩
  .exact .inl h
  .refine .inr #v[go,_,step,λσ2 H4 h=>?_,λr s σ2 H4 I h k R E U=>?_]
   .obtain⟨v,m',u,L⟩:=(h);exact#v[m',u,acc,v,L]
   .refine QD (QD<|Rj (he _ _ _ _ _ _ _ s σ2 H4 _ I h) (?_ ) λ_ _ f=>f.elim);rintro K n ⟨y,d,B,p,a,O,m',u,j⟩;refine QD (Rj (bS (X:=cxC X N scope (Q0 scope cl s3.heap.objs.size) s3.heap.objs.size fp π s3 H3) _ n σ2 d (.ref D) [y] (.ref D) [K] (λ_ H'=>H'=upd d D (.lst<|acc++[y])) B rfl (.cons p .nil) #v[D,acc,y,rfl,rfl,a,O,rfl])
     (λ_ l #v[_,ab,A,_,z]=>QF ?_) λ_ _ f=>f.elim)
    subst z;exact U l σ2 _ A #v[m',u,_,i8,j]
def ID 
  (hc:X.calm=true) (hosc:X.env.scope=osc) (hcap:Caps X.N osc N k cap scope) (hi:PI X tg iter wi)
  (hg:∀cl C ex π s H,PG (cxC X N scope cl C ex π s H) tg g)
  (ht:∀cl C ex π s H,PTs (cxC X N scope cl C ex π s H) ifs tt)
  (he:∀cl C ex π s H,PE (cxC X N scope cl C ex π s H) elt te)
  (hs:autoParam (∀x,XX iter X.env x=pure x) eT) :
  PE X (.ListComp elt [#v[tg,iter,ifs,0]] scope pos) (tLC wi k cap g tt te):=by
 intro π s w H Q I h;have i:∀y∈scope.names,y.2 = .free->∃c,X.env.cells.lookup y.1=some c:=λy m n=>I.ok.has y.1 (by show X.env.scope.names.lookup y.1=_\/X.env.scope.names.lookup y.1=_;rw[hosc];exact hcap.free y m n)
 let f:=λx=>(X.env.cells.lookup x).getD 0
 have z:∀y∈scope.names,y.2 = .free->X.env.cells.lookup y.1=some (f y.1):=λy m n=>by obtain⟨c,e⟩:=i y m n;show _=some ((X.env.cells.lookup y.1).getD 0);rw[e];rfl
 have a:=R0 λy m n=>by unfold cellOf;rw[z y m n]
 have p:∀{x} {c},(M9 f scope.names []).lookup x=some c->X.env.cells.lookup x=some c:=λ{x c} e=>by
  rcases U5 _ _ e with ⟨r,u⟩ | r
  .rw[u];exact z (x,.free) r rfl
  .simp at r
 have d:∀x,(x,Yb.free)∈scope.names->∃c,(M9 f scope.names []).lookup x=some c:=λx G=>#v[_,bE _ _<|.inl G]
 generalize M9 f scope.names []=cl at a p d;rw[eval_ListComp];refine Vo rfl hs a hcap.kind hcap.loc ?_;refine thn (hi π s w H _ I h) λv s1 r=>thn r λF s2 u=>?_
 obtain⟨R,K,O,J,M,e,B,T,l,A,E⟩:=u;subst e;obtain⟨W,⟨P,D⟩,j⟩:=E s2.heap.objs.size<|B.hok.fresh<|QP _;refine RI ?_;have L:Inv X π w (upd M s2.heap.objs.size<|.lst []) { s2 with heap:=s2.heap.push { cls:=.type "list",data:=.seq ([]:List Xx).toArray } }:=B.lnew .nil<|Sb _;have t:∀b∈K,b≠s2.heap.objs.size:=λb q=>by obtain⟨o,e,_⟩:=T.obj _ _ l b q;exact QY<|QJ e
 exact xQ hc hosc hcap p d hg ht he L i8 T (T.keep _ _ (s2.heap.push { cls:=.type "list",data:=.seq ([]:List Xx).toArray }) l λb _ o e=>QE _ e) (λb q=>#v[by rw[f9<|t b q];exact(A b q).1,(A b q).2]) D j
end
section
mutual
def b8 (K:Qf)(H:Hp):My->V->Prop
 | .none,v=>v = .non
 | .bool b,v=>v = .bl b
 | .int i,v=>v = .int i
 | .str x,v=>v = .str x
 | .tuple ds,v=>∃a c,v = .ref a/\SqT K H a c/\a8 K H ds c
 | .list ds,v=>∃a c,v = .ref a/\H a=some (.lst c)/\a8 K H ds c
 | .dict _,_=>False
def a8 (K:Qf)(H:Hp):List My->List V->Prop
 | [],xs=>xs=[]
 | d::ds,xs=>∃x r,xs=x::r/\b8 K H d x/\a8 K H ds r
end
section
variable {X:Cx}{π:List (Xy×XM)}{σ:St}{H:Hp}{s:Xz}
mutual
theorem P2 (I:Inv X π σ H s):∀(d:My) (v:V) (u:Xx),b8 X.K H d v->m6 v u->∃as,Reads s.heap u d as
 | .none,v,u,h,r=>by
  simp only[b8]at h;subst h;cases(show u=Xx.none from r);exact#v[_,.none]
 | .bool b,v,u,h,r=>by
  simp only[b8]at h;subst h;cases(show u=Xx.bool b from r);exact#v[_,.bool b]
 | .int i,v,u,h,r=>by
  simp only[b8]at h;subst h;obtain⟨t,rfl⟩:=(show ∃t,u=Xx.int i t from r);exact#v[_,.int i t]
 | .str x,v,u,h,r=>by
  simp only[b8]at h;subst h;obtain⟨t,rfl⟩:=(show ∃t,u=Xx.str x t from r);exact#v[_,.str x t]
 | .tuple ds,v,u,h,r=>by
  simp only[b8]at h;obtain⟨a,e,rfl,j,k⟩:=h;cases(show u=Xx.ref a from r);obtain⟨c,f,ht,_⟩:=I.tuple j;obtain⟨o,p,m,n,l⟩:=ht;obtain⟨as,g⟩:=aR I ds e c k f;exact#v[_,.tuple p m l g]
 | .list ds,v,u,h,r=>by
  simp only[b8]at h;obtain⟨a,e,rfl,j,k⟩:=h;cases(show u=Xx.ref a from r);obtain⟨c,f,ht,_⟩:=I.list<|SqL.of j;obtain⟨o,p,m,n,l⟩:=ht.isList;obtain⟨as,g⟩:=aR I ds e c k f;exact#v[_,.list p m l g]
 | .dict dy,v,u,h,r=>by simp only[b8]at h
theorem aR (I:Inv X π σ H s):∀(ds:List My) (xs:List V) (us:List Xx),a8 X.K H ds xs->s0 xs us->∃as,ReadsAll s.heap us ds as
 | [],xs,us,h,r=>by
  simp only[a8]at h;subst h;cases r;exact#v[_,.nil]
 | d::ds,xs,us,h,r=>by
  simp only[a8]at h;obtain⟨x,a,rfl,i,g⟩:=h;cases r with
  | cons f e =>obtain⟨as,c⟩:=P2 I d x _ i f;obtain⟨bs,b⟩:=aR I ds a _ g e;exact#v[_,.cons c b]
end
end
structure Shw (d:My) dp n:Prop where
 sh:d.showable=true
 nd:d.hasDict=false
 de:d.depth<=dp
 ln:d.shown.length<=n
def Shw.int {k} (h:i.natAbs<2 ^ k)(hk:0<k)(hk2:k<=1900):Shw (.int i) 0 (k+20):=by
 have a:i.natAbs.log2<1920:=by
  by_cases b:i.natAbs=0
  .rw[b];decide
  .have:=(Xt b).2 h;lia
 refine#v[by simp only[My.showable,a,Vf],by simp only[My.hasDict],by simp only[My.depth];simp[*],?_];have c:i.natAbs.log2<k:=by
  by_cases b:i.natAbs=0
  .rw[b];exact hk
  .exact(Xt b).2 h
 have e:=int_text_length_le hk c;simp only[My.shown];rw[PySem.ofString_length];lia
section

def DQ (K:Qf):List V->Hp->VK->Prop:=λb H Q=>∃a d,b=[.ref a]/\b8 K H d (.ref a)/\Shw d 50 16000000/\Q (.str d.shown) H
def vy (hg:X.A.guards=some [])(hu:X.A.units+64<XZ):D1 X (.builtin "repr") (DQ X.K):=by intro c s k H l us Q I r h;obtain⟨a,d,rfl,j,b,q⟩:=h;obtain⟨u,rfl,f⟩:=T3 r;cases f;obtain⟨as,g⟩:=P2 I d (.ref a) (.ref a) j rfl;refine repr_of_reads' g b.sh (My.noDict_hsm b.nd) hg (by have:=b.de;lia) (λ_ _ e=>e) (λn u m i=>#v[.str d.shown,H,I.kept i,#v[u,rfl],q]) (QZ b.ln (by rw[Ry];decide))
end
end
end L2
namespace HT
open PySem PyProof.Rows
section

def oy (n:Nat):Builtin.Slice.sliceAdjust none none (-1) (n:Int)=((n:Int)-1,-1):=by unfold Builtin.Slice.sliceAdjust;simp
def pz (n:Nat):Builtin.Slice.slicePlaces ((n:Int)-1) (-1) (-1)=n:=by
 unfold Builtin.Slice.slicePlaces;rw[QK<|by decide];split
 .rw[show(-(-1))=1 by decide,Int.ediv_one];simp[*]
 .omega
def ff {n:Nat}(hs:s.heap.IsSliceOf sl .none .none vst)(pst:IsPart vst (some (-1)))
  (h:Q ((n:Int)-1,-1,n) s):XR (model prog w) A (Builtin.Slice.sliceApplied (.ref sl)<|pure (n:Int)) Q E s:=by obtain⟨d,a,c,b⟩:=id hs;refine QD<|QD<|RF a b rfl<|QD<|RF a b rfl<|QD<|RF a b rfl<|QF ?_;refine QD<|pA pst ?_;rw[QK<|by decide];refine QD<|slicePart_none<|QD<|slicePart_none<|QD<|QF ?_;show XR _ _ (match Builtin.Slice.sliceAdjust none none (-1) n with | (lo,hi)=>pure (lo,(-1),Builtin.Slice.slicePlaces lo hi (-1))) _ _ s;rw[oy n];show XR _ _ (pure ((n:Int)-1,(-1),Builtin.Slice.slicePlaces (n-1) (-1) (-1))) _ _ s;rw[pz];exact QF h
theorem Y5 {α β:Type}{f g:α->Option β}:∀{l:List α},(∀x∈l,f x=g x)->l.filterMap f=l.filterMap g
 | [],_=>rfl
 | x::r,h=>by rw[TK,TK,h x QN,Y5 λy a=>h y<|QG _ a]
def zV (xs:Array Xx):((List.range xs.size).filterMap λ(m:Nat)=>xs[(((xs.size:Int)-1)+(m:Int)*(-1)).toNat]?).toArray=xs.toList.reverse.toArray:=by
 congr 1;have e:((List.range xs.size).filterMap λ(m:Nat)=>xs[(((xs.size:Int)-1)+m*(-1)).toNat]?)=(List.range xs.size).filterMap λm=>xs.toList.reverse[m]?:=by
  refine Y5 λm a=>?_
  have a:=Vx.1 a;rw[List.getElem?_reverse<|by simpa using a];have:(((xs.size:Int)-1)+m*(-1)).toNat=xs.toList.length-1-m:=by rw[RS];lia
  rw[this];simp
 rw[e];have:=PySem.W.krv_all xs.toList.reverse.toArray;simpa using this
def getItem_tuple_rev (ht:IsTup s.heap t items)(hs:s.heap.IsSliceOf sl .none .none vst)(pst:IsPart vst (some (-1)))
  (h:Q (.ref s.heap.objs.size) { s with heap:=s.heap.push { cls:=.type "tuple",data:=.seq items.toList.reverse.toArray } })
  (hsz:items.size<=XI):XR (model prog w) A (getItem (.ref t)<|.ref sl) Q E s:=by
 have a:sizeOk (.seq items.toList.reverse.toArray):=by show items.toList.reverse.toArray.size<=XI;rw[Rb,SM,RS];exact hsz
 obtain⟨f,b,d,g⟩:=id hs;have e:s.TypeIs (.ref sl) "slice":=#v[f,b,d];unfold getItem;try with_reducible refine Sq ?_
 first | refine QD (QF ?_) | skip
 refine QD (wpAny_sequenceKey ht.typeIs (by decide) ?_);refine QD (Sl ht.typeIs UE
  (RO UE ht.typeIs entry_tuple_getitem ?_<|args_tuple_getitem _ _))
 show XR _ _ (Builtin.Tuple.tupleItemsOf (.ref t) >>= _) _ _ s;refine QD<|tupleItemsOf_ ht ?_;refine QD<|wpAny_typeOf e ?_;rw[QH<|by decide];refine QD<|ff hs pst ?_;have c:¬(((items.size:Int)-1 == 0&&(-1) == 1&&items.size == items.size)=true):=by simp
 show XR _ _ (if ((items.size:Int)-1 == 0&&(-1) == 1&&items.size == items.size)=true then _ else _) _ _ s;rw[QK c,zV];first
  | exact QD<|RI (QF #v[_,rfl,QF h]) a
  | exact QD<|RI (QD<|QF<|QF #v[_,rfl,QF h]) a
  | exact QD<|QD<|RI (QF<|QF #v[_,rfl,QF h]) a
  | exact QD<|QD<|RI (QF #v[_,rfl,QF h]) a
end
end HT
namespace L2
open PySem PySem.Spec PyProof.Rows
section
section

def yJ (hc:X.calm=true):D1 X (.builtin "sum") (λxs H Q=>∃(a:Xy) (ns:List Int),xs=[.ref a]/\SqL X.K H a (ns.map V.int)/\Q (.int ns.sum) H):=by
 intro d s o H xs us Q I r h;obtain⟨a,ns,rfl,l,q⟩:=h;obtain⟨u,rfl,j⟩:=T3 r;cases j;obtain⟨k,i,p,v⟩:=I.list l;have f:=ax i;obtain⟨c,b⟩:=f.allInts.items;have hl:=b▸p.isList;refine sum_intListG (I.ok.hd hc) hl λw t g n=>#v[.int ns.sum,H,I.kept n,#v[g,?_],q]
 have m:=f.numsOf;have e:numsOf (intItems c).toList=ns:=by rw[<-b];exact m
 rw[nums_intItems]at e;rw[preSum_eq,VQ (by simp),e]
end
end
variable {H':Hp}
section
def b7 (P:XA)(w:XB)(K:Qf)(mg:Str->Option Xx)(base:XH)(x:Str)(k:Nat)(ps:List Str)(sp:Sp):Prop :=
 ∃f a,FnOk P w K mg base CX0 k f a ps sp/\mg x=some (.ref f)/\PySem.W.keepIn K (.ref f)=true/\cQ K a ps []
def jI (C:b7 X.prog X.w X.K X.mg X.base x k ps sp)(hr:Room k X.A)(hg:Gl X x)(ha:PA X (e::es) t)
  (hdb:autoParam (nDb x) eL) (he:autoParam (XJ (e::es) X.env=(false,eval e X.env)::XJ es X.env) eH) (hpl:autoParam ((XO pos<|XJ es X.env).any (·.1)=false) eH) :
  PE X (.Call (.Name x p) (e::es) [] pos) (aQ sp [] E0 t):=by obtain⟨f,a,G,m,kp,b⟩:=C;exact AG G hr hg m kp b .nil Ju ha hdb he hpl
def KpE (D:Xy->Prop)(H H':Hp):Prop:=∀b o,H b=some o->¬D b->H' b=some o
def SqT.kp {K}(h:SqT K H a xs)(k:KpE D H H')(hD:∀b,D b->∃dy,H b=some (.dK dy)):SqT K H' a xs:=by
 rcases h with (h | ⟨o,h⟩) | h
 .refine .inl (.inl<|k _ _ h λz=>?_);obtain⟨dy,e⟩:=hD _ z;rw[h]at e;cases e
 .refine .inl (.inr #v[o,k _ _ h λz=>?_]);obtain⟨dy,e⟩:=hD _ z;rw[h]at e;cases e
 .exact .inr h
section
variable {K:Qf}{H:Hp}{D:Xy->Prop}
mutual
theorem b8.kp (k:KpE D H H')(hD:∀b,D b->∃dy,H b=some (.dK dy)):∀(d:My) (v:V),b8 K H d v->b8 K H' d v
 | .none,v,h=>by simpa only[b8] using h
 | .bool b,v,h=>by simpa only[b8] using h
 | .int i,v,h=>by simpa only[b8] using h
 | .str x,v,h=>by simpa only[b8] using h
 | .tuple ds,v,h=>by
  simp only[b8]at h ⊢;obtain⟨a,c,e,f,g⟩:=h;exact#v[a,c,e,f.kp k hD,a8.kp k hD ds c g]
 | .list ds,v,h=>by
  simp only[b8]at h ⊢;obtain⟨a,c,e,f,g⟩:=h;refine#v[a,c,e,k _ _ f λz=>?_,a8.kp k hD ds c g];obtain⟨dy,e⟩:=hD _ z;rw[f]at e;cases e
 | .dict dy,v,h=>by simp only[b8]at h
theorem a8.kp (k:KpE D H H')(hD:∀b,D b->∃dy,H b=some (.dK dy)):∀(ds:List My) (xs:List V),a8 K H ds xs->a8 K H' ds xs
 | [],xs,h=>by simpa only[a8] using h
 | d::ds,xs,h=>by simp only[a8]at h ⊢;obtain⟨x,r,e,c,a⟩:=h;exact#v[x,r,e,b8.kp k hD d x c,a8.kp k hD ds r a]
end
end
def j9.kpE (s:j9 H H'):KpE (λ_=>False) H H':=λb o h _=>s b o h
def b8.same {K}(h:b8 K H d v)(s:j9 H H'):b8 K H' d v:=b8.kp s.kpE (λ_ z=>z.elim) d v h
def a8.same {K}(h:a8 K H ds xs)(s:j9 H H'):a8 K H' ds xs:=a8.kp s.kpE (λ_ z=>z.elim) ds xs h
def SqT.same {K}(h:SqT K H a xs)(s:j9 H H'):SqT K H' a xs:=h.kp s.kpE (λ_ z=>z.elim)
def j9.upd (hp:H p=none):j9 H (upd H p o):=λb u e=>by rw[f9<|l6 e hp];exact e
section
variable {K:Qf}
theorem a8.length:∀{ds} {xs},a8 K H ds xs->xs.length=ds.length
 | [],xs,h=>by simp only[a8]at h;subst h;rfl
 | d::ds,xs,h=>by simp only[a8]at h;obtain⟨x,r,rfl,b,a⟩:=h;rw[QM,QM,a.length]
theorem a8.get:∀{ds} {xs} {i:Nat} {x},a8 K H ds xs->xs[i]? = some x->∃d,ds[i]? = some d/\b8 K H d x
 | [],xs,i,x,h,e=>by simp only[a8]at h;subst h;simp at e
 | d::ds,xs,i,x,h,e=>by
  simp only[a8]at h;obtain⟨y,r,rfl,b,a⟩:=h;cases i with
  | zero=>simp at e;subst e;exact#v[d,rfl,b]
  | succ i=>simpa using a.get (by simpa using e)
theorem a8.snoc:∀{ds} {xs} {d} {x},a8 K H ds xs->b8 K H d x->a8 K H (ds++[d]) (xs++[x])
 | [],xs,d,x,h,h'=>by simp only[a8]at h;subst h;simp only[RC];exact#v[x,[],rfl,h',rfl]
 | e::ds,xs,d,x,h,h'=>by simp only[a8]at h;obtain⟨y,r,rfl,b,a⟩:=h;simp only[Ru];exact#v[y,r++[x],rfl,b,a.snoc h']
theorem a8.append (h':a8 K H ds' xs'):∀{ds} {xs},a8 K H ds xs->a8 K H (ds++ds') (xs++xs')
 | [],xs,h=>by simp only[a8]at h;subst h;simpa using h'
 | e::ds,xs,h=>by simp only[a8]at h;obtain⟨y,r,rfl,b,a⟩:=h;simp only[Ru];exact#v[y,r++xs',rfl,b,a8.append h' a]
theorem a8.reverse:∀{ds} {xs},a8 K H ds xs->a8 K H ds.reverse xs.reverse
 | [],xs,h=>by simp only[a8]at h;subst h;simp[a8]
 | d::ds,xs,h=>by simp only[a8]at h;obtain⟨y,r,rfl,b,a⟩:=h;rw[VH,VH];exact(a8.reverse a).snoc b
def b8.tup {xs}{a} (h:H a=some (.tup xs))(h2:a8 K H ds xs):b8 K H (.tuple ds) (.ref a):=by simp only[b8];exact#v[a,xs,rfl,SqT.of h,h2]
def b8.lst {xs}{a} (h:H a=some (.lst xs))(h2:a8 K H ds xs):b8 K H (.list ds) (.ref a):=by simp only[b8];exact#v[a,xs,rfl,h,h2]
def a8.nil :a8 K H [] []:=by simp only[a8]
def a8.cons (h:b8 K H d x)(h2:a8 K H ds xs):a8 K H (d::ds) (x::xs):=by simp only[a8];exact#v[x,xs,rfl,h,h2]
def b8.int :b8 K H (.int i) (.int i):=by simp only[b8]
def b8.bl :b8 K H (.bool b) (.bl b):=by simp only[b8]
def b8.st :b8 K H (.str x) (.str x):=by simp only[b8]
def b8.non :b8 K H .none .non:=by simp only[b8]
def b8.ofTup (h:b8 K H (.tuple ds) v):∃a xs,v = .ref a/\SqT K H a xs/\a8 K H ds xs:=by simpa only[b8] using h
end
def Hs {J:It}(n){g:TG}{tt:TT}{te:TE}{Q:Hp->Prop}(Pv:Nat->St->List V->Hp->Prop)(h0:Pv 0 σ0 [] H0)
  (hgo:∀i σ acc H,i<n->Pv i σ acc H->J.go i H) (hstop:∀σ acc H,Pv n σ acc H->J.stop n H)
  (hs:∀i σ acc H,i<n->Pv i σ acc H->∀x H2,J.yld i H x H2->∀R:St->List V->Hp->Prop,(∀σ acc H,Pv (i+1) σ acc H->R σ acc H) ->
   g x σ H2 λσ2 H3=>tt σ2 H3 λok H4=>if ok=true then te σ2 H4 λy H5=>H5 D=some (.lst acc)/\acc.length<XI/\R σ2 (acc++[y]) (upd H5 D<|.lst<|acc++[y]) else H4 D=some (.lst acc)/\R σ2 acc H4)
  (hd:∀σ acc H,Pv n σ acc H->Q H) :
  ∃W:Nat->Nat->St->List V->Hp->Prop,(∃m,W 0 m σ0 [] H0)/\∀i m O' acc H',W i m O' acc H' ->
  (J.stop i H'/\Q H') \/
  (J.go i H'/\∀x H2,J.yld i H' x H2->g x O' H2 λσ2 H3=>tt σ2 H3 λok H4=>if ok=true then te σ2 H4 λy H5=>H5 D=some (.lst acc)/\acc.length<XI/\∃m',m'<m/\W (i+1) m' σ2 (acc++[y]) (upd H5 D<|.lst<|acc++[y])
   else H4 D=some (.lst acc)/\∃m',m'<m/\W (i+1) m' σ2 acc H4):=by
 refine#v[λi m σ acc H=>m=n-i/\i<=n/\Pv i σ acc H,#v[n,by simp,Sb _,h0],?_];rintro i m σ acc H ⟨rfl,b,p⟩;by_cases a:i<n
 .exact .inr #v[hgo i σ acc H a p,λx H2 y=>hs i σ acc H a p x H2 y (λσ acc H=>∃m',m'<n-i/\m'=n-(i+1)/\i+1<=n/\Pv (i+1) σ acc H) λσ acc H q=>#v[n-(i+1),by lia,rfl,a,q]]
 .have e:i=n:=by lia
  subst e;exact .inl #v[hstop σ acc H p,hd σ acc H p]
end
section
section
variable {K:Qf}
def Cz (hK:X.K=K)(hc:X.calm=true)(h:PGs X es t)
  (hn:autoParam ((XY es X.env).length=n) eH) (hst:autoParam ((XY es X.env).findIdx? (·.1)=none) eH):PG X (.Tuple es k pos) (FP K n t):=by subst hK;exact EM hc h hn hst
def AV (hK:X.K=K):IxR X (Iq K):=by subst hK;exact Hw
def yP (hK:X.K=K):IxR X (xC K):=by subst hK;exact R8
def cn (hK:X.K=K):D1 X (.builtin "len") (λxs H Q=>∃p ys,xs=[.ref p]/\(SqL K H p ys\/SqT K H p ys)/\Q (.int ys.length) H):=by subst hK;exact U3
def bc (hK:X.K=K):D1 X (.type "tuple") (λxs H Q=>∃p ys,xs=[.ref p]/\((SqL K H p ys/\∀l,H l=none->Q (.ref l) (upd H l<|.tup ys))\/(SqT K H p ys/\Q (.ref p) H))):=by subst hK;exact jh
def ic (hK:X.K=K)(hg:X.A.guards=some [])(hu:X.A.units+64<XZ):D1 X (.builtin "repr") (DQ K):=by subst hK;exact vy hg hu
def uh (hK:X.K=K)(ha:PE X a ta)(he:∀whole,isTrue a X.env whole=(do let v <-whole;standAt a.pos;holding [v] (truthy v))) :
  PT X a (λσ H Q=>ta σ H λx H'=>∃k,zF K x H' k/\Q k H'):=by subst hK;exact xy ha he
end
end
section
section
variable {K:Qf}
def IW (K:Qf):R2:=λx y H Q=>∃a b d c,x = .ref a/\y = .ref b/\SqT K H a d/\SqT K H b c/\d.length+c.length<=XI /\
 (d=[]->Q (.ref b) H)/\(c=[]->Q (.ref a) H)/\∀p,H p=none->Q (.ref p) (upd H p<|.tup<|d++c)
def Ck (hK:X.K=K):OpR X (binaryOp .Add) (IW K):=by
 subst hK;intro c s C H x y v u Q I o m h;obtain⟨a,b,l,D,rfl,rfl,z,w,R,L,J,G⟩:=h;by_cases p:l=[]
 .cases o;cases m;obtain⟨P,F,N,_⟩:=I.tuple z;obtain⟨d,S,M,_⟩:=I.tuple w;subst p;cases F;obtain⟨⟨cls,dd,A,E⟩,q,t,n,r⟩:=id N;obtain⟨⟨B,j,k,i⟩,e,g,O,f⟩:=id M;simp only at t r g f;subst t r g f;exact concat_meets #v[_,q,rfl] #v[_,e,rfl] noFill_tuple_add seq_tuple_add VO VC (Vn _ _)
   (tuple_addW0 a b #[] d.toArray n O dd j E i rfl) #v[q,e,#v[.ref b,H,I,rfl,L rfl]]
 .exact Di c s C H (.ref a) (.ref b) v u Q I o m #v[a,b,l,D,rfl,rfl,z,w,p,R,J,λ_=>G]
end
end
section
def vk 
   {σ:St}       {Q:St->Hp->Prop} {W:Nat->Nat->St->List V->Hp->Prop} 
  (hNd:X.N.Nodup) (hix:X.N[ix]? = some y) (hLy:Loc X.env.scope y) (hfy:X.fn y=true\/X.env.scope.names.lookup y=some .local)
  (hc:X.calm=true) (hosc:X.env.scope=osc) (hcap:Caps X.N osc N k cap scope)
  (hcl:∀{x} {c},cl.lookup x=some c->X.env.cells.lookup x=some c) (hhas:∀x,(x,Yb.free)∈scope.names->∃c,cl.lookup x=some c)
  (hg:∀cl C ex π s H,PG (cxC X N scope cl C ex π s H) tg g)
  (ht:∀cl C ex π s H,PTs (cxC X N scope cl C ex π s H) ifs tt)
  (he:∀cl C ex π s H,PE (cxC X N scope cl C ex π s H) elt te)
  (I3:Inv X π σ H3 s3) (hD:H3 D=some (.lst [])) (T:Turn X.prog X.w X.K tg J fp it tn) (st:tn 0 s3.heap) (f3:∀b∈fp,bX X π H3 b) (w0:W 0 m0 (cF k cap σ) [] H3)
  (turn:∀i m O' acc H',W i m O' acc H'->(J.stop i H'/\Q (σ.set ix<|some<|.ref D) H') \/
   (J.go i H'/\∀x H2,J.yld i H' x H2->g x O' H2 λσ2 H3=>tt σ2 H3 λok H4=>if ok=true then te σ2 H4 λy H5=>H5 D=some (.lst acc)/\acc.length<XI/\∃m',m'<m/\W (i+1) m' σ2 (acc++[y]) (upd H5 D<|.lst<|acc++[y])
    else H4 D=some (.lst acc)/\∃m',m'<m/\W (i+1) m' σ2 acc H4)) :
  XR (model X.prog X.w) X.A (newFunctionEnv scope X.env.globals cl [] X.env.qual none .none<|some X.env) (λcenv s₄ =>
   codeAny (model X.prog X.w) X.A (.compStart (.ListComp elt [#v[tg,iter,ifs,0]] scope pos) 0 (.ref it) (.ref D) { cenv with scope:=relabel scope X.env }) (compPost (model X.prog X.w) X.A X.xe (some<|assign (.Name y py) X.env) (λ_ s'=>∃O' H',Inv X π O' H' s'/\Q O' H') (.ref D) cenv.locals) s₄) X.xe s3:=by
 refine lh (act:=λj k=>do nH elt (.ref D) j;k) (Qs:=λH'=>Q (σ.set ix<|some<|.ref D) H') (W:=λi m O' H'=>∃acc,H' D=some (.lst acc)/\W i m O' acc H') (λj=>by rfl) hc hosc hcap hcl hhas hg ht I3 T st f3 #v[[],hD,w0] (λZ ab H5 I6 I7 q=>?_) λi m O' H' #v[acc,ac,w]=>?_
 .obtain⟨m,hn,_⟩:=id I6.loc;obtain⟨g0,g1,g2,g3,g4,g5⟩:=I3.fpOk (QP _) I6.free;obtain⟨o,es,ep,ho,a,d⟩:=id hn;have O:Inv X (π++[(s3.heap.objs.size,o)]) σ H5 Z:=I7.pins_of λp hp=>by
   rcases UH.1 hp with z | z
   .exact I7.pin p<|Rp _ z
   .rw[Rn.1 z];exact#v[ho,g0,g1,g2,λv z=>by have Y:=z;rw[a]at Y;cases Y]
  refine wpAny_assign_Name (V7 O hNd hix hLy (v:=.ref D) rfl (λs7 I8=>?_) hfy);have L:=(I8.pin (s3.heap.objs.size,o)<|Rp _<|Rp _<|Rn.2 rfl).1;refine#v[m,#v[o,es,ep,L,a,d],λn F=>?_];exact#v[_,H5,I8.unpinned.turned (λb o hb e=>(F.2 b hb).trans e) g0 g1 g3 g4 g5,q]
 .rcases turn i m O' acc H' w with h | ⟨go,step⟩
  .exact .inl h
  .refine .inr #v[go,_,step,λσ2 H4 h=>?_,λB s σ2 H4 I h k R E hk=>?_]
   .obtain⟨K,m',G,w9⟩:=(h);exact#v[m',G,acc,K,w9]
   .refine QD (QD<|Rj (he _ _ _ _ _ _ _ s σ2 H4 _ I h) (?_ ) λ_ _ n=>n.elim);rintro yv u ⟨y,l,U,A,f,hz,m',G,r⟩;refine QD (Rj (bS (X:=cxC X N scope (Q0 scope cl s3.heap.objs.size) s3.heap.objs.size fp π s3 H3) _ u σ2 l (.ref D) [y] (.ref D) [yv] (λ_ H'=>H'=upd l D (.lst<|acc++[y])) U rfl (.cons A .nil) #v[D,acc,y,rfl,rfl,f,hz,rfl])
     (λ_ t #v[_,ad,S,_,M]=>QF ?_) λ_ _ n=>n.elim)
    subst M;exact hk t σ2 _ S #v[m',G,_,i8,r]
def yC 
  (hNd:X.N.Nodup) (hix:X.N[ix]? = some y) (hLy:Loc X.env.scope y)
  (hc:X.calm=true) (hosc:X.env.scope=osc) (hcap:Caps X.N osc N k cap scope) (hi:PI X tg iter wi)
  (hg:∀cl C ex π s H,PG (cxC X N scope cl C ex π s H) tg g)
  (ht:∀cl C ex π s H,PTs (cxC X N scope cl C ex π s H) ifs tt)
  (he:∀cl C ex π s H,PE (cxC X N scope cl C ex π s H) elt te)
  (hs:autoParam (∀x,XX iter X.env x=pure x) eT) (hfy:autoParam (X.fn y=true\/X.env.scope.names.lookup y=some .local) eM)
  (hsw:autoParam (XT (.ListComp elt [#v[tg,iter,ifs,0]] scope pos) (some<|.Name y py) spos.line X.env=pure true) eH) :
  PS X (.Assign [.Name y py] (.ListComp elt [#v[tg,iter,ifs,0]] scope pos) spos) (aa (tLC wi k cap g tt te)<|M6 ix):=by
 intro π s z H U I h;have i:∀y∈scope.names,y.2 = .free->∃c,X.env.cells.lookup y.1=some c:=λy n p=>I.ok.has y.1 (by show X.env.scope.names.lookup y.1=_\/X.env.scope.names.lookup y.1=_;rw[hosc];exact hcap.free y n p)
 let f:=λx=>(X.env.cells.lookup x).getD 0
 have B:∀y∈scope.names,y.2 = .free->X.env.cells.lookup y.1=some (f y.1):=λy n p=>by obtain⟨c,e⟩:=i y n p;show _=some ((X.env.cells.lookup y.1).getD 0);rw[e];rfl
 have a:=R0 λy n p=>by unfold cellOf;rw[B y n p]
 have q:∀{x} {c},(M9 f scope.names []).lookup x=some c->X.env.cells.lookup x=some c:=λ{x c} e=>by
  rcases U5 _ _ e with ⟨t,w⟩ | t
  .rw[w];exact B (x,.free) t rfl
  .simp at t
 have d:∀x,(x,Yb.free)∈scope.names->∃c,(M9 f scope.names []).lookup x=some c:=λx M=>#v[_,bE _ _<|.inl M]
 generalize M9 f scope.names []=cl at a q d;rw[exec_Assign_Name_used _ _ _ _ hsw];refine QD<|Tg<|QD ?_;refine QD (Rj (Vo rfl hs a hcap.kind hcap.loc ?_) (λ_ A O=>QF<|QF O) λ_ _ e=>e);refine thn (hi π s z H _ I h) λv s1 t=>thn t λL s2 w=>?_
 obtain⟨Z,P,V,J,S,e,E,T,m,D,K⟩:=w;subst e;obtain⟨W,⟨Y,G⟩,l⟩:=K s2.heap.objs.size<|E.hok.fresh<|QP _;refine RI ?_;have R:Inv X π z (upd S s2.heap.objs.size<|.lst []) { s2 with heap:=s2.heap.push { cls:=.type "list",data:=.seq ([]:List Xx).toArray } }:=E.lnew .nil<|Sb _;have u:∀b∈P,b≠s2.heap.objs.size:=λb r=>by obtain⟨o,e,_⟩:=T.obj _ _ m b r;exact QY<|QJ e
 exact vk hNd hix hLy hfy hc hosc hcap q d hg ht he R i8 T (T.keep _ _ (s2.heap.push { cls:=.type "list",data:=.seq ([]:List Xx).toArray }) m λb _ o e=>QE _ e) (λb r=>#v[by rw[f9<|u b r];exact(D b r).1,(D b r).2]) G l
end
section
section
theorem fC:∀{xs} {us},xs.length=us.length->(∀(i:Nat) x u,xs[i]? = some x->us[i]? = some u->m6 x u)->s0 xs us
 | [],[],_,_=>.nil
 | [],_::_,e,_=>by simp at e
 | _::_,[],e,_=>by simp at e
 | x::xs,u::us,e,h=>.cons (h 0 x u rfl rfl) (fC (by simpa using e) λi y v b a=>h (i+1) y v (by simpa using b)<|by simpa using a)
end
end
section
def tyD:My->String
 | .none=>"NoneType"
 | .bool _=>"bool"
 | .int _=>"int"
 | .str _=>"str"
 | .list _=>"list"
 | .tuple _=>"tuple"
 | .dict _=>"dict"
def isT (a T:String):Bool:=a == T||(a == "bool" && T == "int")
def Bh (K:Qf):∀a∈["NoneType","bool","int","str","list","tuple"],∀T∈["bool","int","str","list","tuple"],PySem.W.kitOne K (.type a) (.type T)=some (isT a T):=by intro a b T c;simp only[QQ,Sg,Uo]at b c;rcases b with rfl | rfl | rfl | rfl | rfl | rfl <;> rcases c with rfl | rfl | rfl | rfl | rfl <;> rfl
section
variable {K:Qf}
def AQ (h:b8 K H d x):tyD d∈["NoneType","bool","int","str","list","tuple"]:=by cases d <;> simp[tyD];simp only[b8]at h
def DU (K:Qf):List V->Hp->VK->Prop:=λa H Q=>∃(x:V) (T:String) (d:My),a=[x,.ty T]/\b8 K H d x/\T∈["bool","int","str","list","tuple"]/\Q (.bl<|isT (tyD d) T) H
def uk (hK:X.K=K):D1 X (.builtin "isinstance") (DU K):=by
 subst hK;intro g s A H y us Q I r h;obtain⟨x,T,d,rfl,c,E,q⟩:=h;obtain⟨u,B,rfl,f,k⟩:=vM r;cases(k);have e:=Bh X.K (tyD d) (AQ c) T E;have fin:∀j,EP X g A Q (.bool<|isT (tyD d) T) { s with toks:=j }:=λj=>#v[.bl<|isT (tyD d) T,H,I.tok j,rfl,q]
 cases d with
 | none =>simp only[b8]at c;subst c;exact bu I f .non e fin
 | bool b =>simp only[b8]at c;subst c;exact bu I f (.bl b) e fin
 | int i =>simp only[b8]at c;subst c;exact bu I f (.int i) e fin
 | str z =>simp only[b8]at c;subst c;exact bu I f (.str z) e fin
 | tuple G =>obtain⟨a,y,rfl,m,t⟩:=c.ofTup;cases(f);obtain⟨l,C,⟨o,w,v,n,F⟩,_⟩:=I.tuple m;exact Sr PySem.W.kitx_tuple I.kIn #v[_,w,v] e (λz=>nomatch z) fin
 | list G =>simp only[b8]at c;obtain⟨a,y,rfl,m,t⟩:=c;cases(f);obtain⟨l,C,p,_⟩:=I.list<|SqL.of m;obtain⟨o,w,v,n,F⟩:=p.isList;exact Sr Xa I.kIn #v[_,w,v] e (λz=>nomatch z) fin
 | dict D=>simp only[b8]at c
end
end
section
section
variable {K:Qf}
def uA {bs:List Bool}:(List.range bs.length).all (λi=>bs.getD i false)=bs.all id:=by
 induction bs with
 | nil=>rfl
 | cons b r a =>
  rw[QM,List.range_succ_eq_map,WW,Xg,WW];have:((λi=>(b::r).getD i false) ∘ Nat.succ) = λi=>r.getD i false:=by funext i;simp
  rw[this,a];rfl
def JF (K:Qf):List V->Hp->VK->Prop:=λb H Q=>∃(a:Xy) (bs:List Bool),b=[.ref a]/\SqL K H a (bs.map V.bl)/\Q (.bl<|bs.all id) H
def zT (hK:X.K=K)(hc:X.calm=true):D1 X (.builtin "all") (JF K):=by
 subst hK;intro m s z H B us Q I r h;obtain⟨a,bs,rfl,w,q⟩:=h;obtain⟨u,rfl,g⟩:=T3 r;cases g;obtain⟨c,l,p,E⟩:=I.list w;have d:c.length=bs.length:=by rw[<-l.length,QI]
 have k:a<s.heap.objs.size:=by obtain⟨o,e,_⟩:=p.isList;exact QJ e
 refine call_all_walk<|wpAny_pyIter_list p.isList ?_;have j:=QY k;refine#v[_,_,_,_,_,_,λi=>bs.getD i false,rfl,Walks.list (A:=X.A.in1) (I.ok.hd hc) _ a j c.toArray,#v[#v[_,QV _ rfl,rfl,rfl],?_],?_,λt C x=>?_]
 .exact p.isList.at λo e=>QE _ e
 .intro i v D G J f t;have f:c[i]? = some v:=by simpa using f
  obtain⟨F,_⟩:=QR.1 f;have y:(bs.map V.bl)[i]? = some (V.bl<|bs.getD i false):=by rw[Rc,QT<|by lia];simp[QT<|show i<bs.length by lia]
  obtain⟨u,n,g⟩:=l.get y;rw[f]at n;cases n;cases(g);exact SD t
 .refine#v[.bl<|bs.all id,H,I.kept λb o e=>x b o (by simp;exact QY<|QJ e)<|QE _ e,?_,q];show Xx.bool _=Xx.bool _;rw[Rb,d,uA]
end
end
section
section
variable {K:Qf}
def Jm (K:Qf):List V->Hp->VK->Prop:=λc H Q=>∃(a:Xy) (b:List Int),c=[.ref a]/\SqT K H a (b.map V.int)/\b≠[]/\∀m,m∈b->(∀n∈b,m<=n)->Q (.int m) H
def tV (hK:X.K=K)(hc:X.calm=true):D1 X (.builtin "min") (Jm K):=by
 subst hK;intro C s O H P us Q I r h;obtain⟨a,d,rfl,G,y,q⟩:=h;obtain⟨u,rfl,x⟩:=T3 r;cases x;obtain⟨c,B,p,S⟩:=I.tuple G;have g:c.length=d.length:=by rw[<-B.length,QI]
 have k:=Vh.2 y;have D:s.heap.IsTuple a c.toArray:=p;have m:a<s.heap.objs.size:=by obtain⟨o,e,_⟩:=p;exact QJ e
 have f:∀(i:Nat) v,c.toArray[i]? = some v->∃t,v = .int (d.getD i 0) t:=λi v w=>by
  have w:c[i]? = some v:=by simpa using w
  obtain⟨U,_⟩:=QR.1 w;have z:(d.map V.int)[i]? = some (V.int<|d.getD i 0):=by rw[Rc,QT<|by lia];simp[QT<|show i<d.length by lia]
  obtain⟨u,E,x⟩:=B.get z;rw[w]at E;cases E;exact x
 refine call_min_walk<|SU D ?_;have l:=QY m;refine#v[_,_,_,_,_,_,_,rfl,Walks.tuple (A:=X.A.in1) (I.ok.hd hc) _ a l c.toArray,#v[#v[_,QV _ rfl,rfl,rfl],?_],?_,?_,CmpOf.ints_lt (λi=>d.getD i 0) f,λv Y R M L=>?_]
 .exact D.at λo e=>QE _ e
 .intro b z;rw[RG];have:b=s.heap.objs.size\/b=a:=by simpa using z
  rcases this with e | e
  .rw[e];exact Sx _
  .rw[e];exact SK m
 .rw[Rb,g];exact k
 .obtain⟨W,N⟩:=argBest_lt (λi=>d.getD i 0)<|c.toArray.size-1;obtain⟨t,rfl⟩:=f _ v M;have F:c.toArray.size=d.length:=by rw[Rb,g]
  refine#v[.int _,H,I.kept λb o e=>L b o (by simp;exact QY<|QJ e)<|QE _ e,#v[t,rfl],q _ ?_ λn J=>?_]
  .exact getD_mem (by lia)
  .obtain⟨j,T,rfl⟩:=mem_getD J;exact N j (by lia)
end
end
end L2
namespace L2
open PySem PyProof.Rows
def Lx (κ:Nat->Int)(i j:Nat):Prop:=κ i < κ j\/(κ i = κ j/\i<j)
structure SB kd (a0:Array Ya) st:Prop where
 size:(arrOf st).size=a0.size
 kind:kindOf st=kd
 failed:failedOf st=none
 pend:pendingOf st = #[]

def SB.setArr {st} (h:SB kd a0 st)(hp:xs.size=(arrOf st).size):SB kd a0 (PyProof.Rows.setArr st xs):=#v[hp.trans h.size,h.kind,h.failed,h.pend]
structure SG kd a0 st (p:Nat->Nat):Prop where
 base:SB kd a0 st
 inj:∀i j,i<a0.size->j<a0.size->p i=p j->i=j
 at_:∀i,i<a0.size->(arrOf st)[i]? = a0[p i]?
 lt:∀i,i<a0.size->p i<a0.size
def gG (prog:XA)(w:XB)(A:XC)(s:Xz)(kd:SortKind)(a0:Array Ya)(κ:Nat->Int):Prop :=
 ∀i j x y,i≠j->a0[i]? = some x->a0[j]? = some y->∀E Q,Q (decide (κ i < κ j)) s->XR (model prog w) A (keyLt' kd x.1 y.1) Q E s
def SoK (κ:Nat->Int)(p:Nat->Nat)(n:Nat):Prop:=∀i j,i<=j->j<n->κ (p i) <= κ (p j)
def SoS (κ:Nat->Int)(p:Nat->Nat)(n:Nat):Prop:=(∀i j,i<j->j<n->Lx κ (p i) (p j))/\(∀i,n<=i->p i=i)/\∀i,i<n->p i<n

def SoS.sorted (h:SoS κ p n):SoK κ p n:=by
 intro i j b a;by_cases e:i=j
 .subst e;exact TV _
 .rcases h.1 i j (by lia) a with q | q
  .exact Sa q
  .exact Int.le_of_eq q.1
def SoS.more (h:SoS κ p n)(hnm:n<=m)(hs:SoK κ p m):SoS κ p m:=by
 refine#v[λi j b e=>?_,λi d=>h.2.1 i (by lia),λi d=>?_]
 .by_cases c:j<n
  .exact h.1 i j b c
  .have q:=hs i j (by lia) e;have f:=h.2.1 j (by lia);rcases WL q with q | q
   .exact .inl q
   .refine .inr #v[q,?_];rw[f];by_cases a:i<n
    .have:=h.2.2 i a;lia
    .rw[h.2.1 i<|by lia];exact b
 .by_cases a:i<n
  .have:=h.2.2 i a;lia
  .rw[h.2.1 i<|by lia];exact d

section

def mw {st}(g:SG kd a0 st p)(hL:gG prog w A s kd a0 κ)(hi:i<a0.size)(hj:j<a0.size)(hij:i≠j)
  (h:Q (some<|decide (κ (p i) < κ (p j))) st):wpS (model prog w) A E s (ltAt' i j) Q st:=by have f:=g.at_ i hi;have e:=g.at_ j hj;have d:=g.lt i hi;have c:=g.lt j hj;have b:=getElem?_pos a0 (p i) d;have a:=getElem?_pos a0 (p j) c;rw[ltAt'_eq];refine RP<|wpS_get ?_;show wpS _ _ _ _ (do let x <-elem' (arrOf st) i;let y <-elem' (arrOf st) j;lt' x y) Q st;rw[elem'_eq,elem'_eq,f,e,b,a];refine RP<|Sy<|RP<|Sy ?_;rw[lt'_eq];refine RP<|wpS_get ?_;rw[g.base.kind];refine RP (wpS_lift<|Uq<|hL _ _ _ _ (λz=>hij<|g.inj i j hi hj z) b a _ _ ?_);exact#v[rfl,Sy h]
def SG.bub {st}(g:SG kd a0 st p)(hk:k<a0.size)(hl:l<=k) :
  SG kd a0 (setArr st<|bubble (arrOf st) k<|k-l) (λi=>if i=l then p k else if l<i/\i<=k then p (i-1) else p i):=by
 refine#v[g.base.setArr<|bubble_size _ _ _,λi j a b e=>?_,λi a=>?_,λi a=>?_]
 .have q:=g.inj;try dsimp only at e
  repeat' split at e
  all_goals first
   | lia
   | (have:=q _ _ (by lia) (by lia) e;lia)
 .have e:=getElem?_bubble (by rw[g.base.size];exact hk) (k-l) (by simp[*] ) i;rw[show k-(k-l)=l by lia]at e;rw[e];repeat' split
  .exact g.at_ _ hk
  .exact g.at_ _ (by lia)
  .exact g.at_ _ a
 .try dsimp only
  repeat' split
  .exact g.lt _ hk
  .exact g.lt _ (by lia)
  .exact g.lt _ a
def SG.mir {st}(g:SG kd a0 st p)(hv:v<=a0.size) :
  SG kd a0 (setArr st<|mirror (arrOf st) u v<|(v-u) / 2) (λi=>if u<=i/\i<v then p (u+v-1-i) else p i):=by
 refine#v[g.base.setArr<|mirror_size _ _ _ _,λi j a b e=>?_,λi a=>?_,λi a=>?_]
 .have q:=g.inj;try dsimp only at e
  repeat' split at e
  all_goals first
   | lia
   | (have:=q _ _ (by lia) (by lia) e;lia)
 .have e:=getElem?_mirror_all (i:=u) (by rw[g.base.size];exact hv) i;rw[e];repeat' split
  .exact g.at_ _ (by lia)
  .exact g.at_ _ a
 .try dsimp only
  split
  .exact g.lt _ (by lia)
  .exact g.lt _ a
def tS {st}(hL:gG prog w A s kd a0 κ)(hn:n<=a0.size)(hok:ok<=n)(hB:SG kd a0 st p)(hs:SoS κ p ok)
  (h:∀st' p',SG kd a0 st' p'->SoS κ p' n->Q true st'):wpS (model prog w) A E s (binarySort' 0 n ok) Q st:=by
 rw[binarySort'_eq];simp only[Rx];refine RP (wpS_mono (Vp (I:=λk c st'=>c=(none,())/\∃p',SG kd a0 st' p'/\SoS κ p' (min k n))
  (Q:=λc st'=>c=(none,())/\∃p',SG kd a0 st' p'/\SoS κ p' n) ?step ?fin ?init) ?post)
 case post =>
  rintro c st' ⟨rfl,p',m,e⟩
  exact Sy<|h st' p' m e
 case init =>
  refine#v[rfl,p,hB,?_]
  by_cases u:ok=0
  .subst u
   refine hs.more (by simp[*] ) λi j F N=>?_
   have:i=j:=by lia
   subst this;exact TV _
  .rw[show min (max ok 1) n=ok by lia];exact hs
 case fin =>
  rintro c st' ⟨O,p',m,e⟩
  refine#v[O,p',m,?_]
  rwa [show min (max (max ok 1) n) n=n by lia]at e
 case step =>
  rintro k c st' P M ⟨rfl,p',t,d⟩
  rw[show min k n=k by lia]at d
  have H:k<a0.size:=by lia
  have e:=d.sorted
  have m:=t.base
  refine RP (wpS_mono (Vp (I:=λx c a=>a=st'/\∃l r,c=(none,l,r)/\l<=r/\r<=k/\r-l<=k-x /\
    (∀i,i<l->κ (p' i) <= κ (p' k))/\(∀i,r<=i->i<k->κ (p' k) < κ (p' i)))
   (Q:=λc a=>a=st'/\∃l r,c=(none,l,r)/\l<=k /\
    (∀i,i<l->κ (p' i) <= κ (p' k))/\(∀i,l<=i->i<k->κ (p' k) < κ (p' i))) ?istep ?ifin ?iinit) ?ipost)
  case iinit=>exact#v[rfl,0,k,rfl,by simp[*],by simp[*],by simp[*],λi y=>by lia,λi u z=>by lia]
  case ifin =>
   rintro c a ⟨rfl,l,r,rfl,C,o,L,f,g⟩
   have:l=r:=by lia
   subst this
   exact#v[rfl,l,l,rfl,o,f,g]
  case istep =>
   rintro x c a _ K ⟨rfl,l,r,rfl,C,o,L,f,g⟩
   by_cases v:l >= r
   .rw[QH v]
    have:l=r:=by lia
    subst this
    exact Sy #v[rfl,l,l,rfl,o,f,g]
   .rw[QK v]
    refine RP (mw t hL H (by lia) (by lia) ?_)
    by_cases b:κ (p' k) < κ (p'<|(l+r) / 2)
    .simp only[b]
     refine Sy #v[rfl,l,(l+r) / 2,rfl,by lia,by lia,by lia,f,λi u z=>?_]
     exact Int.lt_of_lt_of_le b<|e _ _ u z
    .simp only[b]
     refine Sy #v[rfl,(l+r) / 2+1,r,rfl,by lia,by lia,by lia,λi u=>?_,g]
     exact Xh (e i ((l+r) / 2) (by lia)<|by lia)<|Int.not_lt.1 b
  case ipost =>
   rintro c a ⟨rfl,l,r,rfl,D,f,g⟩
   rw[moveDown'_eq]
   refine RP<|wpS_modify<|Sy #v[rfl,_,t.bub H D,?_]
   rw[show min (k+1) n=k+1 by lia]
   have J:=d.2.1 k<|QP _
   have B:∀i,i<l->Lx κ (p' i) (p' k):=λi y=>by
    have q:=f i y;rcases WL q with q | q
    .exact .inl q
    .refine .inr #v[q,?_];rw[J];exact d.2.2 i (by lia)
   have G:∀i,l<=i->i<k->Lx κ (p' k) (p' i):=λi u z=>by have q:=g i u z;exact .inl q
   refine#v[λi j F N=>?_,λi y=>?_,λi y=>?_]
   .dsimp only
    repeat' split
    all_goals first
     | (exfalso;lia)
     | exact B _ (by lia)
     | exact G _ (by lia) (by lia)
     | exact d.1 _ _ (by lia) (by lia)
   .dsimp only
    rw[QK (by lia),QK<|by lia]
    exact d.2.1 i (by lia)
   .dsimp only
    repeat' split
    .rw[J];lia
    .have:=d.2.2 (i-1) (by lia);lia
    .have:=d.2.2 i (by lia);lia
def yD {st}(hL:gG prog w A s kd a0 κ)(hn:nrem<=a0.size)(ha:1<=a)(han:a<=nrem)(hG:SG kd a0 st p)
  (hs:SoK κ p a)
  (h:∀n,a<=n->n<=nrem->SoK κ p n->(n=nrem \/ κ (p n) < κ (p<|n-1))->Q (none,n) st) :
  wpS (model prog w) A E s (ascLoop a nrem) Q st:=by
 refine Vp (I:=λx c e=>e=st/\c=(none,x)/\SoK κ p x) ?step ?fin #v[rfl,rfl,hs];case fin =>
  rintro c e ⟨rfl,rfl,d⟩
  rw[show max a nrem=nrem by simp[*] ]at d ⊢
  exact h nrem han (QP _) d<|.inl rfl
 case step =>
  rintro x c e m o ⟨rfl,rfl,d⟩
  refine RP (mw hG hL (by lia) (by lia) (by lia) ?_)
  by_cases b:κ (p x) < κ (p<|x-1)
  .simp only[b]
   exact Sy (h x m (by lia) d<|.inr b)
  .simp only[b]
   refine Sy #v[rfl,rfl,λi j k q=>?_]
   by_cases f:j<x
   .exact d i j k f
   .have g:j=x:=by lia
    subst g
    by_cases l:i=j
    .subst l;exact TV _
    .exact Xh (d i (j-1) (by lia)<|by lia)<|Int.not_lt.1 b
def DoS (κ:Nat->Int)(p:Nat->Nat)(n:Nat):Prop:=(∀i j,i<j->j<n->Lx κ (p j) (p i))/\(∀i,n<=i->p i=i)/\∀i,i<n->p i<n
def mU {st}(hL:gG prog w A s kd a0 κ)(hn:nrem<=a0.size)(h1:1<=n)(hnn:n<=nrem)(hB:SG kd a0 st p)
  (hs:DoS κ p n) (h:∀m st' p',SG kd a0 st' p'->1<=m->m<=nrem->SoS κ p' m->Q (some m) st') :
  wpS (model prog w) A E s (tail3 n nrem) Q st:=by
 refine RP<|wpS_reverse ?_;have f:=hB.mir (u:=0) (v:=n) (by lia);have e:SoS κ (λi=>if 0<=i/\i<n then p (0+n-1-i) else p i) n:=by
  refine#v[λi j g k=>?_,λi d=>?_,λi d=>?_]
  .dsimp only;rw[QH (by lia),QH<|by lia];exact hs.1 _ _ (by omega ) (by lia)
  .dsimp only;rw[QK<|by simp[*] ];exact hs.2.1 i d
  .dsimp only;rw[QH<|by lia];exact hs.2.2 _ (by lia)
 exact RP (yD hL hn h1 hnn f e.sorted λm c b a _=>Sy<|h m _ _ f (by lia) b<|e.more c a)
def GoS (κ:Nat->Int)(p:Nat->Nat)(g n:Nat):Prop :=
 DoS κ p g/\g<n/\(∀i,g<=i->i<n->κ i = κ (n-1))/\∀i,i<g->κ (n-1) < κ (p i)
def GoS.close {st}(hG:SG kd a0 st p)(h:GoS κ p g n)(hn:n<=a0.size):DoS κ (λi=>if g<=i/\i<n then p (g+n-1-i) else p i) n:=by
 obtain⟨a,hg,c,hl⟩:=h;refine#v[λi j b e=>?_,λi d=>?_,λi d=>?_]
 .dsimp only;by_cases k:g<=i
  .rw[QH (by lia),QH (by lia),a.2.1 _ (by lia),a.2.1 _<|by lia];refine .inr #v[?_,by lia];rw[c _ (by lia) (by lia),c (g+n-1-i) (by lia)<|by lia]
  .by_cases f:g<=j
   .rw[QH (by simp[*] ),QK (by lia),a.2.1 _<|by lia];refine .inl ?_;rw[c _ (by lia)<|by lia];exact hl i (by lia)
   .rw[QK (by lia),QK<|by lia];exact a.1 i j b (by lia)
 .dsimp only;rw[QK<|by lia];exact a.2.1 i (by lia)
 .dsimp only;split
  .rw[a.2.1 _<|by lia];lia
  .have:=a.2.2 i (by lia);lia
def GoS.close1 (h:GoS κ p g n)(e:n=g+1):DoS κ p n:=by
 obtain⟨b,hg,k,hl⟩:=h;subst e;refine#v[λi j a f=>?_,λi d=>b.2.1 i (by lia),λi d=>?_]
 .by_cases c:j<g
  .exact b.1 i j a c
  .have:j=g:=by lia
   subst this;rw[b.2.1 j<|QP _];exact .inl<|hl i a
 .by_cases c:i<g
  .have:=b.2.2 i c;lia
  .rw[b.2.1 i<|by lia];exact d
def Bn {st}(hL:gG prog w A s kd a0 κ)(hn:nrem<=a0.size)(h1:1<=n)(hnn:n<=nrem)(hB:SG kd a0 st p)
  (hs:GoS κ p (n-1) n)
  (h:∀m neq st' p',SG kd a0 st' p'->n<=m->m<=nrem->neq+1<=m->GoS κ p' (m-(neq+1)) m->Q (none,m,neq) st') :
  wpS (model prog w) A E s (descLoop n nrem) Q st:=by
 refine Vp (I:=λx c st'=>∃neq p',c=(none,x,neq)/\SG kd a0 st' p'/\neq+1<=x/\GoS κ p' (x-(neq+1)) x) ?step ?fin #v[0,p,rfl,hB,by omega,hs];case fin =>
  rintro c st' ⟨neq,p',rfl,e,q,a⟩
  rw[show max n nrem=nrem by simp[*] ]at q a ⊢
  exact h nrem neq st' p' e hnn (QP _) q a
 case step =>
  rintro x c st' t C ⟨neq,p',rfl,e,q,a⟩
  refine RP (mw e hL (by lia) (by lia) (by lia) ?_)
  have B:=a.1.2.1 x (by simp[*] )
  have z:=a.1.2.1 (x-1) (by lia)
  rw[B,z]
  have put:∀{o},κ x < κ (x-1)->DoS κ o x->(∀i,i<x->κ (x-1) <= κ (o i))->GoS κ o (x+1-(0+1)) (x+1):=by
   intro o b d F;rw[show x+1-(0+1)=x by simp[*] ];refine#v[d,by simp[*],λi h1 D=>?_,λi k=>?_]
   .rw[show i=x by lia];rfl
   .exact Int.lt_of_lt_of_le b<|F i k
  have l:=λi k=>by
   by_cases hg:i<x-(neq+1)
   .exact Sa<|a.2.2.2 i hg
   .rw[a.1.2.1 i<|by lia];exact Int.le_of_eq (a.2.2.1 i (by lia) k).symm
  by_cases b:κ x < κ (x-1)
  .simp only[b]
   by_cases g:neq > 0
   .rw[QH g]
    have y:=e.mir (u:=x-(neq+1)) (v:=x) (by lia)
    refine RP (wpS_reverse<|Sy #v[0,_,rfl,y,by lia,put b (a.close e<|by lia) λi k=>?_])
    try dsimp only
    split
    .exact l _ (by lia)
    .exact l _ k
   .rw[QK g]
    exact Sy #v[0,p',rfl,e,by lia,put b (a.close1<|by lia) l]
  .simp only[b]
   refine RP (mw e hL (by lia) (by lia) (by lia) ?_)
   rw[B,z]
   by_cases f:κ (x-1) < κ x
   .simp only[f]
    exact Sy (h x neq st' p' e t (by lia) q a)
   .simp only[f]
    have j:κ x = κ (x-1):=by lia
    refine Sy #v[neq+1,p',rfl,e,by lia,?_]
    rw[show x+1-(neq+1+1)=x-(neq+1) by lia]
    refine#v[a.1,by lia,λi h1 D=>?_,λi k=>?_]
    .rw[show x+1-1=x by lia]
     by_cases r:i=x
     .subst r;rfl
     .rw[j];exact a.2.2.1 i h1 (by lia)
    .rw[show x+1-1=x by lia,j];exact a.2.2.2 i k
def fA {st}(hL:gG prog w A s kd a0 κ)(hn:nrem<=a0.size)(hnn:n+1<=nrem)(hB:SG kd a0 st p)
  (hs:GoS κ p n (n+1)) (h:∀m st' p',SG kd a0 st' p'->1<=m->m<=nrem->SoS κ p' m->Q (some m) st') :
  wpS (model prog w) A E s (descPart n nrem) Q st:=by
 refine RP<|wpS_lift<|Th #v[rfl,?_];refine RP (Bn hL hn (by simp[*] ) hnn hB hs λm e st' p' b f c g d=>?_);by_cases a:e > 0
 .rw[QH a];exact RP (wpS_reverse<|mU hL hn (by lia) c (b.mir<|by lia) (d.close b<|by lia) h)
 .rw[QK a];exact mU hL hn (by lia) c b (d.close1<|by lia) h
def Af {st}(hL:gG prog w A s kd a0 κ)(hn:nrem<=a0.size)(h1:1<=nrem)(hB:SG kd a0 st id)
  (h:∀m st' p',SG kd a0 st' p'->1<=m->m<=nrem->SoS κ p' m->Q (some m) st') :
  wpS (model prog w) A E s (countRun' 0 nrem) Q st:=by
 rw[countRun0_eq];have r:SoS κ id 0:=#v[λi j _ q=>by lia,λi _=>rfl,λi f=>by simp[*] ];have one:SoK κ id 1:=λi j o q=>by
  have:i=j:=by lia
  subst this;exact TV _
 refine RP (yD hL hn (QP 1) h1 hB one λn l g c hor=>?_);dsimp only;by_cases d:n=nrem
 .rw[QH<|by simpa using d];exact Sy (h n st id hB l g<|r.more (by lia) c)
 .rw[QK<|by simpa using d];have e:=hor.resolve_left d;by_cases p:n > 1
  .rw[QH p];refine RP (mw hB hL (by lia) (by lia) (by lia) ?_);simp only[id];by_cases a:κ 0 < κ (n-1)
   .simp only[a];exact Sy (h n st id hB l g<|r.more (by lia) c)
   .simp only[a];have b:∀j,j<n->κ j = κ (n-1):=by intro j t;have x:κ 0 <= κ j:=c 0 j (by lia) t;have v:κ j <= κ (n-1):=c j (n-1) (by lia) (by lia);lia
    refine RP (wpS_reverse<|fA hL hn (by lia) (hB.mir<|by lia) ?_ h);refine#v[#v[λi j o q=>?_,λi f=>?_,λi f=>?_],by lia,λi h1 u=>?_,λi f=>?_]
    .dsimp only;rw[QH (by lia),QH<|by lia];refine .inr #v[?_,by simp only[id];lia];simp only[id];rw[b _ (by lia),b (0+n-1-i)<|by lia]
    .dsimp only;rw[QK<|by lia];rfl
    .dsimp only;rw[QH<|by lia];simp only[id];lia
    .rw[show i=n by lia];rfl
    .dsimp only;rw[QH<|by lia];simp only[id]at e ⊢;rw[b (0+n-1-i) (by lia),show n+1-1=n by lia];exact e
  .rw[QK p];have k:n=1:=by lia
   subst k;refine fA hL hn (by lia) hB #v[#v[λi j o q=>by lia,λi f=>rfl,λi f=>f],by lia,λi h1 u=>?_,λi f=>?_] h
   .rw[show i=1 by lia]
   .rw[show i=0 by lia];exact e
def qv (κ:Nat->Int)(a0:Array Ya)(st:SortSt):Prop :=
 failedOf st=none/\pendingOf st = #[(0,a0.size,0)]/\(arrOf st).size=a0.size/\∃p,(∀i,i<a0.size->(arrOf st)[i]? = a0[p i]?)/\SoS κ p a0.size
def SG.done {st}(g:SG kd a0 st p)(h:SoS κ p a0.size):qv κ a0 (setPending st<|(pendingOf st).push (0,a0.size,0)) :=
 #v[g.base.failed,by rw[g.base.pend];rfl,g.base.size,p,g.at_,h]
def Cn {st}(hL:gG prog w A s kd a0 κ)(hB:SG kd a0 st id)(h2:2<=a0.size)(h64:a0.size<64)
  (h:∀st',failedOf st'=none->(arrOf st').size=a0.size->(∃p,(∀i,i<a0.size->(arrOf st')[i]? = a0[p i]?)/\SoS κ p a0.size)->Q () st'):wpS (model prog w) A E s sortRuns' Q st:=by
 rw[sortRuns'_eq];refine RP<|wpS_get ?_;have o:minRun' a0.size a0.size 0=a0.size:=by
  obtain⟨f,C⟩:∃f,a0.size=f+1:=#v[a0.size-1,by lia];have:minRun' (f+1) a0.size 0=a0.size:=by rw[minRun'_succ,QH h64];rfl
  rwa [<-C]at this
 simp only[hB.base.size,o];refine RP (wpS_mono (Vp
  (I:=λx c st'=>(x=0/\c=(none,0)/\SG kd a0 st' id)\/(1<=x/\c=(none,a0.size)/\qv κ a0 st'))
  (Q:=λc st'=>c=(none,a0.size)/\qv κ a0 st') ?step ?fin (.inl #v[rfl,rfl,hB])) ?post)
 case fin =>
  rintro c st' (⟨v,_,_⟩ | ⟨_,D,b⟩)
  .omega
  .exact#v[D,b]
 case step =>
  rintro x c st' _ v (⟨rfl,rfl,t⟩ | ⟨u,rfl,b⟩)
  .rw[QK<|by lia]
   simp only[Nat.sub_zero,Nat.min_self,Rx]
   refine RP (Af hL (QP _) (by lia) t λm l G d y q e=>?_)
   dsimp only
   by_cases g:m<a0.size
   .rw[QH g]
    refine RP<|wpS_lift<|Th #v[rfl,?_]
    refine RP (tS hL (QP _) q d e λk F j n=>?_)
    simp only[To]
    refine RP<|wpS_get ?_
    have r:(pendingOf k).back? = none:=by rw[j.base.pend];rfl
    rw[r]
    exact RP (wpS_modify<|Sy<|.inr #v[by lia,rfl,j.done n])
   .rw[QK g]
    have z:m=a0.size:=by lia
    subst z
    refine RP<|wpS_get ?_
    have r:(pendingOf l).back? = none:=by rw[d.base.pend];rfl
    rw[r]
    exact RP (wpS_modify<|Sy<|.inr #v[by lia,rfl,d.done e])
  .rw[QH<|QP _]
   exact Sy #v[rfl,b]
 case post =>
  rintro c st' ⟨rfl,b⟩
  refine RP (wpS_mono (Vp (I:=λ_ c a=>a=st'/\c=(none,())) ?_ (λ_ _ B=>B) #v[rfl,rfl]) ?_)
  .rintro x c a _ _ ⟨rfl,rfl⟩
   refine RP<|wpS_get ?_
   rw[QH (by rw[b.2.1];exact QP 1)]
   exact Sy #v[rfl,rfl]
  .rintro c a ⟨rfl,rfl⟩
   exact Sy<|h _ b.1 b.2.2.1 b.2.2.2
end
end L2
namespace L2
open PySem PySem.Spec PyProof.Rows PySem.W
section
def cdO (c:Xy)(q:Str):HO:=.ext λh=>h.CodeRec (.ref c) q
def IE (H:Hp)(P:Xy)(q:Str):Prop:=∃a,H P=some (.tbl a)/\TriplesOk a.toList/\∀b d,codeAmong b a.toList=some d->∃c,d = .ref c/\H c=some (cdO c q)
def BMd (base:XH)(mg:Str->Option Xx):Prop:=∃b a,mg "__builtins__" = some (.ref b)/\b≠builtinsNs/\base.get? b=some a/\a.cls = .type "module" /\ a.dict=some builtinsNs/\a.data = .plain
end
section
def uN:V->Int
 | .int i=>i
 | .bl b=>if b then 1 else 0
 | _=>0
def je (ks:List V)(i:Nat):Int:=uN<|ks.getD i .non
def Dw (ks xs ys:List V):Prop:=ys.length=xs.length/\∃p,SoS (je ks) p xs.length/\∀i,i<xs.length->ys[i]? = xs[p i]?
end
section
def atl {α:Type}(a:Array α):a.toList.length=a.size:=RS
end
section
section

def ll (ho:s.heap.get? a=some (seqObj "list" vs.toArray n))(h64:vs.length<64)
  (hkind:2<=vs.length->∀h' Q,(∀b o,b≠a->s.heap.get? b=some o->h'.get? b=some o)->Q kd { s with heap:=h' }->XR (model prog w) A (keyKind' vs.toArray) Q E { s with heap:=h' })
  (hlt:∀h',(∀b o,b≠a->s.heap.get? b=some o->h'.get? b=some o)->gG prog w A { s with heap:=h' } kd (pairsOf vs) κ)
  (h:∀out p,out.size=vs.length->(∀i,i<vs.length->out.toList[i]? = vs[p i]?)->SoS κ p vs.length->P (.done<|.ret .none) { s with heap:=sortedHeap s.heap a vs out }) :
  XR (model prog w) A (Builtin.«list.sort» #v[[.ref a],[]]) P E s:=by
 rw[list_sort_plain];have v:a<s.heap.objs.size:=QJ ho;refine QD<|listItems_at ho rfl ?_;refine QD (listUpdate_at ho rfl ?_ (by rw[Rb,Ry];lia)<|Sb _);obtain⟨f,q⟩:∃f,(s.heap.update a<|XM.mapSeq λ_=>#[]).get? a=some (seqObj "list" #[] f):=#v[_,get?_update_seq ho<|λ_=>#[]];refine QD<|seqEpoch_at q rfl ?_;refine QD (wpAny_newTuple ?_ (by show vs.length<=_;rw[Ry];lia));refine QD<|wpAny_newList ?_<|Sb _;refine Sq ?_;have d:(((s.heap.update a<|XM.mapSeq λ_=>#[]).push<|seqObj "tuple" vs.toArray 0).push<|seqObj "list" #[] 0).get? a=some (seqObj "list" #[] f):=by rw[XH.get?_push_ne _ _ _ (by rw[size_push',VX];exact QY<|SK v),XH.get?_push_ne _ _ _ (by rw[VX];exact QY v)];exact q
 have s1:=UD s.heap a (XM.mapSeq λ_=>(#[]:Array Xx));have kept:∀b o,b≠a->s.heap.get? b=some o->(((s.heap.update a<|XM.mapSeq λ_=>#[]).push<|seqObj "tuple" vs.toArray 0).push<|seqObj "list" #[] 0).get? b=some o:=λb o y e=>QE _<|QE _<|(s1.2 b y).trans e
 show XR (model prog w) A _ P E { s with heap:=((s.heap.update a<|XM.mapSeq λ_=>#[]).push<|seqObj "tuple" vs.toArray 0).push (seqObj "list" #[] 0) };dsimp only;have m:vs.toArray.size=vs.length:=by simp
 have fin:∀(c:SortSt) (p:Nat->Nat),(arrOf c).size=vs.length->(∀i,i<vs.length->(arrOf c)[i]? = (pairsOf vs)[p i]?)->SoS κ p vs.length->P (.done<|.ret .none) { s with heap:=sortedHeap s.heap a vs ((arrOf c).map (·.2)) }:=by intro c p l t r;refine h _ p (by rw[Array.size_map];exact l) (λi g=>?_) r;rw[Tt,Array.getElem?_map,t i g,<-Tt,pairsOf_toList];have u:=r.2.2 i g;have f:vs[p i]? = some vs[p i]:=QT u;rw[show(vs.zip vs)[p i]? = some (vs[p i],vs[p i]) from Vm.2 #v[f,f],f];rfl
 by_cases k:vs.toArray.size<2
 .rw[QH k,QH k];refine QD<|QF ?_;rw[StateT.run_pure];refine QD<|QF ?_;refine QD<|seqEpoch_at d rfl ?_;refine QD (listUpdate_at d rfl ?_ (hsz2:=by rw[Array.size_map];show(pairsOf vs).size<=_;rw[Wm,Ry];lia));simp only[bne_self_eq_false,Ro];rw[m]at k;exact QF (fin (SortSt.mk' general' (vs.toArray.zip vs.toArray) #[] 7 none) id (Wm vs) (λi _=>rfl) #v[λi j G F=>by lia,λi _=>rfl,λi g=>g])
 .rw[QK k,QK k];rw[m]at k;refine QD (hkind (by lia) _ _ kept ?_);refine QD (Rj (Cn (st:=SortSt.mk' kd (vs.toArray.zip vs.toArray) #[] 7 none)
   (Q:=λ_ c=>failedOf c=none/\(arrOf c).size=(pairsOf vs).size/\∃p,(∀i,i<(pairsOf vs).size->(arrOf c)[i]? = (pairsOf vs)[p i]?)/\SoS κ p (pairsOf vs).size)
   (hlt _ kept) #v[#v[rfl,rfl,rfl,rfl],λi j _ _ e=>e,λi _=>rfl,λi g=>g] (by rw[Wm];lia) (by rw[Wm];exact h64) λc C B z=>#v[C,B,z]) ?_ λ_ _ e=>e)
  rintro ⟨⟨⟩,c⟩ D ⟨rfl,x,l,p,t,r⟩;rw[Wm]at l t r;refine QD<|seqEpoch_at d rfl ?_;refine QD (listUpdate_at d rfl ?_ (hsz2:=by rw[Array.size_map,l,Ry];lia));rw[x];simp only[bne_self_eq_false,Ro];exact QF<|fin c p l t r
end
end
end L2
namespace L2
def cx {α:Type}(p:Int × α):List (Int × α)->List (Int × α)
 | []=>[p]
 | q::r=>if p.1<=q.1 then p::q::r else q::cx p r
def O8 :List (Int × α)->List (Int × α)
 | []=>[]
 | p::r=>cx p<|O8 r
theorem mX (f:α->β)(p):∀l,cx (p.1,f p.2) (l.map λq=>(q.1,f q.2))=(cx p l).map λq=>(q.1,f q.2)
 | []=>rfl
 | q::r=>by
  simp only[QL,cx];split
  .rfl
  .rw[QL,mX f p r]
theorem cB (f:α->β):∀l,O8 (l.map λq=>(q.1,f q.2))=(O8 l).map λq=>(q.1,f q.2)
 | []=>rfl
 | p::r=>by rw[QL,O8,O8,cB f r];exact mX f p _
theorem eK (p):∀l:List (Int × α),(cx p l).Perm (p::l)
 | []=>.refl _
 | q::r=>by
  rw[cx];split
  .exact .refl _
  .exact((eK p r).cons q).trans<|.swap p q r
theorem W9 :∀l:List (Int × α),(O8 l).Perm l
 | []=>.refl _
 | p::r=>(eK p _).trans<|(W9 r).cons p
def LxP (a b:Int×Nat):Prop:=a.1<b.1\/(a.1=b.1/\a.2<b.2)
theorem sO :∀{l},l.Pairwise LxP->(∀q∈l,p.2<q.2)->(cx p l).Pairwise LxP
 | [],_,_=>by simp[cx]
 | q::r,h,hl=>by
  rw[Tu]at h;rw[cx];split
  .rename_i b;refine Tu.2 #v[λz a=>?_,Tu.2 h];have c:LxP p q:=by
    rcases WL b with e | e
    .exact .inl e
    .exact .inr #v[e,hl q QN]
   rcases QQ.1 a with rfl | a
   .exact c
   .have f:=h.1 z a;unfold LxP at c f ⊢;lia
  .rename_i d;refine Tu.2 #v[λz a=>?_,sO h.2 λz a=>hl z<|QG _ a];rcases QQ.1 ((eK p r).mem_iff.mp a) with rfl | a
   .exact .inl (by lia)
   .exact h.1 z a
theorem jB:∀{l},l.Pairwise (λa b=>a.2<b.2)->(O8 l).Pairwise LxP
 | [],_=>.nil
 | p::r,h=>by rw[Tu]at h;exact sO (jB h.2) λq c=>h.1 q<|(W9 r).mem_iff.mp c
theorem js:∀{l₁ l₂:List (Int×Nat)},l₁.Perm l₂->l₁.Pairwise LxP->l₂.Pairwise LxP->l₁=l₂
 | [],l₂,p,_,_=>p.nil_eq
 | a::r,[],p,_,_=>by have:=p.length_eq;simp at this
 | a::r,b::t,p,h1,h2=>by
  rw[Tu]at h1 h2;have g:a=b:=by
   rcases QQ.1 (p.mem_iff.1<|QN (l:=r)) with e | e
   .exact e
   .rcases QQ.1 (p.mem_iff.2<|QN (l:=t)) with c | c
    .exact c.symm
    .have f:=h2.1 a e;have d:=h1.1 b c;unfold LxP at f d;lia
  subst g;rw[js (p.cons_inv) h1.2 h2.2]
theorem gO:∀n (l:List Nat),l.Nodup->(∀x∈l,x<n)->l.length=n->l.Perm (List.range n)
 | 0,l,_,_,hl=>by rw[UF.1 hl];exact .refl _
 | n+1,l,d,f,hl=>by
  have c:∀m (l:List Nat),l.Nodup->(∀x∈l,x<m)->l.length<=m:=by
   intro m;induction m with
   | zero =>
    intro l _ f;cases l with
    | nil=>simp
    | cons a r=>exact absurd (f a QN) (by lia)
   | succ m h =>
    intro l d f;by_cases g:m∈l
    .have e:=h (l.erase m) (d.erase m) λx b=>by
      have j:=f x<|List.mem_of_mem_erase b;have i:x≠m:=λz=>by subst z;exact(List.Nodup.not_mem_erase d) b
      lia
     rw[List.length_erase_of_mem g]at e;lia
    .have e:=h l d λx b=>by
      have j:=f x b;have i:x≠m:=λz=>g<|z▸b
      lia
     lia
  have k:n∈l:=by
   by_cases g:n∈l
   .exact g
   .have e:=c n l d λx b=>by
     have j:=f x b;have i:x≠n:=λz=>g<|z▸b
     lia
    lia
  have h:=gO n (l.erase n) (d.erase n) (λx b=>by
   have j:=f x<|List.mem_of_mem_erase b;have i:x≠n:=λz=>by subst z;exact(List.Nodup.not_mem_erase d) b
   lia) (by rw[List.length_erase_of_mem k];simp[*] )
  refine(List.perm_cons_erase k).trans<|(h.cons n).trans ?_;rw[List.range_succ];exact(List.perm_append_singleton n<|List.range n).symm
def xR (h:Dw ks xs ys)(hl:ks.length=xs.length):ys=(O8<|(ks.map uN).zip xs).map Prod.snd:=by
 obtain⟨o,p,d,g⟩:=h;generalize hn:xs.length=n at o d g hl;have m:((List.range n).map p).Nodup:=by
  rw[List.nodup_iff_pairwise_ne,Uv];intro i j b f a;have c:j<n:=by simpa using f
  simp only[TN,Vq];intro e;have q:=d.1 i j a c;rw[e]at q;unfold Lx at q;lia
 have pr:=gO n ((List.range n).map p) m (λx r=>by obtain⟨i,b,rfl⟩:=Rt.1 r;exact d.2.2 i<|Vx.1 b) (by simp)
 have l:(((List.range n).map p).map λi=>(je ks i,i)).Pairwise LxP:=by
  rw[Uv];intro i j b f a;have c:j<n:=by simpa using f
  simp only[TN,Vq];exact d.1 i j a c
 have k:(O8<|(List.range n).map λi=>(je ks i,i)).Pairwise LxP:=jB (by rw[Uv];intro i j b f a;simpa using a)
 have e:=js ((pr.map λi=>(je ks i,i)).trans (W9 _).symm) l k;have v:(ks.map uN).zip xs=((List.range n).map λi=>(je ks i,i)).map λq=>(q.1,xs.getD q.2 .non):=by
  refine List.ext_getElem? λi=>?_
  rw[Rq];by_cases b:i<n
  .have u:(ks.map uN)[i]? = some (je ks i):=by rw[Rc];unfold je;rw[Rl,QT<|by lia];rfl
   have t:xs[i]? = some (xs.getD i .non):=by rw[Rl,QT<|by lia];rfl
   rw[show((ks.map uN).zip xs)[i]? = some (je ks i,xs.getD i .non) from Vm.2 #v[u,t],Rc,Tc b];rfl
  .rw[SS (by rw[List.length_zip,QI];lia),SS (by simp;lia)]
 rw[v,cB<|λi=>xs.getD i .non,<-e,Rq,Rq,Rq];refine List.ext_getElem? λi=>?_
 by_cases b:i<n
 .rw[g i b,Rc,Tc b];have s:=d.2.2 i b;show xs[p i]? = some (xs.getD (p i) .non);rw[Rl,QT<|by simp[*] ];rfl
 .rw[SS (by lia),SS (by simp;lia)]
end L2
namespace L3
open PySem
section
open Sem (wp)
structure SubKind prog w K [DecidableEq K] extends HeapKind prog w K where
 deep:Nat
 quietN:∀{A} {E} {s} {k} {a} {n} {Q},deep<=n->is s.heap k a->Q true s->XR (model prog w) A (eqIsQuiet n<|.ref a) Q E s
section
variable {K K2:Type}[DecidableEq K][DecidableEq K2](knd:KeyKind prog w K)(sub:SubKind prog w K2)(p:Nat->Bool)
inductive ItemsN (h:XH):Nat->List (K ⊕ K2)->List Xx->Prop
 | nil {j:Nat}:ItemsN h j [] []
 | val {j:Nat} {k:K} {v:Xx} {ks:List (K ⊕ K2)} {vs:List Xx}:p j=false->knd.is k v=true->ItemsN h (j+1) ks vs->ItemsN h j (.inl k::ks) (v::vs)
 | ref {j:Nat} {k:K2} {a:Xy} {ks:List (K ⊕ K2)} {vs:List Xx}:p j=true->sub.is h k a->ItemsN h (j+1) ks vs->ItemsN h j (.inr k::ks) (.ref a::vs)
def N7 (h:XH)(ks:List (K ⊕ K2))(a:Xy):Prop:=∃o items n,h.get? a=some o/\o.cls = .type "tuple" /\ o.data = .seq items n/\ItemsN knd sub p h 0 ks items.toList
variable {knd sub p}
def ItemsN.inj {vs} (hx:ItemsN knd sub p h j x vs)(hy:ItemsN knd sub p h j y vs):x=y:=by
 induction hx generalizing y with
 | nil=>cases hy;rfl
 | val e f _ d =>
  cases hy with
  | val a c b=>rw[knd.inj _ _ _ f c,d b]
  | ref a c b=>rw[e]at a;cases a
 | ref e f _ d =>
  cases hy with
  | val a c b=>rw[e]at a;cases a
  | ref a c b=>rw[sub.inj f c,d b]
def N7.typeIs {s:Xz}(x:N7 knd sub p s.heap ks a):s.TypeIs (.ref a) "tuple":=let #v[o,_,_,b,c,_]:=x;#v[o,b,c]
def N7.inj {x y} (hx:N7 knd sub p h x a)(hy:N7 knd sub p h y a):x=y:=by
 obtain⟨o,items,n,g,_,j,i⟩:=hx;obtain⟨f,c,l,d,_,b,e⟩:=hy;obtain rfl:=QU<|g.symm.trans d;rw[j]at b;injection b with k _
 subst k;exact i.inj e
def ItemsN.keeps {d}{o}{es ep}{j}{ks}{vs} (x:ItemsN knd sub p h j ks vs)(ho:h.get? d=some o)(hd:o.data = .dict es ep)(hs:XH.SameBut d h h'):ItemsN knd sub p h' j ks vs:=by
 induction x with
 | nil=>exact .nil
 | val b c _ a=>exact .val b c a
 | ref b c _ a=>exact .ref b (sub.keeps c ho hd hs) a
def N7.keeps {ks}{a d}{o}{es ep}(x:N7 knd sub p h ks a)(ho:h.get? d=some o)(hd:o.data = .dict es ep)(hs:XH.SameBut d h h'):N7 knd sub p h' ks a:=by
 obtain⟨f,items,n,c,i,b,g⟩:=x;have e:a≠d:=by rintro rfl;obtain rfl:=QU<|c.symm.trans ho;rw[hd]at b;exact nomatch b
 exact#v[f,items,n,(hs.2 a e).trans c,i,b,g.keeps ho hd hs]
def fz (knd:KeyKind prog w K)(sub:SubKind prog w K2):K ⊕ K2->Int
 | .inl k=>knd.hash k
 | .inr k=>sub.hash k
def gJ (sub:SubKind prog w K2):K ⊕ K2->Nat
 | .inl _=>1
 | .inr k=>sub.draws k
def aY (knd:KeyKind prog w K)(sub:SubKind prog w K2)(ks:List (K ⊕ K2)):Int:=reduceHash<|Builtin.Tuple.tupleHashOf<|ks.map<|fz knd sub

def oh (hu:A.units<XZ)(hr:sub.room A.in1)(hk:N7 knd sub p s.heap ks a)(h:Q (aY knd sub ks) { s with toks:=s.toks+((ks.map<|gJ sub).sum+1) }) :
  XR (model prog w) A (PySem.pyHash<|.ref a) Q E s:=by
 have g:=hk.typeIs;obtain⟨o,items,n,m,_,r,q⟩:=hk;first | unfold pyHashByItsType | skip
 first | refine QD (wpAny_cRoomFor_or (.inr hu) ?_) | skip
 refine QD<|TB g VI.lookup ?_;rw[QK (by rw[beq_builtin_none];exact Ri)];refine QD<|TB g VI.lookup ?_;refine QD<|Vb g VI<|RO VI g F.entry_tuple_hash ?_<|F.args_tuple_hash_1 _;show XR _ _ (Builtin.Tuple.tupleItemsOf (.ref a) >>= _) _ _ s;refine QD<|WM m r ?_;refine QD ?_;rw[<-Array.forIn_toList];refine VY _
  (λc b i=>∃done left,ks=done++left/\ItemsN knd sub p s.heap done.length left c/\b.toList=done.map (fz knd sub)/\i={ s with toks:=s.toks+(done.map<|gJ sub).sum })
  _ ?_ ?_ _ _ #v[[],ks,rfl,q,rfl,rfl]
 .rintro x c b i ⟨done,left,rfl,hl,f,rfl⟩;cases hl with
  | @val _ k _ d _ l j e =>refine QD<|knd.pyHash j ?_;exact QF #v[done++[.inl k],d,by simp,by simpa using e,by simp[f,fz],by simp[WX,gJ]]
  | @ref _ k a d _ l j e =>refine QD<|sub.pyHash hr j ?_;exact QF #v[done++[.inr k],d,by simp,by simpa using e,by simp[f,fz],by simp[WX,gJ]]
 .rintro b i ⟨done,left,rfl,hl,f,rfl⟩;cases hl;rw[Sd]at h;show XR _ _ (retInt<|Builtin.Tuple.tupleHashOf b.toList) _ _ _;rw[f];refine wpAny_ret_mkInt ?_;show XR _ _ (if (decide (-(2) ^ 63<=Builtin.Tuple.tupleHashOf (done.map<|fz knd sub))&&decide (Builtin.Tuple.tupleHashOf (done.map<|fz knd sub)<2 ^ 63))=true then _ else _) Q E _;unfold aY reduceHash at h;by_cases hr:(decide (-(2) ^ 63<=Builtin.Tuple.tupleHashOf (done.map<|fz knd sub))&&decide (Builtin.Tuple.tupleHashOf (done.map<|fz knd sub)<2 ^ 63))=true
  .rw[QH hr];rw[QH hr]at h;exact QF (by simpa [WX] using h)
  .rw[QK hr];rw[QK hr]at h;exact QD (Th<|QF<|by simpa [WX] using h)
def kP (hr:sub.room A)(hx:N7 knd sub p s.heap x a)(hy:N7 knd sub p s.heap y b)(h:P (.done<|.ret<|.bool<|decide (x=y)) s) :
  XR (model prog w) A (Builtin.«tuple.__eq__» #v[[.ref a,.ref b],[]]) P E s:=by
 have Z:=hy.typeIs;obtain⟨oa,N,na,T,_,Y,V⟩:=hx;obtain⟨ob,L,nb,S,_,X,U⟩:=hy;show XR _ _ (isInstance (.ref b) (.type "tuple") >>= _) _ _ s;refine QD<|Uy Z isSubtype_tuple_tuple ?_;simp only[Ro];refine QD<|WM T Y ?_;refine QD<|WM S X ?_;refine QD ?_;refine VY _
  (λB r Q=>r.1=none/\Q=s/\∃j O M o m,B=List.zip o m/\ItemsN knd sub p s.heap j O o/\ItemsN knd sub p s.heap j M m/\decide (O=M)=decide (x=y)/\(o.length == m.length)=(N.size == L.size))
  _ ?_ ?_ _ _ #v[rfl,rfl,0,x,y,N.toList,L.toList,rfl,V,U,rfl,by simp]
 .rintro ⟨u,v⟩ B r Q ⟨F,rfl,j,O,M,o,m,l,D,k,c,i⟩;cases D with
  | nil=>simp at l
  | @val _ H u' q n R h1 z =>
   cases k with
   | nil=>simp at l
   | @ref _ C b' f d g J e=>rw[R]at g;cases g
   | @val _ C v' f d g J e =>
    simp only[UK]at l;obtain⟨⟨rfl,rfl⟩,rfl⟩:=l;refine QD<|knd.eqBool h1 J ?_;by_cases G:H=C
    .subst G;rw[Rg rfl];simp only[To];refine QF #v[rfl,rfl,j+1,q,f,n,d,rfl,z,e,?_,by simpa using i];rw[<-c];by_cases t:q=f
     .simp[t]
     .simp[t]
    .rw[Rk G];simp only[Bool.not_false];have W:decide (x=y)=false:=by rw[<-c];simp[G]
     rw[W]at h;exact QD<|QF<|QF<|QF h
  | @ref _ H a' q n R h1 z =>
   cases k with
   | nil=>simp at l
   | @val _ C v' f d g J e=>rw[R]at g;cases g
   | @ref _ C b' f d g J e =>
    simp only[UK]at l;obtain⟨⟨rfl,rfl⟩,rfl⟩:=l;refine QD<|sub.eqBool hr h1 J ?_;by_cases G:H=C
    .subst G;rw[Rg rfl];simp only[To];refine QF #v[rfl,rfl,j+1,q,f,n,d,rfl,z,e,?_,by simpa using i];rw[<-c];by_cases t:q=f
     .simp[t]
     .simp[t]
    .rw[Rk G];simp only[Bool.not_false];have W:decide (x=y)=false:=by rw[<-c];simp[G]
     rw[W]at h;exact QD<|QF<|QF<|QF h
 .rintro ⟨r1,r2⟩ Q ⟨F,rfl,j,O,M,o,m,l,D,k,c,i⟩;simp only at F;subst F;refine QF ?_;have I:(N.size == L.size)=decide (x=y):=by
   rw[<-c,<-i];cases D with
   | nil =>
    cases k with
    | nil=>simp
    | val _ _ _=>simp
    | ref _ _ _=>simp
   | val _ _ _ =>
    cases k with
    | nil=>simp
    | val _ _ _=>simp at l
    | ref _ _ _=>simp at l
   | ref _ _ _ =>
    cases k with
    | nil=>simp
    | val _ _ _=>simp at l
    | ref _ _ _=>simp at l
  show P (.done<|.ret<|.bool<|N.size == L.size) Q;rw[I];exact h
def nD (hu:A.units<XZ)(hr:sub.room A.in1)(hx:N7 knd sub p s.heap x a)(hy:N7 knd sub p s.heap y b)(h:Q (decide (x=y)) s) :
  XR (model prog w) A (PySem.eqBool (.ref a)<|.ref b) Q E s:=by
 unfold PySem.eqBool;try with_reducible refine Sq ?_
 by_cases c:(Xx.ref a == Xx.ref b)=true
 .rw[QH c];have e:a=b:=by have:=eq_of_beq c;injection this
  subst e;obtain rfl:=hx.inj hy;exact QD (Th<|QF<|by simpa using h)
 .rw[QK c];refine QD (wpAny_richCompare_same_room hx.typeIs hy.typeIs F.slot_tuple_eq
   (RO F.slot_tuple_eq hx.typeIs F.entry_tuple_eq (kP ?rm hx hy #v[_,rfl,(λe=>nomatch e),SD h])<|F.args_tuple_eq_2 _ _) hu)
  case rm=>exact hr
def iX (hn:sub.deep+1<=n)(hk:N7 knd sub p s.heap ks a)(h:Q true s):XR (model prog w) A (eqIsQuiet n<|.ref a) Q E s:=by
 have g:=hk.typeIs;obtain⟨o,items,m,l,_,t,q⟩:=hk;obtain⟨n,rfl⟩:∃k,n=k+1:=#v[n-1,by lia];unfold eqIsQuiet;refine QD<|TB g F.slot_tuple_eq.lookup ?_;refine QD<|Uy g isSubtype_tuple_tuple ?_;simp only[Ro];refine QD<|So l t ?_;refine QD ?_;rw[<-Array.forIn_toList];refine VY _ (λb r d=>r.1=none/\d=s/\∃j ks,ItemsN knd sub p s.heap j ks b) _ ?_ ?_ _ _ #v[rfl,rfl,0,ks,q]
 .rintro v b r d ⟨e,rfl,j,ks,c⟩;cases c with
  | val i f ht =>rw[eqIsQuiet_byValue _<|knd.byValue _ _ f];refine QD<|QF ?_;simp only[To];exact QF #v[rfl,rfl,_,_,ht]
  | ref i f ht =>refine QD (sub.quietN (by lia) f ?_);simp only[To];exact QF #v[rfl,rfl,_,_,ht]
 .rintro ⟨x,u⟩ d ⟨e,rfl,_⟩;simp only at e;subst e;exact QF h
end
def we {K K2}[DecidableEq K][DecidableEq K2](knd:KeyKind prog w K)(sub:SubKind prog w K2)(p:Nat->Bool)(hd:sub.deep<8):SubKind prog w (List<|K ⊕ K2) where
 is:=N7 knd sub p
 hash:=aY knd sub
 draws:=λe=>(e.map<|gJ sub).sum+1
 room:=λA=>A.units<XZ/\sub.room A.in1
 inj:=λd c=>d.inj c
 keeps:=λx g hd f=>x.keeps g hd f
 pyHash:=λa b h=>oh a.1 a.2 b h
 eqBool:=λa d c h=>nD a.1 a.2 d c h
 quiet:=λb h=>iX (by lia) b h
 deep:=sub.deep+1
 quietN:=λi b h=>iX i b h
end
section
open Sem (wp)
def bIn (b:Bool):Int:=if b then 1 else 0
def aD (i:Int):Xx->Bool
 | .int j _=>j == i
 | .bool b=>bIn b == i
 | _=>false
def O1 (h:aD i v=true):(∃t,v = .int i t)\/∃b,v = .bool b/\bIn b=i:=by
 cases v with
 | int j t=>exact .inl #v[t,by simp[aD]at h;rw[h]]
 | bool b=>exact .inr #v[b,rfl,by simpa [aD] using h]
 | _=>simp[aD]at h
section

def ny (h:Q (hashInt<|bIn b) { s with toks:=s.toks+1 }):XR (model prog w) A (PySem.pyHash<|.bool b) Q E s:=by
 have a:=rawHash_range<|bIn b;have c:[Xx.bool b].any Xx.onHeap=false:=rfl;refine QD ?_;rw[cRoomFor,QK (by rw[c];exact Ri)];refine QF ?_;refine QD<|TB (typeIs_bool s b) VZ.lookup ?_;rw[QK (by rw[beq_builtin_none];exact Ri)];refine QD<|TB (typeIs_bool s b) VZ.lookup ?_;refine QD (Vb (typeIs_bool s b) VZ
  (RO VZ (typeIs_bool s b) entry_int_hash
   (wpAny_ret_mkInt ?_) (args_int_hash _)))
 show XR _ _ (if (decide (-(2) ^ 63<=rawHash (bIn b))&&decide (rawHash (bIn b)<2 ^ 63))=true then _ else _) Q E _;rw[QH (by rw[Rg a.1,Rg a.2];rfl)];exact QF h
end
def rp (prog) (w):PySem.KeyKind prog w Int where
 is:=aD
 hash:=hashInt
 inj:=λv a b i f=>by
  rcases O1 i with ⟨t,rfl⟩ | ⟨x,rfl,rfl⟩
  .simpa [aD] using f
  .simpa [aD] using f
 byValue:=λk v h=>by rcases O1 h with ⟨t,rfl⟩ | ⟨x,rfl,rfl⟩ <;> rfl
 pyHash:=λc h=>by
  rcases O1 c with ⟨t,rfl⟩ | ⟨x,rfl,rfl⟩
  .exact wpAny_pyHash_int h
  .exact ny h
 eqBool:=λ{A E s a b u v Q} g c h=>by
  have j:∀x y:Int,(x == y)=decide (x=y):=λx y=>by by_cases e:x=y <;> simp[e]
  rw[<-j]at h;rcases O1 g with ⟨t,rfl⟩ | ⟨x,rfl,rfl⟩
  .rcases O1 c with ⟨d,rfl⟩ | ⟨y,rfl,rfl⟩
   .exact wpAny_eqBool_int h
   .exact SeqAt.EqAt.int_bool a t y _ _ _ _ h
  .rcases O1 c with ⟨d,rfl⟩ | ⟨y,rfl,rfl⟩
   .exact SeqAt.EqAt.bool_int x b d _ _ _ _ h
   .refine SeqAt.EqAt.bool_bool x y _ _ _ _ ?_;have:(bIn x == bIn y)=(x == y):=by cases x <;> cases y <;> rfl
    rw[<-this];exact h
 «strs»:=λk x t v h=>by simp[aD]at h
end
end L3
namespace L3
open PySem PySem.Spec PyProof.Rows L2

section
section
variable {K:Type}[DecidableEq K]
def cz (kind:SubKind P w K)(a:Xy)(xs:List (K×Xy×V)):XH->Prop:=λh=>xs.length<=XI/\(a == sysModules)=false/\∃b,
 Paired (λp q=>p.1=q.1/\p.2.1=q.2.1/\m6 p.2.2 q.2.2) xs b /\
 ∃o c d,h.get? a=some o/\o.ExactDict/\o.data = .dict c d/\c.toList=b.map (entryOfKey kind.toHeapKind)/\(b.map (·.1)).Nodup
variable {kind:SubKind P w K}{xs:List (K×Xy×V)}
def cz.dict (d:cz kind a xs h)(hk:∀x∈xs,kind.is h x.1 x.2.1):xs.length<=XI/\(a == sysModules)=false/\∃vs,
  Paired (λp q=>p.1=q.1/\p.2.1=q.2.1/\m6 p.2.2 q.2.2) xs vs/\h.DictOfH kind.toHeapKind a vs:=by
 obtain⟨z,y,vs,r,o,m,n,l,k,j,g,f⟩:=d;refine#v[z,y,vs,r,o,m,n,l,k,j,g,?_,f];clear g f z;induction r with
 | nil=>intro x b;cases b
 | @cons p q u s c t i =>
  intro x b;rcases QQ.1 b with e | b
  .subst e;rw[<-c.1,<-c.2.1];exact hk p QN
  .exact i (λx b=>hk x<|QG _ b) x b
def lq (xs:List (K×Xy×V))(k:K):Option V:=(xs.find? λx=>decide (x.1=k)).map (·.2.2)
def iU (xs:List (K×Xy×V))(k:K)(b:Xy)(v:V):List (K×Xy×V):=if (lq xs k).isSome then xs.map (λx=>if x.1=k then(x.1,x.2.1,v) else x) else xs++[(k,b,v)]
abbrev PV (xs:List (K×Xy×V))(vs:List (K×Xy×Xx)):Prop:=Paired (λp q=>p.1=q.1/\p.2.1=q.2.1/\m6 p.2.2 q.2.2) xs vs
def PV.val (r:PV xs vs)(k):eP (lq xs k) ((atKey vs k).map (·.2)):=by
 unfold lq atKey;induction r with
 | nil=>exact True.intro
 | @cons p q d c a t b =>
  rw[Tz,Tz,a.1];by_cases e:q.1=k
  .rw[Rg e];exact a.2.2
  .rw[Rk e];exact b
def PV.repl (r:PV xs vs)(k)(ry:m6 y u):PV (xs.map λx=>if x.1=k then(x.1,x.2.1,y) else x) (vs.map<|putAt k u):=by
 induction r with
 | nil=>exact .nil
 | @cons p q g f h t c =>
  rw[QL,QL];refine .cons ?_ c;obtain⟨a,b,d⟩:=h;unfold putAt;by_cases e:p.1=k
  .rw[QH e,QH<|a.symm.trans e];exact#v[a,b,ry]
  .rw[QK e,QK<|λz=>e<|a.trans z];exact#v[a,b,d]
def PV.put (r:PV xs vs)(k)(ry:m6 y u):PV (iU xs k b y) (storedH vs k b u):=by
 have e:(lq xs k).isSome=(atKey vs k).isSome:=by rw[(PV.val r k).isSome_eq,Us]
 unfold iU storedH;rw[e];by_cases q:(atKey vs k).isSome=true
 .rw[QH q,QH q];exact PV.repl r k ry
 .rw[QK q,QK q];exact Paired.snoc r #v[rfl,rfl,ry]
def gU (xs) (k:K)(b) (v):(iU xs k b v).length<=xs.length+1:=by
 unfold iU;split
 .rw[QI];simp[*]
 .simp
def cz.obj (d:cz kind a xs h):C4 P w H h a (.ext<|cz kind a xs):=by refine#v[d,let #v[_,_,_,_,o,_,_,e,_]:=d;#v[o,e],λj i d k=>?_];obtain⟨z,y,b,r,o,f,g,e,c⟩:=d;exact#v[z,y,b,r,o,f,g,k o e,c]
end
section
variable {K:Type}[DecidableEq K]{X:Cx}{kind:SubKind X.prog X.w K}{σ:L2.St}{H:Hp}{s:Xz}{a b:Xy}{v:V}{k:K}{r:Xx}{xs:List (K×Xy×V)}{A:XC}{E:Xx->Xz->Prop}
def GE (I:Inv X π σ H s)(e:H a=some (.ext<|cz kind a xs)):cz kind a xs s.heap:=(show C4 X.prog X.w H s.heap a (.ext<|cz kind a xs) from I.hok a _ e).1
def tW (hu:kind.room A.in1)(I:Inv X π σ H s)(e:H a=some (.ext<|cz kind a xs))(hk:∀x∈xs,kind.is s.heap x.1 x.2.1)(kb:kind.is s.heap k b)(g:lq xs k=some v)(h:∀w' s',Inv X π σ H s'->m6 v w'->Q w' s') :
  XR (model X.prog X.w) A (getItem (.ref a)<|.ref b) Q E s:=by obtain⟨z,m,i,d,dd⟩:=(GE I e).dict hk;obtain⟨w',j,c⟩:=eP.some_of (v:=v) (o:=(atKey i k).map (·.2)) (by rw[<-g];exact PV.val d k);obtain⟨p,l,f⟩:=Re.1 j;refine wpAny_getItem_heap hu kb dd l ?_;rw[f];exact h w' _ (I.tok _) c
def vi (hu:kind.room A.in1)(I:Inv X π σ H s)(e:H a=some (.ext<|cz kind a xs))(hk:∀x∈xs,kind.is s.heap x.1 x.2.1)(kb:kind.is s.heap k b)(hl:xs.length<XI)(rv:m6 v r)(h:∀s',Inv X π σ (upd H a<|.ext<|cz kind a<|iU xs k b v) s'->Q () s') :
  XR (model X.prog X.w) A (setItem (.ref a) (.ref b) r) Q E s:=by
 obtain⟨z,m,g,c,dd⟩:=(GE I e).dict hk;have j:g.length<=XI:=by rw[<-Um c];exact z
 refine wpAny_setItem_heap (hsz:=j) hu kb dd λu d l=>h _ ?_
 obtain⟨q,w,y,f,t,p,o,_,n⟩:=d;have i:cz kind a (iU xs k b v) u:=#v[by have:=gU xs k b v;lia,m,_,PV.put c k rv,q,w,y,f,t,p,o,n];exact au I (by rw[e];exact True.intro) l #v[q,f] i.obj
end
end
section
structure NKey where
 K:Type
 dec:DecidableEq K
 kind:∀P w,SubKind P w K
 hsh:K->Int
 hs:∀P w k,(kind P w).hash k=hsh k
 dp:Nat
 hdp:∀P w,(kind P w).deep=dp
 At:Qf->Hp->K->Xy->Prop
 ok:∀{X} {π} {σ:L2.St} {H} {s} {k} {b},Inv X π σ H s->At X.K H k b->(kind X.prog X.w).is s.heap k b
 keeps:∀{L} {H H'} {k} {b},At L H k b->(∀c xs,SqT L H c xs->SqT L H' c xs)->At L H' k b
 room:∀P w A,A.units+dp<XZ->(kind P w).room A
instance (κ:NKey):DecidableEq κ.K:=κ.dec
def HN (P) (w):SubKind P w Empty where
 is:=λ_ _ _=>False
 hash:=λk=>k.elim
 draws:=λk=>k.elim
 room:=λ_=>True
 inj:=λh=>h.elim
 keeps:=λh=>h.elim
 pyHash:=λ_ h=>h.elim
 eqBool:=λ_ h=>h.elim
 quiet:=λh=>h.elim
 deep:=0
 quietN:=λ_ h=>h.elim
def DZ :NKey where
 K:=Empty
 dec:=inferInstance
 kind:=HN
 hsh:=λk=>k.elim
 hs:=λ_ _ k=>k.elim
 dp:=0
 hdp:=λ_ _=>rfl
 At:=λ_ _ _ _=>False
 ok:=λ_ h=>h.elim
 keeps:=λh=>h.elim
 room:=λ_ _ _ _=>True.intro
section
variable (κ:NKey)(p:Nat->Bool)
inductive VKeys (L:Qf) (H:Hp):Nat->List (Int ⊕ κ.K)->List V->Prop
 | nil {j:Nat}:VKeys L H j [] []
 | int {j:Nat} {i:Int} {ks:List (Int ⊕ κ.K)} {vs:List V}:p j=false->VKeys L H (j+1) ks vs->VKeys L H j (.inl i::ks) (.int i::vs)
 | bl {j:Nat} {b:Bool} {ks:List (Int ⊕ κ.K)} {vs:List V}:p j=false->VKeys L H (j+1) ks vs->VKeys L H j (.inl (bIn b)::ks) (.bl b::vs)
 | ref {j:Nat} {k:κ.K} {a:Xy} {ks:List (Int ⊕ κ.K)} {vs:List V}:p j=true->κ.At L H k a->VKeys L H (j+1) ks vs->VKeys L H j (.inr k::ks) (.ref a::vs)
variable {κ p}
def VKeys.keeps {j}{ks}{vs} (x:VKeys κ p L H j ks vs)(hk:∀c xs,SqT L H c xs->SqT L H' c xs):VKeys κ p L H' j ks vs:=by
 induction x with
 | nil=>exact .nil
 | int b _ a=>exact .int b a
 | bl b _ a=>exact .bl b a
 | ref b d _ a=>exact .ref b (κ.keeps d hk) a
def VKeys.items {σ:L2.St}(ok:Inv X π σ H s)(x:VKeys κ p X.K H j ks vs):∀{us},s0 vs us->ItemsN (rp X.prog X.w) (κ.kind X.prog X.w) p s.heap j ks us:=by
 induction x with
 | nil=>intro us r;cases r;exact .nil
 | @int j i ks vs g _ f =>
  intro us r;cases r with
  | cons d c =>obtain⟨t,e⟩:=(d);subst e;exact .val g (show aD i (.int i t)=true by simp[aD])<|f c
 | @bl j b ks vs g _ f =>
  intro us r;cases r with
  | cons d c =>cases(d);exact .val g (show aD (bIn b) (.bool b)=true by simp[aD])<|f c
 | @ref j k a ks vs g h _ f =>
  intro us r;cases r with
  | cons d c =>cases(d);exact .ref g (κ.ok ok h)<|f c
end
def xu (κ:NKey)(p:Nat->Bool)(hd:κ.dp<8):NKey where
 K:=List<|Int ⊕ κ.K
 dec:=inferInstance
 kind:=λP w=>we (rp P w) (κ.kind P w) p (by rw[κ.hdp];exact hd)
 hsh:=λc=>reduceHash (Builtin.Tuple.tupleHashOf (c.map λk=>match k with | .inl i=>hashInt i | .inr k=>κ.hsh k))
 hs:=λP w c=>by
  show aY _ _ c=_;unfold aY;congr 2;refine SN λk _=>?_
  cases k with
  | inl i=>rfl
  | inr k=>exact κ.hs P w k
 dp:=κ.dp+1
 hdp:=λP w=>by show(κ.kind P w).deep+1=_;rw[κ.hdp]
 At:=λL H c b=>∃a,SqT L H b a/\VKeys κ p L H 0 c a
 ok:=λ{X π l H s k b} I #v[a,e,x]=>by obtain⟨d,r,⟨o,j,h,n,g⟩,_⟩:=I.tuple e;exact#v[o,d.toArray,n,j,h,g,by simpa using x.items I r]
 keeps:=λ#v[a,e,x] f=>#v[a,f _ _ e,x.keeps f]
 room:=λP w A m=>#v[by lia,κ.room P w A.in1 (by show A.units+1 + κ.dp<XZ;lia)]
def Z3 :NKey:=xu DZ (λ_=>false) (by decide)
def aW :NKey:=xu Z3 (λ_=>true) (by decide)
def lM :NKey:=xu aW (λj=>j == 0) (by decide)
end
section
def NDi (κ:NKey)(a:Xy)(xs:List (κ.K×Xy×V)):XH->Prop:=λh=>xs.length<=XI/\(a == sysModules)=false/\∃b,
 Paired (λp (q:κ.K×Xy×Xx)=>p.1=q.1/\p.2.1=q.2.1/\m6 p.2.2 q.2.2) xs b /\
 ∃o c d,h.get? a=some o/\o.ExactDict/\o.data = .dict c d/\c.toList=b.map (λq=>(#v[κ.hsh q.1,.ref q.2.1,q.2.2]:DictEntry))/\(b.map (·.1)).Nodup
def iW (κ) (P) (w) (a) (xs):NDi κ a xs=cz (κ.kind P w) a xs:=by
 funext h;unfold NDi cz;have e:(λq=>(#v[κ.hsh q.1,.ref q.2.1,q.2.2]) )=entryOfKey (κ.kind P w).toHeapKind:=by funext q;unfold entryOfKey;rw[κ.hs P w]
 rw[e]
def IT (κ:NKey)(L:Qf)(H:Hp)(a:Xy)(y:V)(o:Option V):Prop:=∃(c:List (κ.K×Xy×V)) (k:κ.K) (b:Xy),H a=some (.ext<|NDi κ a c)/\(∀x∈c,κ.At L H x.1 x.2.1)/\y = .ref b /\ κ.At L H k b/\o=lq c k
def AD (κ:NKey)(L:Qf)(H:Hp)(a:Xy)(y v:V)(H':Hp):Prop:=∃(c:List (κ.K×Xy×V)) (k:κ.K) (b:Xy),H a=some (.ext<|NDi κ a c)/\(∀x∈c,κ.At L H x.1 x.2.1)/\y = .ref b /\ κ.At L H k b/\c.length<XI/\H'=upd H a (.ext<|NDi κ a<|iU c k b v)
def DR (κ:NKey):TE:=λ_ H Q=>∀p,H p=none->(∃h,NDi κ p [] h)->Q (.ref p) (upd H p<|.ext<|NDi κ p [])
def Ej (κ:NKey)(L:Qf)(td ty:TE):TE:=λb H Q=>td b H λx d=>ty b d λy c=>∃a v,x = .ref a/\IT κ L c a y (some v)/\Q v c
def DN (κ:NKey)(L:Qf)(td ty tv:TE):TS:=λD b H=>tv b H λv g=>td b g λx f=>ty b f λy e=>∃a c,x = .ref a/\AD κ L e a y v c/\((∀d,c a=some (.ext d)->∃h,d h)->D.nx b c)
section
variable {κ:NKey}{X:Cx}{σ:L2.St}{A:XC}
def qU (I:Inv X π σ H s)(e:H a=some (.ext<|NDi κ a xs)):NDi κ a xs s.heap:=(I.hok a _ e).1
def ET (I:Inv X π σ H s)(e:H a=some (.ext<|NDi κ a xs)):s.TypeIs (.ref a) "dict" /\ (∀b,Xx.ref a = .ref b->∃ob,s.heap.get? b=some ob/\ob.dict=none)/\(a == sysModules)=false:=by obtain⟨z,f,g,r,o,h,i,d,c,_⟩:=qU I e;refine#v[#v[o,d,c.1],λb q=>?_,f];cases q;exact#v[o,d,c.2.1]
def DW (hu:A.units+9<XZ)(hd:κ.dp<=8):(κ.kind X.prog X.w).room A.in1:=κ.room _ _ _ (by lia)
def pj (hu:A.units+9<XZ)(hd:κ.dp<=8)(I:Inv X π σ H s)(g:IT κ X.K H a y (some v))(ry:m6 y u)(h:∀w' s',Inv X π σ H s'->m6 v w'->Q w' s') :
  XR (model X.prog X.w) A (getItem (.ref a) u) Q E s:=by obtain⟨xs,k,b,e,f,rfl,c,l⟩:=g;cases(show u=Xx.ref b from ry);rw[iW κ X.prog X.w]at e;exact tW (DW hu hd) I e (λx d=>κ.ok I<|f x d) (κ.ok I c) l.symm h
def qy (hu:A.units+9<XZ)(hd:κ.dp<=8)(I:Inv X π σ H s)(g:AD κ X.K H a y v H')(ry:m6 y u)(rv:m6 v r)(h:∀s',Inv X π σ H' s'->Q () s') :
  XR (model X.prog X.w) A (setItem (.ref a) u r) Q E s:=by obtain⟨xs,k,b,e,f,rfl,c,hl,rfl⟩:=g;cases(show u=Xx.ref b from ry);rw[iW κ X.prog X.w]at e h;exact vi (DW hu hd) I e (λx d=>κ.ok I<|f x d) (κ.ok I c) hl rv h
end
section

def lD {σ:L2.St}(I:Inv X π σ H s):NDi κ s.heap.objs.size [] (s.heap.push { cls:=.type "dict",data:=.dict #[] }) :=
 #v[Sb _,SL.2<|RM<|QY I.big,[],.nil,_,#[],0,QV _ rfl,#v[rfl,rfl,rfl],rfl,rfl,WB]
def CP :PE X (.Dict [] [] pos) (DR κ):=λπ s b H Q I h =>
 wpAny_Dict_empty #v[.ref s.heap.objs.size,_,I.laid (λ_ _ q=>QE _ q) (QP _) (by have d:NDi κ s.heap.objs.size [] (s.heap.push { cls:=.type "dict",data:=.dict #[] }):=#v[Sb _,SL.2<|RM<|QY I.big,[],.nil,_,#[],0,QV _ rfl,#v[rfl,rfl,rfl],rfl,rfl,WB];rw[iW κ X.prog X.w]at d ⊢;exact d.obj),rfl,h _ (I.hok.fresh<|QP _) #v[_,lD I]]
def Ao (hu:X.A.units+9<XZ)(hd:κ.dp<=8)(ho:PE X o td)(hi:PE X i ty)(hs:Ff i):PE X (.Subscript o i pos) (Ej κ X.K td ty):=by intro π s d H Q I h;refine Df PySem.F.slot_dict_getitem.lookup hs (thn (ho π s d H _ I h) λu s1 #v[x,w,r,l,n]=>thn (hi π s1 d w _ r n) ?_ );rintro C s2 ⟨y,t,f,j,a,v,p,g,m⟩;subst p;obtain rfl:=l;obtain⟨z,k,b,e,_⟩:=id g;exact#v[(ET f e).1,pj hu hd f g j λA B q c=>#v[v,t,q,c,m]]
def Dg (hu:X.A.units+9<XZ)(hd:κ.dp<=8)(ho:PE X o td)(hi:PE X i ty)(hv:PE X value tv)(hs:XT value (some<|.Subscript o i pos') pos.line X.env=pure false) :
  PS X (.Assign [.Subscript o i pos'] value pos) (DN κ X.K td ty tv):=by intro π s b H D I h;refine wpAny_Assign_Subscript (thn (hv π s b H _ I h) λr s1 #v[v,C,A,m,q]=>thn (ho π s1 b C _ A q) λu s2 #v[x,B,z,l,p]=>thn (hi π s2 b B _ z p) ?_ ) hs;rintro F E ⟨y,G,w,k,a,d,t,g,n⟩;subst t;obtain rfl:=l;exact qy hu hd w g k m λj c=>#v[b,d,c,n λf e=>#v[_,(c.hok a _ e).1]]
end
end
end L3
namespace L3
open PySem PySem.Spec PyProof.Rows L2 PySem.W
def fH (h:XH)(d:Xy)(es:Array DictEntry)(ep:Nat):Prop:=∃o,h.get? d=some o/\o.ExactDict/\o.data = .dict es ep

def fH.at' (x:fH h d es ep)(e:∀o,h.get? d=some o->h'.get? d=some o):fH h' d es ep:=let #v[o,a,r]:=x;#v[o,e _ a,r]
def fH.typeIs {s:Xz}(x:fH s.heap d es ep):s.TypeIs (.ref d) "dict":=let #v[o,a,b,_]:=x;#v[o,a,b.1]
section

def vV (hd:(d == sysModules)=false)(hm:fH s.heap d es ep)
  (hQ:Q (.ref s.heap.objs.size) { s with heap:=s.heap.push { cls:=.type "dict_keyiterator",data:=.fields #[.ref d,.int 0 0,.int es.size 0,.int ep 0] } }) :
  XR (model prog w) A (pyIter<|.ref d) Q E s:=by have b:=hm.typeIs;obtain⟨o,c,e,a⟩:=hm;refine wpAny_pyIter_slot b PySem.F.slot_dict_iter<|RO PySem.F.slot_dict_iter b PySem.F.entry_dict_iter ?_<|PySem.F.args_dict_iter_1 _;refine QD ?_;refine QD<|wpAny_notOrdered_dict b<|QF ?_;show XR _ _ (Builtin.Dict.showsAll d >>= _) _ _ s;unfold Builtin.Dict.showsAll;rw[QK (by rw[hd];exact Ri)];refine QD<|QF<|QD<|wpAny_dictEntries c a<|QD<|wpAny_dictEpoch c a ?_;refine QD<|RI<|QF #v[_,rfl,"dict_keyiterator",_,#v[_,QV _ rfl,rfl],SE.lookup,?_];simpa [rawInt] using hQ
def yO (hit:s.heap.IsKeyIter it d i es.size ep)(hm:fH s.heap d es ep)(hlt)
  (hQ:∀h',h'.IsKeyIter it d (i+1) es.size ep->XH.SameBut it s.heap h'->Q (some es[i].key) { s with heap:=h' }):XR (model prog w) A (pyNext<|.ref it) Q E s:=by
 obtain⟨o,f,h,e⟩:=id hit;obtain⟨j,b,g,c⟩:=hm;refine QD (Uq (Sl hit.typeIs SE
  (RO SE hit.typeIs Vy ?_<|Vr _)))
 refine QD<|QF<|QD<|QD ?_;first | refine QD (TH hit.typeIs<|QF ?_) | refine QD<|Uz hit.typeIs<|QF ?_
 refine QD<|wpAny_fieldsOf f e ?_;simp only[Ro];show XR _ _ (if (Xx.ref d == Xx.none)=true then _ else _) _ _ s;rw[QK<|show ¬((Xx.ref d == Xx.none)=true) from Ri];refine QD<|QF<|QD<|wpAny_dictEntries b c ?_;rw[QK<|by simp];refine QD<|QF<|QD<|wpAny_dictEpoch b c ?_;rw[QK<|by simp];refine QF ?_;simp only[RU,RQ,Array.getElem?_eq_getElem hlt];refine QD ?_;first | refine QD (TH hit.typeIs<|QF ?_) | refine QD<|Uz hit.typeIs<|QF ?_
 refine QD<|wpAny_isOneOf_keyiter hit.typeIs ?_;show XR _ _ (setField (.ref it) 1 (rawInt<|i+1) >>= _) _ _ s;refine QD (Ux f e (by simp) ?_);have a:(s.heap.update it (XM.mapFields (·.setIfInBounds 1 (rawInt<|i+1)))).IsKeyIter it d (i+1) es.size ep :=
  #v[_,RR _ f<|Wb<|Uc e _,(XM.cls_mapFields ..).trans h,by rw[Uc e];simp[rawInt]]
 refine QD<|Sq ?_;refine QD (wpAny_isOneOf_keyiter a.typeIs ?_);exact QF<|QF #v[_,rfl,QF<|hQ _ a<|UD ..]
def BI (hh:A.handled=none)(hit:s.heap.IsKeyIter it d es.size es.size ep)(hm:fH s.heap d es ep)
  (hQ:∀h',XH.ExtBut it s.heap h'->Q none { s with heap:=h' }):XR (model prog w) A (pyNext<|.ref it) Q E s:=by
 obtain⟨o,f,j,g⟩:=id hit;obtain⟨i,c,h,e⟩:=hm;refine QD (Uq (Sl hit.typeIs SE
  (RO SE hit.typeIs Vy ?_<|Vr _)))
 refine QD<|QF<|QD<|QD ?_;first | refine QD (TH hit.typeIs<|QF ?_) | refine QD<|Uz hit.typeIs<|QF ?_
 refine QD<|wpAny_fieldsOf f g ?_;simp only[Ro];show XR _ _ (if (Xx.ref d == Xx.none)=true then _ else _) _ _ s;rw[QK<|show ¬((Xx.ref d == Xx.none)=true) from Ri];refine QD<|QF<|QD<|wpAny_dictEntries c e ?_;rw[QK<|by simp];refine QD<|QF<|QD<|wpAny_dictEpoch c e ?_;rw[QK<|by simp];refine QF ?_;simp only[RU,RQ,Array.getElem?_eq_none<|QP _];refine QD ?_;first | refine QD (TH hit.typeIs<|QF ?_) | refine QD<|Uz hit.typeIs<|QF ?_
 show XR _ _ (setField (.ref it) 0 .none >>= _) _ _ s;refine QD (Ux f g (by simp) ?_);refine QD ?_;simp only[newExc];refine QD (RI ?_<|by size_fits);refine QD (wpAny_of_eq (by first | rfl | (simp only[firstArgMember];rfl)) ?_);refine RI ?_ (by size_fits);simp only[raiseNew];refine QD<|wpAny_handled ?_;rw[hh];refine QD<|QF<|wpAny_throw ?_;refine QD<|Uy #v[_,QV _ rfl,rfl] WC ?_;exact QF<|hQ _<|((UD ..).extBut.push _).push _
def vf (hh:A.handled=none)(I d) (hne:d≠I)(es) (ep) :
  Walks prog w A I [I,d] [I] es.size (λi v=>∃h,v=es[i].key) (λi h=>h.IsKeyIter I d i es.size ep/\fH h d es ep) where
 sub:=λb a=>by simp at a;simp[a]
 frame:=λ_ _ _ st l=>#v[st.1.at λo e=>l I (by simp) o e,st.2.at' λo e=>l d (by simp) o e]
 item:=λi s Q E m st g=>yO st.1 st.2 m λk f c=>g _ k s.toks #v[m,rfl] #v[f,st.2.at' λo e=>c.extBut d o hne e] λb o a e=>c.extBut b o (λh=>a<|by simp[h]) e
 done:=λs Q E st g=>BI hh st.1 st.2 λk j=>g k s.toks λb o a e=>j b o (λh=>a<|by simp[h]) e
 self:=λ_ _ _ _ st g=>wpAny_pyIter_keyiter st.1 g
def fH.lt (x:fH h d es ep):d<h.objs.size:=let #v[_,a,_]:=x;QJ a
def Cp (lo:(d == sysModules)=false):KdlSrc prog w "dict" d d es.size (λi v=>∃h,v=es[i].key) (λh=>fH h d es ep) where
 type:=λ_ a=>a.typeIs
 there:=λ_ a=>#v[a.lt,a.lt]
 keep:=λ_ _ a c=>a.at' λo e=>c d (.inl rfl) o e
 notList:=by decide
 notTuple:=by decide
 hint:=λ_ _ _ _ a b=>kdl_hint_dict a.typeIs b
 iter:=λ_ _ f a=>#v[_,_,(λ_ _ b=>vV lo a b),vf f _ d (QY a.lt) es ep,#v[#v[_,QV _ rfl,rfl,rfl],a.at' λo e=>QE _ e]]
end
def pf {K}{xs}{vs} (rel:Paired (λ(p:K×Xy×V) (q:K×Xy×Xx)=>p.1=q.1/\p.2.1=q.2.1/\L2.m6 p.2.2 q.2.2) xs vs):s0 (xs.map λx=>V.ref x.2.1) (vs.map λq=>Xx.ref q.2.1):=by
 induction rel with
 | nil=>exact .nil
 | @cons a b f e c _ d =>rw[QL,QL];exact .cons (by rw[c.2.1];exact rfl) d
end L3
namespace L3
open PySem PySem.Spec PyProof.Rows L2
section
def CG:My->Option Int
 | .int i=>some i
 | .bool b=>some<|bIn b
 | _=>none
def jx:List My->Option (List<|Int ⊕ Empty)
 | []=>some []
 | d::ds=>(CG d).bind λi=>(jx ds).map (.inl i :: ·)
def ck:List My->Option (List<|Int ⊕ List (Int ⊕ Empty))
 | []=>some []
 | .tuple es::ds=>(jx es).bind λk=>(ck ds).map (.inr k :: ·)
 | _::_=>none
def Ee:My->Option Z3.K
 | .tuple ds=>jx ds
 | _=>none
def DM:My->Option aW.K
 | .tuple ds=>ck ds
 | _=>none
def pD:My->Option lM.K
 | .tuple [.tuple ds,.int i]=>(ck ds).map λk=>[.inr k,.inl i]
 | _=>none
section
variable {K:Qf}
theorem jO:∀{ds} {ks} {vs} {j},jx ds=some ks->a8 K H ds vs->VKeys DZ (λ_=>false) K H j ks vs
 | [],ks,vs,j,e,h=>by
  simp only[jx,VJ]at e;simp only[a8]at h;subst e h;exact .nil
 | d::ds,ks,vs,j,e,h=>by
  simp only[a8]at h;obtain⟨x,r,rfl,f,k⟩:=h;simp only[jx]at e;obtain⟨i,a,m⟩:=bS9 e;obtain⟨g,l,rfl⟩:=Re.1 m;have c:=jO (j:=j+1) l k;cases d with
  | int n=>simp only[CG,VJ]at a;subst a;cases(f);exact .int rfl c
  | bool b=>simp only[CG,VJ]at a;subst a;cases(f);exact .bl rfl c
  | _=>simp[CG]at a
def nE (e:Ee d=some k)(h:b8 K H d v):∃b,v = .ref b/\Z3.At K H k b:=by
 cases d with
 | tuple i =>simp only[b8]at h;obtain⟨a,c,rfl,g,f⟩:=h;exact#v[a,rfl,c,g,jO e f]
 | none=>exact nomatch (e)
 | bool _=>exact nomatch (e)
 | int _=>exact nomatch (e)
 | str _=>exact nomatch (e)
 | list _=>exact nomatch (e)
 | dict _=>exact nomatch (e)
theorem jv:∀{ds} {ks} {vs} {j},ck ds=some ks->a8 K H ds vs->VKeys Z3 (λ_=>true) K H j ks vs
 | [],ks,vs,j,e,h=>by
  simp only[ck,VJ]at e;simp only[a8]at h;subst e h;exact .nil
 | d::ds,ks,vs,j,e,h=>by
  simp only[a8]at h;obtain⟨x,r,rfl,g,f⟩:=h;cases d with
  | tuple i =>simp only[ck]at e;obtain⟨k,n,m⟩:=bS9 e;obtain⟨a,l,rfl⟩:=Re.1 m;obtain⟨b,rfl,c⟩:=nE (d:=.tuple i) n g;exact .ref rfl c<|jv l f
  | _=>simp[ck]at e
def rN (e:DM d=some k)(h:b8 K H d v):∃b,v = .ref b/\aW.At K H k b:=by
 cases d with
 | tuple i =>simp only[b8]at h;obtain⟨a,c,rfl,g,f⟩:=h;exact#v[a,rfl,c,g,jv e f]
 | none=>exact nomatch (e)
 | bool _=>exact nomatch (e)
 | int _=>exact nomatch (e)
 | str _=>exact nomatch (e)
 | list _=>exact nomatch (e)
 | dict _=>exact nomatch (e)
def Ad (e:pD d=some k)(h:b8 K H d v):∃b,v = .ref b/\lM.At K H k b:=by
 unfold pD at e;split at e
 .rename_i m i;obtain⟨p,l,rfl⟩:=Re.1 e;simp only[b8]at h;obtain⟨a,n,rfl,j,x,r,rfl,g,y,o,rfl,f,rfl⟩:=h;obtain⟨b,rfl,c⟩:=rN (d:=.tuple m) l (by simp only[b8];exact g);subst f;exact#v[a,rfl,_,j,.ref rfl c<|.int rfl .nil]
 .cases e
end
end

section
def cZ (p:Int×V):Key×V:=(.inl p.1,p.2)
def FrI (a:Xy)(dy:List (Int×V))(vs:List (Key×Xx))(ep:Nat):XH->Prop:=λh=>dy.length<=XI/\(a == sysModules)=false/\KV (dy.map cZ) vs/\∀P w,h.DictAt (x9 P w) a vs ep
def ji (a:Xy)(φ:XH->Prop):Prop:=∃h,φ h/\∃o b ep,h.get? a=some o/\o.data = .dict b ep
def uG (h:Pairs (x9 P w) l m):Pairs (x9 P' w') l m:=by
 induction h with
 | nil=>exact .nil
 | cons c b _ a=>exact .cons c b a
def uF (h:Pairs (x9 P w) l m)(hx:x∈l):∃q∈m,iH q.1 x.key=true:=by
 induction h with
 | nil=>cases hx
 | cons c d _ a =>
  rcases QQ.1 hx with rfl | hx
  .exact#v[_,QN,c]
  .obtain⟨q,b,h⟩:=a hx;exact#v[q,QG _ b,h]
def yV {h:XH}(hv:∀q∈vs,∃i,q.1 = .inl i)(d:h.DictAt (x9 P w) a vs ep)(P') (w'):h.DictAt (x9 P' w') a vs ep:=by obtain⟨o,r,e,p,t,n,f,j⟩:=d;refine#v[o,r,e,p,t,λx c=>?_,uG f,j];obtain⟨k,b,l⟩:=n x c;obtain⟨q,m,g⟩:=uF f<|Array.mem_toList_iff.2 c;obtain⟨i,s⟩:=hv q m;have u:=(x9 P w).inj _ _ _ b g;refine#v[k,b,?_];rw[l,u,s];rfl
def Gy :∀{dy:List (Int×V)} {vs},KV (dy.map cZ) vs->∀q∈vs,∃i,q.1 = .inl i:=λ{dy}=>by
 induction dy with
 | nil=>intro vs h q a;cases h;cases a
 | cons p dy b =>
  intro vs h q a;cases h with
  | cons d c =>
   rcases QQ.1 a with rfl | a
   .exact#v[p.1,d.1.symm]
   .exact b c q a
section
variable {σ:L2.St}
def FrI.obj (d:FrI a dy vs ep h):C4 P w H h a (.ext<|FrI a dy vs ep):=by
 refine#v[d,?_,λi g d k=>?_]
 .obtain⟨_,_,_,b⟩:=d;obtain⟨o,f,e,_⟩:=b P w;exact#v[o,e]
 .obtain⟨z,y,r,b⟩:=d;refine#v[z,y,r,λP w=>?_];obtain⟨o,f,e,c⟩:=b P w;exact#v[o,f,k o e,c]
def tJ (a) (h):XH.SameBut a h h:=#v[rfl,λ_ _=>rfl]
def eQ (I:Inv X π σ H s)(e:H a=some (.ext<|FrI a dy vs ep)):FrI a dy vs ep s.heap:=(I.hok a _ e).1
def HZ (I:Inv X π σ H s)(e:H a=some (.ext<|FrI a dy vs ep)):Inv X π σ (upd H a<|.dK<|dy.map cZ) s:=by obtain⟨z,y,r,d⟩:=eQ I e;obtain⟨o,f,b,c⟩:=d X.prog X.w;exact au I (by rw[e];exact True.intro) (tJ _ _) #v[o,b] #v[by rw[QI];exact z,y,vs,r,o,f,ep,b,c]
def FrI.n (d:FrI a dy vs ep h)(P:XA)(w:XB):ji a (FrI a dy vs ep):=by obtain⟨_,_,_,b⟩:=id d;obtain⟨o,c,e,_,f,_⟩:=b P w;exact#v[h,d,o,c,ep,e,f]
def IA (I:Inv X π σ H s)(e:H a=some (.dK<|dy.map cZ)):∃vs ep,Inv X π σ (upd H a<|.ext<|FrI a dy vs ep) s/\ji a (FrI a dy vs ep):=by obtain⟨z,y,vs,r,o,d,ep,b,c⟩:=yk I.hok e;have f:FrI a dy vs ep s.heap:=#v[by rw[QI]at z;exact z,y,r,yV (Gy r) #v[o,d,b,c]];exact#v[vs,ep,au I (by rw[e];exact True.intro) (tJ _ _) #v[o,b] f.obj,f.n X.prog X.w]
end
def NDi.n (d:NDi κ a xs h):ji a (NDi κ a xs):=by obtain⟨_,_,vs,_,o,b,ep,e,_,c,_⟩:=id d;exact#v[h,d,o,b,ep,e,c]
end
variable {fp:List Xy}
section
abbrev St :=L2.St
def hid (H:Hp)(B:List Xy):Hp:=λb=>if b∈B then none else H b
def m7 (h:b ∉ B):hid H B b=H b:=by unfold hid;rw[QK h]
def I0 (h:b∈B):hid H B b=none:=by unfold hid;rw[QH h]
def f7 :j9 (hid H B) H:=λb o e=>by
 by_cases h:b∈B
 .rw[I0 h]at e;cases e
 .rwa [m7 h]at e
def bD (s:∀b∈B',b∈B):j9 (hid H B) (hid H B'):=λb o e=>by
 by_cases h:b∈B
 .rw[I0 h]at e;cases e
 .rw[m7 h]at e;rw[m7 λz=>h<|s b z];exact e
def Kp (fp:List Xy)(H H':Hp):Prop:=∀b o,H b=some o->b ∉ fp->H' b=some o
def Kp.refl :Kp fp H H:=λ_ _ e _=>e
def Kp.trans (a:Kp fp H H1)(b:Kp fp H1 H2):Kp fp H H2:=λc o e n=>b c o (a c o e n) n
def Kp.same (s:j9 H H'):Kp fp H H':=λb o e _=>s b o e
def Kp.upd (hp:H p=none):Kp fp H (upd H p o):=Kp.same<|j9.upd hp
def Kp.hid (k:Kp fp H H')(s:∀b∈fp,b∈B):j9 (hid H B) (hid H' B):=λb o e=>by
 by_cases h:b∈B
 .rw[I0 h]at e;cases e
 .rw[m7 h]at e ⊢;exact k b o e λz=>h<|s b z
def av (h:a∈B):hid (upd H a o) B=hid H B:=by
 funext b;by_cases c:b∈B
 .rw[I0 c,I0 c]
 .rw[m7 c,m7 c,f9];intro e;subst e;exact c h
def M0 (K:Qf)(fp B:List Xy)(H:Hp):My->V->Prop
 | .tuple ds,v=>∃a c,v = .ref a/\SqT K (hid H B) a c/\a8 K (hid H B) ds c
 | .list ds,v=>∃a c,v = .ref a/\hid H fp a=some (.lst c)/\a8 K (hid H B) ds c
 | .none,v=>v = .non
 | .bool b,v=>v = .bl b
 | .int i,v=>v = .int i
 | .str x,v=>v = .str x
 | .dict _,_=>False
section
variable {K:Qf}{B:List Xy}{H:Hp}{v:V}
def xn (h:b8 K (hid H B) d v)(s:∀b∈fp,b∈B):M0 K fp B H d v:=by
 cases d with
 | tuple i =>simp only[b8]at h;obtain⟨a,c,e,f,g⟩:=h;exact#v[a,c,e,f,g]
 | list i =>simp only[b8]at h;obtain⟨a,c,e,f,g⟩:=h;exact#v[a,c,e,bD s _ _ f,g]
 | _=>simpa only[b8,M0] using h
def M0.dat (h:M0 K fp B H d v):b8 K H d v:=by
 cases d with
 | tuple g =>obtain⟨a,b,e,c,f⟩:=h;simp only[b8];exact#v[a,b,e,c.same f7,f.same f7]
 | list g =>obtain⟨a,b,e,c,f⟩:=h;simp only[b8];exact#v[a,b,e,f7 _ _ c,f.same f7]
 | _=>simpa only[b8,M0] using h
def M0.step (h:M0 K fp B H d v)(k:Kp fp H H')(s:∀b∈fp,b∈B):M0 K fp B H' d v:=by
 have f:=k.hid s;have j:=k.hid λ_ z=>z
 cases d with
 | tuple l =>obtain⟨a,c,e,g,i⟩:=h;exact#v[a,c,e,g.same f,i.same f]
 | list l =>obtain⟨a,c,e,g,i⟩:=h;exact#v[a,c,e,j _ _ g,i.same f]
 | _=>exact h
def M0.tup (h:M0 K fp B H (.tuple ds) v):b8 K (hid H B) (.tuple ds) v:=by obtain⟨a,b,e,c,d⟩:=h;simp only[b8];exact#v[a,b,e,c,d]
def BOk (H:Hp)(B:List Xy):Prop:=∀b∈B,∃o,H b=some o
def BOk.nin (h:BOk H B)(hp:H p=none):p ∉ B:=λz=>by obtain⟨o,e⟩:=h p z;rw[hp]at e;cases e
def P0 (bk:BOk H B)(hp:H p=none)(h:a8 K (hid H B) ds xs):b8 K (hid (upd H p<|.tup xs) B) (.tuple ds) (.ref p):=by have e:j9 (hid H B) (hid (upd H p<|.tup xs) B):=(Kp.upd (fp:=[]) hp).hid (by simp);refine b8.tup ?_<|h.same e;rw[m7<|bk.nin hp];exact i8
def bF (bk:BOk H B)(hp:H p=none)(h:a8 K (hid H B) ds xs):b8 K (hid (upd H p<|.lst xs) B) (.list ds) (.ref p):=by have e:j9 (hid H B) (hid (upd H p<|.lst xs) B):=(Kp.upd (fp:=[]) hp).hid (by simp);refine b8.lst ?_<|h.same e;rw[m7<|bk.nin hp];exact i8
end
def NoT (o:HO):Prop:=(∀a,o ≠ .tbl a)/\∀φ,o ≠ .ext φ
class Feeds where
 S:Type
 At:Xy->Xy->Hp->S->Prop
 some1:∀{d c H F},At d c H F->∃o,H d=some o/\NoT o
 some2:∀{d c H F},At d c H F->∃o,H c=some o/\NoT o
 congr:∀{d c H H' F},At d c H F->H' d=H d->H' c=H c->At d c H' F
 lam:List Str
abbrev GF :=Option<|Xy×Xy
def tabsK (l:List Str)(K:Qf):List (Str×Xy×Xy):=l.filterMap λx=>(PySem.W.tabIn K x).map λp=>(x,p)
def Jj (x:Str):Str:=x ++ ".<locals>." ++ "<lambda>"
def V2 (ts:List (Str×Xy×Xy))(H:Hp):Prop:=∀t∈ts,IE H t.2.2<|Jj t.1
def V2.congr (h:V2 ts H)(e:∀b,(b∈ts.map (·.2.2)\/∃φ,H b=some (.ext φ))->H' b=H b):V2 ts H':=λt ht=>by obtain⟨g,k,j,i⟩:=h t ht;refine#v[g,(e _<|.inl<|Vi ht).trans k,j,λa l q=>?_];obtain⟨c,f,d⟩:=i a l q;exact#v[c,f,(e c<|.inr #v[_,d]).trans d]
def V2.but (h:V2 ts H)(hd:H d=some o0)(hn:NoT o0)(kp:∀b o,H b=some o->b≠d->H' b=some o):V2 ts H':=h.congr λb c=>by
 obtain⟨o,e,a⟩:∃o,H b=some o/\b≠d:=by
  rcases c with c | ⟨φ,e⟩
  .obtain⟨t,ht,rfl⟩:=Rt.1 c;obtain⟨f,e,_⟩:=h t ht;exact#v[_,e,λz=>by rw[z,hd]at e;exact hn.1 f<|QU e]
  .exact#v[_,e,λz=>by rw[z,hd]at e;exact hn.2 φ<|QU e]
 rw[e];exact kp b o e a
structure FdS where
 ns:List Int
 a:Int
 l:Int
 t:Int
class Fam where
 At:Xy->Xy->Hp->FdS->Prop
 some1:∀{d c H F},At d c H F->∃o,H d=some o/\NoT o
 some2:∀{d c H F},At d c H F->∃o,H c=some o/\NoT o
 congr:∀{d c H H' F},At d c H F->H' d=H d->H' c=H c->At d c H' F
 lam:List Str
 drawF:Int->FdS->Option (Int×FdS)
 draw_some:∀{m} {F},0<m->m<1073741824->F.t<199999->∃r F',drawF m F=some (r,F')/\0<=r/\r<m/\F'.t=F.t+1
instance fdI [Fam]:Feeds where
 S:=FdS
 At:=Fam.At
 some1:=Fam.some1
 some2:=Fam.some2
 congr:=Fam.congr
 lam:=Fam.lam
def FdS.cellL (F:FdS):Int:=if F.ns=[] then 0 else(F.ns[(F.a % (F.ns.length:Int)).toNat]?).getD 0
def FdS.fst (F:FdS):Int:=(F.cellL % 1000003+47*F.a*F.a+31*F.a+907)*40009 % 999961
def FdS.mixL (F:FdS):Int:=((F.fst*F.fst+38317*F.a+101) % 2097143)*48271 % 2147483629 / 7
def fw (m:Int)(F:FdS):Option (Int×FdS):=if 0<m/\m<1073741824/\F.t<199999 then
  some (if 0<F.l then(F.l % m,#v[F.ns,F.a,F.l / m,F.t+1])
   else if 10 ^ 18<=F.cellL/\F.a<F.ns.length then(F.cellL % m,#v[F.ns,F.a+1,F.cellL / m,F.t+1])
   else(F.mixL % m,#v[F.ns,F.a+1,F.l,F.t+1]))
 else none
def oU (h0:0<m)(h1:m<1073741824)(h2:F.t<199999):∃r F',fw m F=some (r,F')/\0<=r/\r<m/\F'.t=F.t+1:=by
 have b:∀x,0<=x % m/\x % m<m:=λx=>#v[Xr _ (by lia),WO _ h0]
 unfold fw;rw[QH #v[h0,h1,h2]];by_cases hl:0<F.l
 .rw[QH hl];exact#v[_,_,rfl,(b _).1,(b _).2,rfl]
 .rw[QK hl];by_cases a:10 ^ 18<=F.cellL/\F.a<F.ns.length
  .rw[QH a];exact#v[_,_,rfl,(b _).1,(b _).2,rfl]
  .rw[QK a];exact#v[_,_,rfl,(b _).1,(b _).2,rfl]
@[reducible] def JX (l:List Str):Fam where
 At:=λd c H F=>H d=some (.lst [.ref c,.int F.a,.int F.l])/\H c=some (.lst<|F.ns.map V.int)/\F.ns.length<=63/\0<=F.a/\F.a<=F.t/\d≠c
 some1:=λh=>#v[_,h.1,#v[λ_ z=>(by cases z),λ_ z=>(by cases z)]]
 some2:=λh=>#v[_,h.2.1,#v[λ_ z=>(by cases z),λ_ z=>(by cases z)]]
 lam:=l
 congr:=λh e1 e2=>#v[e1.trans h.1,e2.trans h.2.1,h.2.2]
 drawF:=fw
 draw_some:=oU
instance famI:Fam:=JX []
section
def tabP (K:Qf):List Xy:=(tabsK Feeds.lam K).map (·.2.2)
def n5 (K:Qf):GF->List Xy
 | none=>tabP K
 | some (d,c)=>d::c::tabP K
def Hi {K}(h:b∈tabP K):b∈n5 K G:=by
 cases G with
 | none=>exact h
 | some p=>exact QG _<|QG _ h
abbrev FS :=Feeds.S
abbrev M (α:Type):=FS->Option (α×FS)
def JZ (G:GF)(H:Hp)(F:FS):Prop:=match G with
 | none=>True
 | some (d,c)=>Feeds.At d c H F
def FAt (K:Qf)(G:GF)(H:Hp)(F:FS):Prop:=JZ G H F/\V2 (tabsK Feeds.lam K) H
def FAt.bok {K}(h:FAt K G H F):BOk H (n5 K G):=λb a=>by
 have f:b∈tabP K->∃o,H b=some o:=λz=>by obtain⟨t,ht,rfl⟩:=Rt.1 z;obtain⟨i,g,_⟩:=h.2 t ht;exact#v[_,g]
 cases G with
 | none=>exact f a
 | some p =>
  obtain⟨d,c⟩:=p;simp only[n5,QQ]at a;rcases a with rfl | rfl | a
  .obtain⟨o,e,_⟩:=Feeds.some1 h.1;exact#v[o,e]
  .obtain⟨o,e,_⟩:=Feeds.some2 h.1;exact#v[o,e]
  .exact f a
def FAt.congr {K}(h:FAt K G H F)(e:∀b,(b∈n5 K G\/∃φ,H b=some (.ext φ))->H' b=H b):FAt K G H' F:=by
 refine#v[?_,h.2.congr λb a=>e b<|a.imp Hi id];cases G with
 | none=>trivial
 | some p =>obtain⟨d,c⟩:=p;exact Feeds.congr h.1 (e d<|.inl<|by simp[n5]) (e c<|.inl<|by simp[n5])
def FAt.same {K}(h:FAt K G H F)(s:j9 H H'):FAt K G H' F:=h.congr λb a=>by
 rcases a with a | ⟨φ,e⟩
 .obtain⟨o,e⟩:=h.bok b a;rw[e];exact s b o e
 .rw[e];exact s b _ e
inductive DV where
 | dat (d:My) | feed | own (ds:List My) | fn (x:Str) | adr (a:Xy) | dic (w:Bool) (c:Nat) (ps:List (My×My))
def DV.ow:DV->Bool
 | .own _=>true
 | .dic _ _ _=>true
 | _=>false
def J5:Nat->NKey
 | 0=>aW
 | 1=>lM
 | _+2=>Z3
def P8:(c:Nat)->My->Option (J5 c).K
 | 0=>DM
 | 1=>pD
 | _+2=>Ee
def KVs (K:Qf)(H:Hp)(c):List (My×My)->List ((J5 c).K×Xy×V)->Prop
 | [],xs=>xs=[]
 | p::ps,xs=>∃k b v r,xs=(k,b,v)::r/\P8 c p.1=some k/\b8 K H p.1 (.ref b)/\b8 K H p.2 v/\KVs K H c ps r
theorem KVs.same {K}(s:j9 H H'):∀{ps} {xs},KVs K H c ps xs->KVs K H' c ps xs
 | [],_,h=>h
 | _::_,_,#v[k,b,v,r,e,h1,h2,h3,h4]=>#v[k,b,v,r,e,h1,h2.same s,h3.same s,h4.same s]
def IVs (K:Qf)(H:Hp):List (My×My)->List (Int×V)->Prop
 | [],xs=>xs=[]
 | p::ps,xs=>∃i v r,xs=(i,v)::r/\p.1 = .int i/\b8 K H p.2 v/\IVs K H ps r
theorem IVs.same {K}(s:j9 H H'):∀{ps} {xs},IVs K H ps xs->IVs K H' ps xs
 | [],_,h=>h
 | _::_,_,#v[i,v,r,e,h1,h3,h4]=>#v[i,v,r,e,h1,h3.same s,h4.same s]
def iG (K:Qf)(H:Hp)(c:Nat)(ps:List (My×My))(a:Xy)(φ:XH->Prop):Prop :=
 (c≠9/\∃b,φ=NDi (J5 c) a b/\KVs K H c ps b)\/(c=9/\∃dy vs ep,φ=FrI a dy vs ep/\IVs K H ps dy)
def iG.same {K}(h:iG K H c ps a φ)(s:j9 H H'):iG K H' c ps a φ:=by
 rcases h with ⟨b,d,e,h⟩ | ⟨b,dy,vs,ep,e,h⟩
 .exact .inl #v[b,d,e,h.same s]
 .exact .inr #v[b,dy,vs,ep,e,h.same s]
def iG.not9 {K}(h:iG K H c ps a φ)(hc:c≠9):∃xs,φ=NDi (J5 c) a xs/\KVs K H c ps xs:=by
 rcases h with ⟨_,h⟩ | ⟨e,_⟩
 .exact h
 .exact absurd e hc
def iG.is9 {K}(h:iG K H 9 ps a φ):∃dy vs ep,φ=FrI a dy vs ep/\IVs K H ps dy:=by
 rcases h with ⟨e,_⟩ | ⟨_,h⟩
 .exact absurd rfl e
 .exact h
abbrev DE :=List<|Option DV
def DVr (K:Qf)(G:GF)(B:List Xy)(H:Hp):DV->V->Prop
 | .dat d,v=>b8 K (hid H B) d v
 | .feed,v=>∃d c,G=some (d,c)/\v = .ref d
 | .fn x,v=>∃a,v = .ref a/\PySem.W.nsIn K XS x=some (some<|.ref a)
 | .adr a,v=>v = .ref a
 | .dic _ c ps,v=>∃a φ,v = .ref a/\a∈B/\a ∉ n5 K G/\H a=some (.ext φ)/\ji a φ/\iG K (hid H B) c ps a φ
 | .own ds,v=>∃a b,v = .ref a/\a∈B/\a ∉ n5 K G/\H a=some (.lst b)/\a8 K (hid H B) ds b
structure SitE K G (B:List Xy) (E:DE) F (σ:St) H:Prop where
 fd:FAt K G H F
 fB:∀b∈n5 K G,b∈B
 bk:BOk H B
 ln:E.length = σ.length
 loc:∀(i:Nat) x,E[i]? = some (some x)->∃v,σ[i]? = some (some v)/\DVr K G B H x v
section
variable {K:Qf}
def C3 (bk:BOk H B)(k:Kp (n5 K G) H H')(f:FAt K G H' F'):BOk H' B:=λb a=>by
 by_cases h:b∈n5 K G
 .exact f.bok b h
 .obtain⟨o,e⟩:=bk b a;exact#v[o,k b o e h]
def DVr.step (h:DVr K G B H x v)(k:Kp (n5 K G) H H')(fB:∀b∈n5 K G,b∈B):DVr K G B H' x v:=by
 cases x with
 | dat d=>exact b8.same h<|k.hid fB
 | feed=>exact h
 | fn _=>exact h
 | adr _=>exact h
 | own o =>obtain⟨a,g,e,l,f,j,i⟩:=h;exact#v[a,g,e,l,f,k a _ j f,i.same<|k.hid fB]
 | dic w c n =>obtain⟨a,g,e,l,f,j,m,i⟩:=h;exact#v[a,g,e,l,f,k a _ j f,m,i.same<|k.hid fB]
def SitE.step (I:SitE K G B E F σ H)(k:Kp (n5 K G) H H')(f:FAt K G H' F'):SitE K G B E F' σ H' :=
 #v[f,I.fB,C3 I.bk k f,I.ln,λi x e=>by obtain⟨v,b,a⟩:=I.loc i x e;exact#v[v,b,a.step k I.fB]]
end
end
end

section
section
def TEd (K:Qf)(te:TE)(m:DE->M My):Prop:=∀G B E F a H Q d b,SitE K G B E F a H->m E F=some (d,b) ->
 (∀v H',Kp (n5 K G) H H'->FAt K G H' b->b8 K (hid H' B) d v->Q v H')->te a H Q
def TEs (K:Qf)(te:TE)(m:DE->M My):Prop:=∀G B E F a H Q d b,SitE K G B E F a H->m E F=some (d,b) ->
 (∀v H',Kp (n5 K G) H H'->FAt K G H' b->M0 K (n5 K G) B H' d v->Q v H')->te a H Q
def TEd.sh {K}(h:TEd K te m):TEs K te m:=λG B E F a H Q d c I e q=>h G B E F a H Q d c I e λv H' k f b=>q v H' k f<|xn b I.fB
def TTd (K:Qf)(tt:TT)(m:DE->M Bool):Prop:=∀G B E F a H Q b c,SitE K G B E F a H->m E F=some (b,c) ->
 (∀H',Kp (n5 K G) H H'->FAt K G H' c->Q b H')->tt a H Q
def TAd (K:Qf)(ta:TA)(m:DE->M (List My)):Prop:=∀G B E F a H Q b c,SitE K G B E F a H->m E F=some (b,c) ->
 (∀vs H',Kp (n5 K G) H H'->FAt K G H' c->a8 K (hid H' B) b vs->Q vs H')->ta a H Q
def eE (K:Qf)(fp B:List Xy)(H:Hp):List My->List V->Prop
 | [],vs=>vs=[]
 | d::ds,vs=>∃v r,vs=v::r/\M0 K fp B H d v/\eE K fp B H ds r
def TAs (K:Qf)(ta:TA)(m:DE->M (List My)):Prop:=∀G B E F a H Q b c,SitE K G B E F a H->m E F=some (b,c) ->
 (∀vs H',Kp (n5 K G) H H'->FAt K G H' c->eE K (n5 K G) B H' b vs->Q vs H')->ta a H Q
structure Ev K X e te m:Prop where
 pe:PE X e te
 ok:TEd K te m
structure Eb K X e te m:Prop where
 pe:PE X e te
 ok:TEs K te m
structure Et K X e tt m:Prop where
 pt:PT X e tt
 ok:TTd K tt m
structure Ew K X e tt m:Prop where
 pw:PW X e tt
 ok:TTd K tt m
structure Ea K X es ta m:Prop where
 pa:PA X es ta
 ok:TAd K ta m
structure Es K X es ta m:Prop where
 pa:PA X es ta
 ok:TAs K ta m
variable {K:Qf}
def Ev.bw (h:Ev K X e te m):Eb K X e te m:=#v[h.pe,h.ok.sh]
def sC (d:My):DE->M My:=λ_ F=>some (d,F)
def sV (i:Nat):DE->M My:=λE F=>match E[i]? with
 | some (some<|.dat d)=>some (d,F)
 | _=>none
def sW (i:Nat):DE->M My:=λE F=>match E[i]? with
 | some (some<|.dat d)=>some (d,F)
 | some (some<|.own ds)=>some (.list ds,F)
 | _=>none
def Dj (h:∀H,b8 K H d v):TEd K (tC v) (sC d):=λG B E F a H Q b c I e q=>by cases e;exact q v H Kp.refl I.fd<|h _
def f8 {i j}:Ev K X (.Constant (.int i) j pos) (tC<|.int i) (sC<|.int i):=#v[x6,Dj λ_=>b8.int]
def aX {x j}:Ev K X (.Constant (.bool x) j pos) (tC<|.bl x) (sC<|.bool x):=#v[yQ,Dj λ_=>b8.bl]
def GK {j}:Ev K X (.Constant .none j pos) (tC .non) (sC .none):=#v[Hx,Dj λ_=>b8.non]
def J7 {x j}:Ev K X (.Constant (.str x) j pos) (tC<|.str x) (sC<|.str x):=#v[pT,Dj λ_=>b8.st]
def JC (i):TEd K (Z0 i) (sV i):=λG B E F f H Q d g I e q=>by
 unfold sV at e;split at e
 .rename_i x a;cases e;obtain⟨v,c,b⟩:=I.loc i _ a;exact#v[v,c,q v H Kp.refl I.fd b]
 .cases e
def Jk (i):TEs K (Z0 i) (sW i):=λG B E F k H Q d m I e q=>by
 unfold sW at e;split at e
 .rename_i x a;cases e;obtain⟨v,c,b⟩:=I.loc i _ a;exact#v[v,c,q v H Kp.refl I.fd<|xn b I.fB]
 .rename_i x a;cases e;obtain⟨v,c,b⟩:=I.loc i _ a;refine#v[v,c,q v H Kp.refl I.fd ?_];obtain⟨p,f,rfl,l,h,g,j⟩:=b;exact#v[p,f,rfl,by rw[m7 h];exact g,j]
 .cases e
def g9 (i)(hN:autoParam (X.N[i]? = some x) eH)(hv:autoParam (Vis X.env.scope x) eN)(hd:autoParam (nDb x) eL)
  (hcd:autoParam (nCd x) eL):Ev K X (.Name x pos) (Z0 i) (sV i):=#v[P5 hN hv hd hcd,JC i]
def x8 (i)(hN:autoParam (X.N[i]? = some x) eH)(hv:autoParam (Vis X.env.scope x) eN)(hd:autoParam (nDb x) eL)
  (hcd:autoParam (nCd x) eL):Eb K X (.Name x pos) (Z0 i) (sW i):=#v[P5 hN hv hd hcd,Jk i]
def rD1 (K:Qf)(f:My->Option My):V->Hp->VK->Prop:=λx H Q=>∃fp B d r,BOk H B/\M0 K fp B H d x/\f d=some r/\∀v H',j9 H H'->b8 K (hid H' B) r v->Q v H'
def rD2 (K:Qf)(f:My->My->Option My):R2:=λx y H Q=>∃fp B d e r,BOk H B/\M0 K fp B H d x/\M0 K fp B H e y/\f d e=some r/\∀v H',j9 H H'->b8 K (hid H' B) r v->Q v H'
def rDN (K:Qf)(f:List My->Option My):List V->Hp->VK->Prop:=λb H Q=>∃fp B a r,BOk H B/\eE K fp B H a b/\f a=some r/\∀v H',j9 H H'->b8 K (hid H' B) r v->Q v H'
def s1 (f:My->Option My)(a:DE->M My):DE->M My:=λE F=>(a E F).bind λp=>(f p.1).bind λz=>some (z,p.2)
def s2 (f:My->My->Option My)(a b:DE->M My):DE->M My:=λE F=>(a E F).bind λp=>(b E p.2).bind λq=>(f p.1 q.1).bind λz=>some (z,q.2)
def sN (f:List My->Option My)(a:DE->M (List My)):DE->M My:=λE F=>(a E F).bind λp=>(f p.1).bind λz=>some (z,p.2)
def DK (ha:TEs K ta ma):TEd K (tUn (rD1 K f) ta) (s1 f ma):=λG B E F c H Q d n I e q=>by obtain⟨⟨x,l⟩,j,e⟩:=bS9 e;obtain⟨z,i,e⟩:=bS9 e;cases e;refine ha G B E F c H _ x l I j λv m a b h=>#v[n5 K G,B,x,_,C3 I.bk a b,h,i,λw k s g=>q w k (a.trans<|Kp.same s) (b.same s) g]
def sd (ha:TEs K ta ma)(hb:TEs K tb mb):TEd K (tOp (rD2 K f) ta tb) (s2 f ma mb):=λG B E F c H Q d C I e q=>by
 obtain⟨⟨x,h⟩,o,e⟩:=bS9 e;obtain⟨⟨y,t⟩,n,e⟩:=bS9 e;obtain⟨z,m,e⟩:=bS9 e;cases e;refine ha G B E F c H _ x h I o λv r b l k=>?_
 refine hb G B E h c r _ y t (I.step b l) n λw A a g j=>#v[n5 K G,B,x,y,_,C3 I.bk (b.trans a) g,k.step a I.fB,j,m,λu p s i=>q u p ((b.trans a).trans<|Kp.same s) (g.same s) i]
def zb (ha:TAs K t ms):TEd K (tCB (rDN K f) t) (sN f ms):=λG B E F c H Q d n I e q=>by obtain⟨⟨x,l⟩,j,e⟩:=bS9 e;obtain⟨z,i,e⟩:=bS9 e;cases e;exact ha G B E F c H _ x l I j λvs m a b h=>#v[n5 K G,B,x,_,C3 I.bk a b,h,i,λw k s g=>q w k (a.trans<|Kp.same s) (b.same s) g]
def u0 (ho:OpR X (binaryOp op) (rD2 K f))(ha:Eb K X a ta ma)(hb:Eb K X b tb mb):Ev K X (.BinOp a op b pos) (tOp (rD2 K f) ta tb) (s2 f ma mb):=#v[G5 ho ha.pe hb.pe,sd ha.ok hb.ok]
def fm (ho:UnR X (unaryOp op) (rD1 K f))(ha:Eb K X a ta ma):Ev K X (.UnaryOp op a pos) (tUn (rD1 K f) ta) (s1 f ma):=#v[xN ho ha.pe,DK ha.ok]
def cE (ho:OpR X (compareOp op) (rD2 K f))(ha:Eb K X a ta ma)(hb:Eb K X b tb mb)(hm:autoParam (behindInMarks op b=false) gV):Ev K X (.Compare a [op] [b] pos) (tOp (rD2 K f) ta tb) (s2 f ma mb):=#v[CC ho ha.pe hb.pe hm,sd ha.ok hb.ok]
def mM (hr:IxR X (rD2 K f))(ha:Eb K X a ta ma)(hb:Eb K X b tb mb)(hs:qZ b:=by intro _ _;rfl):Ev K X (.Subscript a b pos) (tOp (rD2 K f) ta tb) (s2 f ma mb):=#v[cb hr ha.pe hb.pe hs,sd ha.ok hb.ok]
def A7 {id}(hc:D1 X (.builtin id) (rDN K f))(hm:X.mg x=none)(hv:XW x=some (.builtin id))(ha:Es K X (e::es) t ms)(hg:autoParam (Gl X x) eH)(hn:autoParam (x ≠ "__name__") eL)(hdb:autoParam (nDb x) eL)
  (he:autoParam (XJ (e::es) X.env=(false,eval e X.env)::XJ es X.env) eH) (hpl:autoParam ((XO pos<|XJ es X.env).any (·.1)=false) eH):Ev K X (.Call (.Name x p) (e::es) [] pos) (tCB (rDN K f) t) (sN f ms):=#v[Y9 hc hg hm hv ha.pa hn hdb he hpl,zb ha.ok]
def ai (hc:D1 X (.type T) (rDN K f))(hm:X.mg x=none)(hv:XW x=some (.type T))(ha:Es K X (e::es) t ms)(hg:autoParam (Gl X x) eH)(hn:autoParam (x ≠ "__name__") eL)(hdb:autoParam (nDb x) eL)
  (he:autoParam (XJ (e::es) X.env=(false,eval e X.env)::XJ es X.env) eH) (hpl:autoParam ((XO pos<|XJ es X.env).any (·.1)=false) eH):Ev K X (.Call (.Name x p) (e::es) [] pos) (tCB (rDN K f) t) (sN f ms):=#v[jr hc hg hm hv ha.pa hn hdb he hpl,zb ha.ok]
def k8 :DE->M (List My):=λ_ F=>some ([],F)
def c8 (a:DE->M My)(r:DE->M (List My)):DE->M (List My):=λE F=>(a E F).bind λp=>(r E p.2).bind λq=>some (p.1::q.1,q.2)
def j6 :Ea K X [] az k8:=#v[K5,λG B E F a H Q b c I e q=>by cases e;exact q [] H Kp.refl I.fd a8.nil]
def c7 (ha:Ev K X e te m)(hr:Ea K X es t ms)(hs:autoParam (XJ (e::es) X.env=(false,eval e X.env)::XJ es X.env) eH):Ea K X (e::es) (J8 te t) (c8 m ms) :=
 #v[A1 ha.pe hr.pa hs,λG B E F a H Q r s I e q=>by
  obtain⟨⟨x,d⟩,l,e⟩:=bS9 e;obtain⟨⟨f,p⟩,k,e⟩:=bS9 e;cases e;refine ha.ok G B E F a H _ x d I l λv o c j h=>?_
  refine hr.ok G B E d a o _ f p (I.step c j) k λvs n b i g=>q _ n (c.trans b) i<|.cons (h.same<|b.hid I.fB) g]
def B7 :Es K X [] az k8:=#v[K5,λG B E F a H Q b c I e q=>by cases e;exact q [] H Kp.refl I.fd rfl]
def u9 (ha:Eb K X e te m)(hr:Es K X es t ms)(hs:autoParam (XJ (e::es) X.env=(false,eval e X.env)::XJ es X.env) eH):Es K X (e::es) (J8 te t) (c8 m ms) :=
 #v[A1 ha.pe hr.pa hs,λG B E F a H Q r s I e q=>by
  obtain⟨⟨x,d⟩,l,e⟩:=bS9 e;obtain⟨⟨f,p⟩,k,e⟩:=bS9 e;cases e;refine ha.ok G B E F a H _ x d I l λv o c j h=>?_
  refine hr.ok G B E d a o _ f p (I.step c j) k λvs n b i g=>q _ n (c.trans b) i #v[v,vs,rfl,h.step b I.fB,g]]
def G9 (a:DE->M (List My)):DE->M My:=λE F=>(a E F).bind λp=>if p.1.length<=XI then some (.tuple p.1,p.2) else none
def uf (a:DE->M (List My)):DE->M My:=λE F=>(a E F).bind λp=>if p.1.length<=XI then some (.list p.1,p.2) else none
def A3 {k}(h:Ea K X es t ms):Ev K X (.Tuple es k pos) (ur t) (G9 ms):=#v[jY h.pa,λG B E F g H Q d m I e q=>by
 obtain⟨⟨x,j⟩,i,e⟩:=bS9 e;split at e
 .rename_i hl;cases e;refine h.ok G B E F g H _ x j I i λvs l b f c=>#v[by rw[c.length];exact hl,λp a=>q _ _ (b.trans<|Kp.upd a) (f.same<|j9.upd a)<|P0 (C3 I.bk b f) a c]
 .cases e]
def oO (h:Ea K X es t ms):Ev K X (.List es pos) (Am t) (uf ms):=#v[kI h.pa,λG B E F g H Q d l I e q=>by
 obtain⟨⟨x,j⟩,i,e⟩:=bS9 e;split at e
 .rename_i hl;cases e;refine h.ok G B E F g H _ x j I i λvs k b f c=>#v[by rw[c.length];exact hl,λp a=>q _ _ (b.trans<|Kp.upd a) (f.same<|j9.upd a)<|bF (C3 I.bk b f) a c]
 .cases e]
def X3:My->Option Bool
 | .bool b=>some b
 | _=>none
def T4 {b} (h:X3 d=some b):d = .bool b:=by cases d <;> simp[X3]at h;rw[h]
def lR (a b:DE->M My):DE->M My:=λE F=>(a E F).bind λp=>(X3 p.1).bind λc=>if c=true then b E p.2 else some (.bool false,p.2)
def CO (a:DE->M My):DE->M My:=λE F=>(a E F).bind λp=>(X3 p.1).bind λc=>some (.bool (!c),p.2)
def ia {op}(h:Ev K X a te m):Ev K X (.BoolOp op [a] pos) te m:=#v[EF h.pe,h.ok]
def eW (ha:Ev K X a ta ma)(hb:Ev K X (.BoolOp .And (b::rest) pos) tb mb):Ev K X (.BoolOp .And (a::b::rest) pos) (DO ta tb) (lR ma mb):=#v[FD ha.pe hb.pe,λG B E F g H Q d s I e q=>by
 obtain⟨⟨x,k⟩,p,e⟩:=bS9 e;obtain⟨c,o,e⟩:=bS9 e;refine ha.ok G B E F g H _ x k I p λv j f i h=>?_
 have:=T4 o;simp only at this;subst this;simp only[b8]at h;refine#v[c,h,?_];cases c with
 | true=>exact hb.ok G B E k g j _ d s (I.step f i) e λw r l n m=>q w r (f.trans l) n m
 | false=>cases e;exact q _ j f i b8.bl]
def Fk (ha:Ev K X a ta ma):Ev K X (.UnaryOp .Not a pos) (DH ta) (CO ma):=#v[Hj ha.pe,λG B E F f H Q d m I e q=>by
 obtain⟨⟨x,l⟩,j,e⟩:=bS9 e;obtain⟨c,i,e⟩:=bS9 e;cases e;refine ha.ok G B E F f H _ x l I j λv k g h b=>?_
 have:=T4 i;simp only at this;subst this;simp only[b8]at b;exact#v[_,b,q _ k g h b8.bl]]
def sIf (c:DE->M Bool)(a b:DE->M My):DE->M My:=λE F=>(c E F).bind λp=>if p.1=true then a E p.2 else b E p.2
def Jd {mt} (hc:Et K X c tt mt)(ha:Ev K X a ta ma)(hb:Ev K X b tb mb):Ev K X (.IfExp c a b pos) (tIf tt ta tb) (sIf mt ma mb):=#v[nA hc.pt ha.pe hb.pe,λG B E F g H Q d o I e q=>by
 obtain⟨⟨x,l⟩,p,e⟩:=bS9 e;refine hc.ok G B E F g H _ x l I p λn f m=>?_
 cases x with
 | true=>exact ha.ok G B E l g n _ d o (I.step f m) e λw k h j i=>q w k (f.trans h) j i
 | false=>exact hb.ok G B E l g n _ d o (I.step f m) e λw k h j i=>q w k (f.trans h) j i]

def uB (a:DE->M My):DE->M Bool:=λE F=>(a E F).bind λp=>(X3 p.1).bind λc=>some (c,p.2)
def tM (a b:DE->M Bool):DE->M Bool:=λE F=>(a E F).bind λp=>if p.1=true then b E p.2 else some (false,p.2)
def uOr (a b:DE->M Bool):DE->M Bool:=λE F=>(a E F).bind λp=>if p.1=true then some (true,p.2) else b E p.2
def cS (a:DE->M Bool):DE->M Bool:=λE F=>(a E F).bind λp=>some (!p.1,p.2)
def K9 (ho:OpR X (compareOp op) (rD2 K f))(ha:Eb K X a ta ma)(hb:Eb K X b tb mb)(hm:autoParam (behindInMarks op b=false) gV):Et K X (.Compare a [op] [b] pos) (mW<|tOp (rD2 K f) ta tb) (uB<|s2 f ma mb) :=
 #v[bR ho ha.pe hb.pe hm,λG B E F h H Q d o I e q=>by
  obtain⟨⟨x,n⟩,l,e⟩:=bS9 e;obtain⟨c,k,e⟩:=bS9 e;cases e;refine sd ha.ok hb.ok G B E F h H _ x n I l λv m i j g=>?_
  have:=T4 k;simp only at this;subst this;simp only[b8]at g;exact#v[_,g,q m i j]]
def qR (ha:Et K X a tA na):Ew K X (.BoolOp .And [a] pos) tA na:=#v[sv ha.pt,ha.ok]
def qC (ha:Et K X a tA na):Ew K X (.BoolOp .Or [a] pos) tA na:=#v[GT ha.pt,ha.ok]
def xc (ha:Et K X a tA na)(hb:Ew K X (.BoolOp .And (b::rest) pos) tB nb):Ew K X (.BoolOp .And (a::b::rest) pos) (JD tA tB) (tM na nb):=#v[vZ ha.pt hb.pw,λG B E F f H Q d n I e q=>by
 obtain⟨⟨x,i⟩,l,e⟩:=bS9 e;refine ha.ok G B E F f H _ x i I l λh c g=>?_
 cases x with
 | true=>exact hb.ok G B E i f h _ d n (I.step c g) e λm j k=>q m (c.trans j) k
 | false=>cases e;exact q h c g]
def qW (ha:Et K X a tA na)(hb:Ew K X (.BoolOp .Or (b::rest) pos) tB nb):Ew K X (.BoolOp .Or (a::b::rest) pos) (tOr tA tB) (uOr na nb):=#v[Jt ha.pt hb.pw,λG B E F f H Q d n I e q=>by
 obtain⟨⟨x,i⟩,l,e⟩:=bS9 e;refine ha.ok G B E F f H _ x i I l λh c g=>?_
 cases x with
 | false=>exact hb.ok G B E i f h _ d n (I.step c g) e λm j k=>q m (c.trans j) k
 | true=>cases e;exact q h c g]
def Ew.t (h:Ew K X a tA na):Et K X a tA na:=#v[h.pw.pt,h.ok]
def V9 (ha:Et K X a tA na):Et K X (.UnaryOp .Not a pos) (Ik tA) (cS na):=#v[FF ha.pt,λG B E F b H Q d j I e q=>by obtain⟨⟨x,i⟩,g,e⟩:=bS9 e;cases e;exact ha.ok G B E F b H _ x i I g λh c f=>q h c f]
def AX:My->Option Bool
 | .none=>some false
 | .bool b=>some b
 | .int i=>some<|i != 0
 | .str x=>if x.length<=XI then some ((x.length:Int) != 0) else none
 | .tuple ds=>some (!ds.isEmpty)
 | .list ds=>some (!ds.isEmpty)
 | .dict _=>none
def uT (a:DE->M My):DE->M Bool:=λE F=>(a E F).bind λp=>(AX p.1).bind λc=>some (c,p.2)
def dQ (h:a8 K H ds xs):xs.isEmpty=ds.isEmpty:=by
 cases ds with
 | nil=>simp only[a8]at h;subst h;rfl
 | cons d r=>simp only[a8]at h;obtain⟨x,r,rfl,_⟩:=h;rfl
def Gz {c} (h:M0 K fp B H d v)(e:AX d=some c):zF K v H c:=by
 cases d with
 | none=>cases h;cases e;rfl
 | bool b=>cases h;cases e;rfl
 | int i=>cases h;cases e;rfl
 | str x =>
  cases h;simp only[AX]at e;split at e
  .rename_i hl;cases e;exact#v[hl,rfl]
  .cases e
 | tuple j =>obtain⟨p,a,rfl,f,g⟩:=h;cases e;exact .inr (.inl #v[a,f.same f7,by rw[dQ g]])
 | list j =>obtain⟨p,a,rfl,f,g⟩:=h;cases e;exact .inl #v[a,SqL.of<|f7 _ _ f,by rw[dQ g]]
 | dict dy=>exact(h).elim
def M5 (ha:Eb K X a ta ma)(hK:autoParam (X.K=K) eH)(he:autoParam (∀whole,isTrue a X.env whole=(do let v <-whole;standAt a.pos;holding [v] (truthy v))) eT) :
  Et K X a (λσ H Q=>ta σ H λx H'=>∃k,zF K x H' k/\Q k H') (uT ma):=#v[uh hK ha.pe he,λG B E F σ H Q d m I e q=>by obtain⟨⟨x,l⟩,i,e⟩:=bS9 e;obtain⟨c,h,e⟩:=bS9 e;cases e;exact ha.ok G B E F σ H _ x l I i λv j b g f=>#v[_,Gz f h,q j b g]]
end
end

section
section
variable {K:Qf}
def fR {vs} (h:eE K fp B H ds vs)(e:ds=[d]):∃v,vs=[v]/\M0 K fp B H d v:=by subst e;obtain⟨v,r,rfl,b,a⟩:=h;cases a;exact#v[v,rfl,b]
def EU {vs} (h:eE K fp B H ds vs)(eq:ds=[d,e]):∃v w,vs=[v,w]/\M0 K fp B H d v/\M0 K fp B H e w:=by subst eq;obtain⟨v,r,rfl,c,w,f,rfl,b,a⟩:=h;cases a;exact#v[v,w,rfl,c,b]
def i2 (C:Int->Int->Prop)[∀i j,Decidable<|C i j](g:Int->Int->My):My->My->Option My
 | .int i,.int j=>if C i j then some (g i j) else none
 | _,_=>none
def rj [∀i j,Decidable<|C i j](h:i2 C g d e=some r):∃i j,d = .int i/\e = .int j/\C i j/\r=g i j:=by
 cases d <;> cases e <;> simp only[i2]at h <;> try cases h
 split at h
 .rename_i a;cases h;exact#v[_,_,rfl,rfl,a,rfl]
 .cases h
def Er [∀i j,Decidable<|C i j](ho:OpR X f (rI C g))(hg:∀H i j,b8 K H (gd i j)<|g i j):OpR X f (rD2 K<|i2 C gd):=by intro a s b H x y v u Q I k c h;obtain⟨fp,B,d,e,r,bk,o,n,l,q⟩:=h;obtain⟨i,j,rfl,rfl,m,rfl⟩:=rj l;cases o;cases n;exact ho a s b H _ _ v u Q I k c #v[i,j,rfl,rfl,m,q _ H (j9.refl H)<|hg _ i j]
def iB (ho:OpR X f (rI0 g))(hg:∀H i j,b8 K H (gd i j)<|g i j):OpR X f (rD2 K<|i2 (λ_ _=>True) gd):=by intro a s b H x y v u Q I k c h;obtain⟨fp,B,d,e,r,bk,n,m,l,q⟩:=h;obtain⟨i,j,rfl,rfl,o,rfl⟩:=rj l;cases n;cases m;exact ho a s b H _ _ v u Q I k c #v[i,j,rfl,rfl,q _ H (j9.refl H)<|hg _ i j]
abbrev bY :=i2 (λ_ _=>True) λi j=>.int<|i-j
def X4 :OpR X (binaryOp .Sub) (rD2 K bY):=iB EY λ_ _ _=>b8.int
instance:∀i j,Decidable (CV i j):=λi j=>inferInstanceAs<|Decidable<|_/\_/\_
instance:∀i j,Decidable (wB i j):=λi j=>inferInstanceAs<|Decidable<|(_/\_)\/(_/\_)
abbrev Fs :=i2 (λ_ j=>0<j) λi j=>.int<|i % j
def Ga :OpR X (binaryOp .Mod) (rD2 K Fs):=Er ay λ_ _ _=>b8.int
def xa (i j:Int):Prop:=j≠0/\j.natAbs<2 ^ 9000
instance {i j:Int}:Decidable (xa i j):=inferInstanceAs<|Decidable<|_/\_
@[irreducible] def X7:Nat:=2 ^ 400000
def rf :X7=2 ^ 400000:=by unfold X7;rfl
def gh (h:n<=400000):2 ^ n<=X7:=by rw[rf];exact Rf (by decide) h
def Big (i j:Int):Prop:=wB i j\/(i.natAbs<X7/\j.natAbs<X7)
instance {i j:Int}:Decidable (Big i j):=inferInstanceAs<|Decidable<|_\/_
def qO (h:i.natAbs<2 ^ n):Builtin.Int.intBits i<=n:=by
 unfold Builtin.Int.intBits;split
 .exact Sb _
 .rename_i a;have a:i.natAbs≠0:=λz=>a (by simpa using z)
  exact(Xt a).2 h
def Big.ok (h:Big i j):IntMulOk i j:=by
 rcases h with h | ⟨f,d⟩
 .exact h.ok
 .unfold IntMulOk;have e:Builtin.Int.intTooBig ((Builtin.Int.intBits i)+Builtin.Int.intBits j)=false:=by
   rw[rf]at f d;have a:=qO f;have b:=qO d;have c:bitsLine=134217728:=by decide
   refine Rk ?_;rw[c];lia
  rw[e,Bool.and_false];exact Ri
def Ai :OpR X (binaryOp .Mult) (rI Big λi j=>.int<|i*j):=opI λ_ _ _ _ _ _ _ a q=>mul_int q a.ok
def xJ :OpR X (binaryOp .FloorDiv) (rI xa λi j=>.int<|i.fdiv j):=opI λi j _ _ _ _ _ a q=>by
 have b:=λz=>a.1<|Int.natAbs_eq_zero.1 z
 exact floordiv_int a.1 q<|.inl<|PyProof.noPylong_of_log2<|(Xt b).2 a.2
abbrev lU :=i2 xa λi j=>.int<|i.fdiv j
def rG :OpR X (binaryOp .FloorDiv) (rD2 K lU):=Er xJ λ_ _ _=>b8.int
abbrev ltD :=i2 (λ_ _=>True) λi j=>.bool<|decide (i<j)
abbrev leD :=i2 (λ_ _=>True) λi j=>.bool<|decide (i<=j)
abbrev gtD :=i2 (λ_ _=>True) λi j=>.bool<|decide (j<i)
abbrev geD :=i2 (λ_ _=>True) λi j=>.bool<|decide (j<=i)
def tD :OpR X (compareOp .Lt) (rD2 K ltD):=iB Dm λ_ _ _=>b8.bl
def Ir :OpR X (compareOp .LtE) (rD2 K leD):=iB HM λ_ _ _=>b8.bl
def HX :OpR X (compareOp .Gt) (rD2 K gtD):=iB zR λ_ _ _=>b8.bl
def DG :OpR X (compareOp .GtE) (rD2 K geD):=iB Dt λ_ _ _=>b8.bl
def Q4:My->My->Option My
 | .int i,.int j=>some<|.int<|i+j
 | .str x,.str y=>if x.length+y.length<=XI then some (.str<|x++y) else none
 | .tuple xs,.tuple ys=>if xs.length+ys.length<=XI then some (.tuple<|xs++ys) else none
 | .list xs,.list ys=>if xs.length+ys.length<=XI then some (.list<|xs++ys) else none
 | _,_=>none
def a8.nil_of (h:a8 K H ds xs)(e:xs=[]):ds=[]:=by subst e;exact UF.1 (by rw[<-h.length];rfl)
def G4 (hK:X.K=K):OpR X (binaryOp .Add) (rD2 K Q4):=by
 intro c s k H x y v u Q I o n h;obtain⟨fp,B,d,e,r,bk,C,A,f,q⟩:=h;cases d <;> cases e <;> simp only[Q4]at f <;> try cases f
 .cases C;cases A;exact cM c s k H _ _ v u Q I o n #v[_,_,rfl,rfl,q _ H (j9.refl H) b8.int]
 .cases C;cases A;split at f
  .rename_i hl;cases f;exact oS c s k H _ _ v u Q I o n #v[_,_,rfl,rfl,hl,q _ H (j9.refl H) b8.st]
  .cases f
 .obtain⟨a,m,rfl,w,i⟩:=C;obtain⟨b,l,rfl,t,g⟩:=A;split at f
  .rename_i hl;cases f;refine FW c s k H _ _ v u Q I o n #v[a,b,m,l,rfl,rfl,f7 _ _ w,f7 _ _ t,by rw[i.length,g.length];exact hl,λp j=>q _ _ (j9.upd j)<|bF bk j<|a8.append g i]
  .cases f
 .obtain⟨a,m,rfl,w,i⟩:=C;obtain⟨b,l,rfl,t,g⟩:=A;split at f
  .rename_i hl;cases f;refine Ck hK c s k H _ _ v u Q I o n #v[a,b,m,l,rfl,rfl,w.same f7,t.same f7,by rw[i.length,g.length];exact hl,λz=>q _ H (j9.refl H) ?_,λz=>q _ H (j9.refl H) ?_,λp j=>q _ _ (j9.upd j)<|P0 bk j<|a8.append g i]
   .cases a8.nil_of i z;simp only[RC];exact#v[b,l,rfl,t,g]
   .cases a8.nil_of g z;simp only[Sd];exact#v[a,m,rfl,w,i]
  .cases f
def GX:My->My->Option My
 | .int i,.int j=>if Big i j then some (.int<|i*j) else none
 | .list xs,.int k=>if -(2 ^ 63)<=k/\k<2 ^ 63/\xs.length*k.toNat<=XI then some (.list (List.replicate k.toNat xs).flatten) else none
 | _,_=>none
theorem a8.rep (h:a8 K H ds xs):∀n,a8 K H (List.replicate n ds).flatten (List.replicate n xs).flatten
 | 0=>a8.nil
 | n+1=>by rw[Sf,Sf,SY,SY];exact a8.append (a8.rep h n) h
def Ha :OpR X (binaryOp .Mult) (rD2 K GX):=by
 intro b s g H x y v u Q I j i h;obtain⟨fp,B,d,e,r,bk,n,m,c,q⟩:=h;cases d <;> cases e <;> simp only[GX]at c <;> try cases c
 .cases n;cases m;split at c
  .rename_i f;cases c;exact Ai b s g H _ _ v u Q I j i #v[_,_,rfl,rfl,f,q _ H (j9.refl H) b8.int]
  .cases c
 .obtain⟨a,o,rfl,t,l⟩:=n;cases m;split at c
  .rename_i f;cases c;exact xZ b s g H _ _ v u Q I j i #v[a,_,o,rfl,rfl,f7 _ _ t,f.1,f.2.1,by rw[l.length];exact f.2.2,λp k=>q _ _ (j9.upd k)<|bF bk k<|a8.rep l _]
  .cases c
open PySem.SeqAt in
def eqD (neg:Bool):My->My->Option My
 | .str x,.str y=>some (.bool<|if neg then !decide (x=y) else decide (x=y))
 | d,e=>if shaped d=true/\shaped e=true then some (.bool<|if neg then !PyData.eqv d e else My.eqv d e) else none
def Y8 (hK:X.K=K)(hu:X.A.units+64<XZ):OpR X (compareOp .Eq) (rD2 K<|eqD false):=by
 subst hK;intro f s m H x y v u Q I i g h;obtain⟨fp,B,d,e,r,bk,l,k,c,q⟩:=h;unfold eqD at c;split at c
 .cases c;cases l;cases k;have z:=q _ H (j9.refl H) b8.bl;rename_i a b;have e:decide (V.str a=V.str b)=decide (a=b):=by simp
  exact Ih f s m H _ _ v u Q I i g #v[rfl,by rw[e];exact z]
 .split at c
  .rename_i j;cases c;obtain⟨as,o⟩:=P2 I _ x v l.dat i;obtain⟨bs,n⟩:=P2 I _ y u k.dat g;exact eq_dataH o n j.1 j.2 hu #v[.bl _,H,I,rfl,q _ H (j9.refl H) b8.bl]
  .cases c
def og (hK:X.K=K)(hu:X.A.units+64<XZ):OpR X (compareOp .NotEq) (rD2 K<|eqD true):=by
 subst hK;intro f s m H x y v u Q I i g h;obtain⟨fp,B,d,e,r,bk,l,k,c,q⟩:=h;unfold eqD at c;split at c
 .cases c;cases l;cases k;have z:=q _ H (j9.refl H) b8.bl;rename_i a b;have e:decide (V.str a=V.str b)=decide (a=b):=by simp
  exact IS f s m H _ _ v u Q I i g #v[rfl,by rw[e];exact z]
 .split at c
  .rename_i j;cases c;obtain⟨as,o⟩:=P2 I _ x v l.dat i;obtain⟨bs,n⟩:=P2 I _ y u k.dat g;exact ne_dataH o n j.1 j.2 hu #v[.bl _,H,I,rfl,q _ H (j9.refl H) b8.bl]
  .cases c
open PySem.SeqAt in
def inD (neg:Bool):My->My->Option My
 | d,.list xs=>if shaped (.list xs)=true/\shaped d=true then some (.bool<|if neg then !(xs.any λy=>My.eqv y d) else xs.any λy=>My.eqv y d) else none
 | d,.tuple xs=>if shaped (.tuple xs)=true/\shaped d=true then some (.bool<|if neg then !(xs.any λy=>My.eqv y d) else xs.any λy=>My.eqv y d) else none
 | _,_=>none
def wz (hK:X.K=K)(hu:X.A.units+65<XZ):OpR X (compareOp .NotIn) (rD2 K<|inD true):=by
 subst hK;intro g s m H x y v u Q I j i h;obtain⟨fp,B,d,e,r,bk,l,k,a,q⟩:=h;obtain⟨as,f⟩:=P2 I _ x v l.dat j;obtain⟨bs,c⟩:=P2 I _ y u k.dat i;cases e <;> simp only[inD]at a <;> try cases a
 .split at a
  .rename_i b;cases a;exact PySem.SeqAt.notIn_list_reads c f (by have:=TQ b.1;simpa only[My.canLay0] using this) (TQ b.2) (room_in_shaped b.2 hu) #v[.bl _,H,I,rfl,q _ H (j9.refl H) b8.bl]
  .cases a
 .split at a
  .rename_i b;cases a;exact PySem.SeqAt.notIn_tuple_reads c f (by have:=TQ b.1;simpa only[My.canLay0] using this) (TQ b.2) (room_in_shaped b.2 hu) #v[.bl _,H,I,rfl,q _ H (j9.refl H) b8.bl]
  .cases a
end
end

section
section
variable {K:Qf}
def a8.at (h:a8 K H ds xs)(e:atI ds i=some d):∃v,atI xs i=some v/\b8 K H d v:=by
 unfold atI at e ⊢;rw[h.length];cases q:ixN ds.length i with
 | none=>rw[q]at e;cases e
 | some j =>
  rw[q]at e;have e:ds[j]? = some d:=e;obtain⟨c,_⟩:=QR.1 e;have a:xs[j]? = some (xs[j]'(by rw[h.length];exact c)):=by simp
  obtain⟨g,b,f⟩:=h.get a;rw[e]at b;cases b;exact#v[_,a,f]
def ixD:My->My->Option My
 | .list ds,.int i=>atI ds i
 | .tuple ds,.int i=>atI ds i
 | .str x,.int i=>if x.length<=XI then(atI x.cps.toList i).map λc=>.str #v[#[c]] else none
 | _,_=>none
def lZ (hK:X.K=K):IxR X (rD2 K ixD):=by
 intro b f g s k H x y v u Q I n m h o;obtain⟨fp,B,d,e,r,bk,A,z,i,q⟩:=h;cases d <;> cases e <;> simp only[ixD]at i <;> try cases i
 .cases A;cases z;split at i
  .rename_i hl;obtain⟨c,j,rfl⟩:=Re.1 i;exact Ft b f g s k H _ _ v u Q I n m #v[_,_,c,rfl,rfl,hl,j,q _ H (j9.refl H) b8.st] o
  .cases i
 .obtain⟨a,l,rfl,t,p⟩:=A;cases z;obtain⟨w,j,C⟩:=a8.at p i;exact yP hK b f g s k H _ _ v u Q I n m #v[a,l,_,w,rfl,rfl,SqL.of<|f7 _ _ t,j,q w H (j9.refl H) C] o
 .obtain⟨a,l,rfl,t,p⟩:=A;cases z;obtain⟨w,j,C⟩:=a8.at p i;exact AV hK b f g s k H _ _ v u Q I n m #v[a,l,_,w,rfl,rfl,t.same f7,j,q w H (j9.refl H) C] o
def Bg (h:IsPart v o):∃p,v=partValue p/\p.map (·.1)=o:=by
 cases h with
 | none=>exact#v[none,rfl,rfl]
 | int i t=>exact#v[some (i,t),rfl,rfl]
end
section
def K8:My->Option Int
 | .int i=>some i
 | _=>none
def Q1 (h:K8 d=some i):d = .int i:=by cases d <;> simp[K8]at h;rw[h]
end
section
variable {K:Qf}
def ua:List My->Option My
 | [.list ds]=>some<|.int ds.length
 | [.tuple ds]=>some<|.int ds.length
 | [.str x]=>if x.length<=XI then some (.int x.length) else none
 | _=>none
def pY (hK:X.K=K):D1 X (.builtin "len") (rDN K ua):=by
 intro b s e H d us Q I r h;obtain⟨fp,B,l,z,bk,j,c,q⟩:=h;unfold ua at c;split at c <;> try cases c
 .obtain⟨v,rfl,a,d,rfl,i,g⟩:=fR j rfl;have:=q _ H (j9.refl H) b8.int;rw[<-g.length]at this;exact cn hK b s e H _ us Q I r #v[a,d,rfl,.inl<|SqL.of<|f7 _ _ i,this]
 .obtain⟨v,rfl,a,d,rfl,i,g⟩:=fR j rfl;have:=q _ H (j9.refl H) b8.int;rw[<-g.length]at this;exact cn hK b s e H _ us Q I r #v[a,d,rfl,.inr<|i.same f7,this]
 .rename_i k;obtain⟨v,rfl,f⟩:=fR j rfl;have f:=f;subst f;split at c
  .rename_i hl;cases c;exact ka b s e H _ us Q I r #v[_,rfl,hl,q _ H (j9.refl H) b8.int]
  .cases c
def Y1:List My->Option My
 | [.list ds]=>some<|.tuple ds
 | [.tuple ds]=>some<|.tuple ds
 | _=>none
def Y7 (hK:X.K=K):D1 X (.type "tuple") (rDN K Y1):=by
 intro b s g H c us Q I r h;obtain⟨fp,B,m,z,bk,k,e,q⟩:=h;unfold Y1 at e;split at e <;> try cases e
 .obtain⟨v,rfl,a,c,rfl,f,j⟩:=fR k rfl;exact bc hK b s g H _ us Q I r #v[a,c,rfl,.inl #v[SqL.of<|f7 _ _ f,λl hl=>q _ _ (j9.upd hl)<|P0 bk hl j]]
 .obtain⟨v,rfl,i⟩:=fR k rfl;have d:=i.tup;obtain⟨a,c,rfl,f,j⟩:=i;exact bc hK b s g H _ us Q I r #v[a,c,rfl,.inr #v[f.same f7,q _ H (j9.refl H) d]]
def X9:List My->Option (List Int)
 | []=>some []
 | .int i::r=>(X9 r).map (i :: ·)
 | _=>none
theorem N9:∀{ds} {ns},X9 ds=some ns->ds=ns.map .int
 | [],ns,h=>by cases h;rfl
 | d::r,ns,h=>by
  cases d <;> simp only[X9]at h <;> try cases h
  obtain⟨m,e,rfl⟩:=Re.1 h;rw[N9 e];rfl
theorem dX :∀{ns:List Int} {xs},a8 K H (ns.map .int) xs->xs=ns.map V.int
 | [],xs,h=>by simpa only[RK,a8] using h
 | n::ns,xs,h=>by simp only[QL]at h;obtain⟨x,r,rfl,a,b⟩:=h;simp only[b8]at a;rw[a,dX b];rfl
def bL:List My->Option (List Bool)
 | []=>some []
 | .bool i::r=>(bL r).map (i :: ·)
 | _=>none
theorem dE:∀{ds} {ns},bL ds=some ns->ds=ns.map .bool
 | [],ns,h=>by cases h;rfl
 | d::r,ns,h=>by
  cases d <;> simp only[bL]at h <;> try cases h
  obtain⟨m,e,rfl⟩:=Re.1 h;rw[dE e];rfl
theorem sM :∀{ns:List Bool} {xs},a8 K H (ns.map .bool) xs->xs=ns.map V.bl
 | [],xs,h=>by simpa only[RK,a8] using h
 | n::ns,xs,h=>by simp only[QL]at h;obtain⟨x,r,rfl,a,b⟩:=h;simp only[b8]at a;rw[a,sM b];rfl
def zi:List My->Option My
 | [.list ds]=>(bL ds).map λa=>.bool<|a.all id
 | _=>none
def EN (hK:X.K=K)(hc:X.calm=true):D1 X (.builtin "all") (rDN K zi):=by
 intro b s d H f us Q I r h;obtain⟨fp,B,l,z,bk,k,c,q⟩:=h;unfold zi at c;split at c <;> try cases c
 obtain⟨g,e,rfl⟩:=Re.1 c;cases dE e;obtain⟨v,rfl,a,f,rfl,j,i⟩:=fR k rfl;cases sM i;exact zT hK hc b s d H _ us Q I r #v[a,g,rfl,SqL.of<|f7 _ _ j,q _ H (j9.refl H) b8.bl]
def jX (d:My):Bool:=d.showable && !d.hasDict&&decide (d.depth<=50)&&decide (d.shown.length<=16000000)
end
end
section
section
variable {K:Qf}
def ox (h:jX d=true):Shw d 50 16000000:=by unfold jX at h;simp only[TL,SZ,Xb]at h;exact#v[h.1.1.1,h.1.1.2,h.1.2,h.2]
def jD:List My->Option My
 | [d]=>if jX d=true then some (.str d.shown) else none
 | _=>none
def qP (hK:X.K=K)(hg:X.A.guards=some [])(hu:X.A.units+64<XZ):D1 X (.builtin "repr") (rDN K jD):=by
 intro e s k H l us Q I r h;obtain⟨fp,B,m,z,bk,p,g,q⟩:=h;unfold jD at g;split at g <;> try cases g
 rename_i d;split at g
 .rename_i n;cases g;obtain⟨v,rfl,c⟩:=fR p rfl;have sh:=ox n;have f:=q _ H (j9.refl H) b8.st;cases d with
  | tuple m =>have j:=c.dat;obtain⟨a,l,rfl,o,_⟩:=c;exact ic hK hg hu e s k H _ us Q I r #v[a,_,rfl,j,sh,f]
  | list m =>have j:=c.dat;obtain⟨a,l,rfl,o,_⟩:=c;exact ic hK hg hu e s k H _ us Q I r #v[a,_,rfl,j,sh,f]
  | none =>cases(c);obtain⟨u,rfl,rfl⟩:=T3 r;exact PySem.P.repr_of_none #v[.str _,H,I.tok _,#v[_,rfl],by simpa only[My.shown] using f]
  | bool b =>cases(c);obtain⟨u,rfl,rfl⟩:=T3 r;exact PySem.P.repr_of_bool #v[.str _,H,I.tok _,#v[_,rfl],by simpa only[My.shown] using f]
  | int i =>
   cases(c);obtain⟨u,rfl,t,rfl⟩:=T3 r;have hl:i.natAbs.log2<1920:=by have:=sh.sh;simpa only[My.showable,SZ] using this
   exact PySem.P.repr_of_int hl #v[.str _,H,I.tok _,#v[_,rfl],by simpa only[My.shown] using f]
  | str x =>
   cases(c);obtain⟨u,rfl,t,rfl⟩:=T3 r;have hl:(reprText x).length<=XI:=by have:=sh.ln;simp only[My.shown]at this;exact QZ this (by rw[Ry];decide)
   exact PySem.P.repr_of_str #v[.str _,H,I.tok _,#v[_,rfl],by simpa only[My.shown] using f] hl
  | dict b=>exact(c).elim
 .cases g
def CN:List My->Option My
 | [.int i]=>some (.int<|if i<0 then -i else i)
 | _=>none
def xf :D1 X (.builtin "abs") (rDN K CN):=by
 intro a s c H f us Q I r h;obtain⟨fp,B,g,z,bk,e,b,q⟩:=h;unfold CN at b;split at b <;> try cases b
 rename_i i;obtain⟨v,rfl,d⟩:=fR e rfl;cases(d);exact yG a s c H _ us Q I r #v[i,rfl,q _ H (j9.refl H) b8.int]
def kn:List Int->Int
 | []=>0
 | [a]=>a
 | a::b::r=>min a<|kn (b::r)
theorem nc:∀{ns},ns≠[]->kn ns∈ns/\∀n∈ns,kn ns<=n
 | [],h=>absurd rfl h
 | [a],_=>#v[by simp[kn],by simp[kn]]
 | a::b::r,_=>by
  obtain⟨e,d⟩:=nc (ns:=b::r) (by simp);rw[kn];constructor
  .by_cases h:a<=kn (b::r)
   .rw[Int.min_eq_left h];simp
   .rw[Int.min_eq_right<|by lia];exact QG _ e
  .intro n c;rcases QQ.1 c with rfl | c
   .exact Int.min_le_left _ _
   .exact Xh (Int.min_le_right _ _)<|d n c
def Ah:List My->Option My
 | [.tuple ds]=>(X9 ds).bind λa=>if a=[] then none else some (.int<|kn a)
 | [.int i,.int j]=>some (.int<|if j<i then j else i)
 | _=>none
def Gs (hK:X.K=K)(hc:X.calm=true):D1 X (.builtin "min") (rDN K Ah):=by
 intro b s g H n us Q I r h;obtain⟨fp,B,C,z,bk,l,c,q⟩:=h;unfold Ah at c;split at c <;> try cases c
 .obtain⟨k,e,c⟩:=bS9 c;split at c
  .cases c
  .rename_i d;cases c;cases N9 e;obtain⟨v,rfl,a,n,rfl,A,y⟩:=fR l rfl;cases dX y;refine tV hK hc b s g H _ us Q I r #v[a,k,rfl,A.same f7,d,λm x f=>?_];obtain⟨p,o⟩:=nc d;have:m=kn k:=by have:=f _ p;have:=o _ x;lia
   rw[this];exact q _ H (j9.refl H) b8.int
 .rename_i i j;obtain⟨v,w,rfl,u,t⟩:=EU l rfl;cases(u);cases(t);exact uX hc b s g H _ us Q I r #v[i,j,rfl,q _ H (j9.refl H) b8.int]
def gY:My->Option My
 | .int i=>some<|.int (-i)
 | _=>none
def aZ :UnR X (unaryOp .USub) (rD1 K gY):=by
 intro a s c H x v Q I e h;obtain⟨fp,B,d,r,bk,f,b,q⟩:=h;cases d <;> simp only[gY]at b <;> try cases b
 rename_i i;cases(f);exact qz a s c H _ v Q I e #v[i,rfl,q _ H (j9.refl H) b8.int]
end
section
variable {K:Qf}
def jQ (T:String):My->Option My:=λd=>some<|.bool<|isT (tyD d) T
def HW (K:Qf)(T:String)(te:TE):TE:=tCB (DU K)<|J8 te<|J8 (tC<|.ty T) az
def gf (T)(he:Eb K X e te m)(hT:T∈["bool","int","str","list","tuple"])(hm:X.mg "isinstance" = none)(hmx:X.mg x=none)(hv:XW x=some (.type T))(hg:autoParam (Gl X "isinstance") eH)(hgx:autoParam (Gl X x) eH)(hK:autoParam (X.K=K) eH)(hn:autoParam (x ≠ "__name__") eL)(hd:autoParam (nDb x) eL)
  (hs:autoParam (XJ [e,.Name x p2] X.env=(false,eval e X.env)::XJ [.Name x p2] X.env) eH) (hs2:autoParam (XJ [.Name x p2] X.env=(false,eval (.Name x p2) X.env)::XJ [] X.env) eH) (hpl:autoParam ((XO pos<|XJ [.Name x p2] X.env).any (·.1)=false) eH) :
  Ev K X (.Call (.Name "isinstance" p) [e,.Name x p2] [] pos) (HW K T te) (s1 (jQ T) m) :=
 #v[Y9 (uk hK) hg hm PyProof.Rows.boot_isinstance (A1 he.pe (A1 (Bv hgx hmx hv rfl hn hd) K5 hs2) hs) (by decide) (by decide) hs hpl,λG B E F a H Q d k I e q=>by obtain⟨⟨y,j⟩,h,e⟩:=bS9 e;obtain⟨z,g,e⟩:=bS9 e;cases e;cases g;exact he.ok G B E F a H _ y j I h λv i b f c=>#v[v,T,y,rfl,c.dat,hT,q _ i b f b8.bl]]
end
end
section
section
variable {K:Qf}
def yE (x:Str):Str:=#v[((Builtin.Str.strSliceIndices none none (-1) x.length).filterMap (x.cps[·]?)).toArray]
def xD (x):(yE x).length<=x.length:=by
 have h:=sliceIndicesBy_le none none (-1) (by decide) x.length;have a:=List.length_filterMap_le (λi=>x.cps[i]?)<|Builtin.Str.strSliceIndices none none (-1) x.length;have e:(yE x).length=((Builtin.Str.strSliceIndices none none (-1) x.length).filterMap (x.cps[·]?)).length:=by simp[yE,Str.length]
 rw[e];exact QZ a h
def vo:My->Option My
 | .list ds=>some<|.list ds.reverse
 | .tuple ds=>some<|.tuple ds.reverse
 | .str x=>if x.length<=XI then some (.str<|yE x) else none
 | _=>none
def Dk {j}(hK:X.K=K)(he:PE X e te):PE X (.Subscript e (.Slice none none (some<|.UnaryOp .USub (.Constant (.int 1) j p) p3) p2) pos) (tUn (rD1 K vo) te):=by
 subst hK;intro c s w H Q I h;refine Subscript_ (thn (he c s w H _ I h) ?_ );rintro v s1 ⟨x,N,U,C,P⟩;refine wpAny_Slice ?_;rw[evalPart_none];refine QF<|QF ?_;refine thn (tL (xN qz x6) c s1 w N (λo m=>o=some (-1)/\m=N) U #v[1,rfl,_,rfl,rfl,rfl]) ?_;rintro u s2 ⟨o,m,T,D,R,S⟩
 subst R S;obtain⟨fp,B,d,r,bk,J,f,q⟩:=P;have k:Inv X c w m { s2 with heap:=s2.heap.push { cls:=.type "slice",data:=.fields #[.none,.none,u] } }:=T.kept λb M q=>QE _ q
 cases d <;> simp only[vo]at f <;> try cases f
 .rename_i n;cases(J);split at f
  .rename_i hl;cases f;obtain⟨t,rfl⟩:=C;obtain⟨l,rfl,L⟩:=Bg D;obtain⟨⟨V,O⟩,rfl⟩:∃z,l=some z:=by
    cases l with
    | none=>cases L
    | some z=>exact#v[z,rfl]
   simp at L;subst L;have z:=q _ m (j9.refl m) b8.st;refine tail_any (typeIs_str _ _ _) F.slot_str_getitem.lookup (getItem_meets (typeIs_str _ _ _) (by decide) F.slot_str_getitem F.entry_str_getitem (F.args_str_getitem_2 _ _) (meets_str_getitem_slice n t s2.heap.objs.size none none (some (-1,O)) rfl) #v[#v[_,QV _ rfl,rfl,rfl],?_]) (by with_unfolding_all rfl);unfold sliceMade;rw[QK<|by simp];exact#v[QZ (xD n) hl,#v[.str<|yE n,m,k.tok _,#v[_,rfl],z]]
  .cases f
 .obtain⟨a,y,rfl,G,E⟩:=J;cases C;obtain⟨i,r,ht,A⟩:=k.list<|SqL.of<|f7 _ _ G;have g:=r.length;refine tail_any ht.isList.typeIs slot_list_getitem.lookup (wpAny_getItem_list_slice ht.isList (WK ..) .none .none D (by decide) ?_ (by rw[Rb] <;> lia)) (by with_unfolding_all rfl);rw[PySem.W.krv_pick];refine#v[.ref _,_,k.laid (o:=.lst y.reverse) (λb M q=>QE _ q) (QP _) ?_,rfl,?_]
  .exact#v[by rw[SM];exact A,i.reverse,0,r.reverse,QV _ rfl]
  .have f:=k.hok.fresh<|QP _;exact q _ _ (j9.upd f)<|bF bk f<|a8.reverse E
 .obtain⟨a,y,rfl,G,E⟩:=J;cases C;obtain⟨i,r,ht,A⟩:=k.tuple<|G.same f7;have g:i.toArray.size=y.length:=by rw[Rb];exact r.length.symm
  refine tail_any ht.typeIs UE.lookup (HT.getItem_tuple_rev ht (WK ..) D ?_ (by rw[g];exact A)) (by with_unfolding_all rfl);refine#v[.ref _,_,k.laid (o:=.tup y.reverse) (λb M q=>QE _ q) (QP _) ?_,rfl,?_]
  .exact#v[by rw[SM];exact A,_,r.reverse,IsTup.new _ _]
  .have f:=k.hok.fresh<|QP _;exact q _ _ (j9.upd f)<|P0 bk f<|a8.reverse E
def Hr {j}(h:Eb K X e te m)(hK:autoParam (X.K=K) eH):Ev K X (.Subscript e (.Slice none none (some<|.UnaryOp .USub (.Constant (.int 1) j p) p3) p2) pos) (tUn (rD1 K vo) te) (s1 vo m):=#v[Dk hK h.pe,DK h.ok]
end
end
end L3
namespace L3
open PySem PySem.Spec L2
def eu:fillsNumberSlot (.type "tuple") "mul" = pure false :=
 fillsNumberSlot_seq Vc.lookup (by decide +kernel) F.slot_tuple_rmul.lookup (by decide +kernel)
def kJ:seqRepeat? (.type "tuple")=pure (some<|.builtin "tuple.__mul__"):=by unfold seqRepeat?;rw[seqSlot_of (name:="__mul__") Vc.lookup (by decide +kernel),seqSlot_of (name:="__rmul__") F.slot_tuple_rmul.lookup<|by decide +kernel];rfl
def gZ (a) (t) (l) (items) (n) (dd) (sl) :
  Meets (Builtin.«int.__rmul__» #v[[.int a t,.ref l],[]]) (λ_ R s=>s.heap.get? l=some { cls:=.type "tuple",dict:=dd,data:=.seq items n,slots:=sl }/\R (.ok<|.ret Xx.notImplemented) s) :=
 .of_wp λb w A R s h=>by obtain⟨f,g,d,c,e⟩:=s;obtain⟨hl,h⟩:=h;wp_walk;exact#v[_,rfl,h]
def qa (l) (items) (n) (dd) (sl) (k) (u) (hc0:(decide (k < -(2 ^ 63))||decide (k >= 2 ^ 63))=false)(hc1:(items.isEmpty||k == 1)=true) :
  Meets (Builtin.«tuple.__mul__» #v[[.ref l,.int k u],[]]) (λ_ R s=>s.heap.get? l=some { cls:=.type "tuple",dict:=dd,data:=.seq items n,slots:=sl }/\R (.ok<|.ret<|.ref l) s) :=
 .of_wp λa w A R s h=>by obtain⟨e,g,d,b,c⟩:=s;obtain⟨hl,h⟩:=h;have o:=AutoSeq1.idx_int;have i:=VF;have f:=VG;wp_walk;refine Wn (by rw[hc0];rfl) ?_;wp_walk;exact#v[_,rfl,h]
def pV (l) (items) (n) (dd) (sl) (k) (u) (hc0:(decide (k < -(2 ^ 63))||decide (k >= 2 ^ 63))=false)(hc1:(items.isEmpty||k == 1)=false)(hc2:(decide (k<=0)||items.isEmpty)=true) :
  Meets (Builtin.«tuple.__mul__» #v[[.ref l,.int k u],[]]) (λ_ R s=>s.heap.get? l=some { cls:=.type "tuple",dict:=dd,data:=.seq items n,slots:=sl }/\R (.ok<|.ret<|.ref s.heap.objs.size) { s with heap:=s.heap.push { cls:=.type "tuple",data:=.seq #[] } }) :=
 .of_wp λa w A R s h=>by obtain⟨e,g,d,b,c⟩:=s;obtain⟨hl,h⟩:=h;have o:=AutoSeq1.idx_int;have i:=VF;have f:=VG;wp_walk;refine Wn (by rw[hc0];rfl) ?_;wp_walk;exact#v[_,rfl,h]
def oE (l) (items) (n) (dd) (sl) (k) (u) (hc0:(decide (k < -(2 ^ 63))||decide (k >= 2 ^ 63))=false)(hc1:(items.isEmpty||k == 1)=false)(hc2:(decide (k<=0)||items.isEmpty)=false)(hc3:decide ((items.size:Int)*k > (2 ^ 63-1) / 8)=false)(hc4:Builtin.Tuple.tupleTooMany ((items.size:Int)*k)=false)
  (hsz:(List.foldl (λx1 x2=>x1++x2) #[] (List.replicate k.toNat items)).size<=XI) :
  Meets (Builtin.«tuple.__mul__» #v[[.ref l,.int k u],[]]) (λ_ R s=>s.heap.get? l=some { cls:=.type "tuple",dict:=dd,data:=.seq items n,slots:=sl }/\R (.ok<|.ret<|.ref s.heap.objs.size) { s with heap:=s.heap.push { cls:=.type "tuple",data:=.seq (List.foldl (λx1 x2=>x1++x2) #[] (List.replicate k.toNat items)) } }) :=
 .of_wp λa w A R s h=>by obtain⟨e,g,d,b,c⟩:=s;obtain⟨hl,h⟩:=h;have o:=AutoSeq1.idx_int;have i:=VF;have f:=VG;wp_walk;refine Wn (by rw[hc0];rfl) ?_;wp_walk;refine Wn hc3 ?_;wp_walk;exact#v[_,rfl,h]
section
open PyProof.Rows
variable {K:Qf}
def K0:My->My->Option My
 | .tuple xs,.int k=>if -(2 ^ 63)<=k/\k<2 ^ 63/\xs.length*k.toNat<=XI then some (.tuple (List.replicate k.toNat xs).flatten) else none
 | d,e=>GX d e
def AM (hK:X.K=K):OpR X (binaryOp .Mult) (λx y H Q=>∃l k xs,x = .ref l/\y = .int k/\SqT K H l xs /\ -(2 ^ 63)<=k/\k<2 ^ 63/\xs.length*k.toNat<=XI /\
  ((List.replicate k.toNat xs).flatten=xs->Q (.ref l) H)/\∀p,H p=none->Q (.ref p) (upd H p<|.tup (List.replicate k.toNat xs).flatten)):=by
 subst hK;intro D s σ H x y v u Q I P O h;obtain⟨l,k,xs,rfl,rfl,W,h1,h2,B,R,C⟩:=h;cases P;obtain⟨t,rfl⟩:=O;obtain⟨c,r,p,hl⟩:=I.tuple W;have f:=r.length;obtain⟨⟨cls,dd,J,A⟩,m,G,n,E⟩:=id p;simp only at G E;subst G E;have i:(decide (k < -(2 ^ 63))||decide (k >= 2 ^ 63))=false:=by rw[Rk (by lia),Rk<|by lia];rfl
 have w:s.TypeIs (.ref l) "tuple":=#v[_,m,rfl];refine wpAny_binaryOp_repeat_ref (by decide) w (λN=>typeIs_int N k t) eu F.fills_int_mul Wj kJ F.slot_int_index.lookup
  (UZ Wj (typeIs_int s k t) F.entry_int_rmul (F.args_int_rmul_2 _ _) (gZ k t l c.toArray n dd A) #v[m,rfl,w,?_])
 by_cases d:(c.toArray.isEmpty||k == 1)=true
 .refine UZ Vc w F.entry_tuple_mul (WN _ _) (qa l c.toArray n dd A k t i d) #v[m,#v[.ref l,H,I,rfl,R ?_]];simp only[Bool.or_eq_true,beq_iff_eq]at d;rcases d with d | d
  .have:xs=[]:=by
    cases r with
    | nil=>rfl
    | cons a b=>simp at d
   subst this;simp
  .subst d;simp
 .have d:(c.toArray.isEmpty||k == 1)=false:=by simpa using d
  by_cases g:(decide (k<=0)||c.toArray.isEmpty)=true
  .refine UZ Vc w F.entry_tuple_mul (WN _ _) (pV l c.toArray n dd A k t i d g) #v[m,?_];have Z:(List.replicate k.toNat xs).flatten=[]:=by
    rw[Bool.or_eq_false_iff]at d;rw[d.1,Bool.or_false]at g;have:k.toNat=0:=by have:=Rh g;simp[*]
    rw[this];rfl
   have z:=C _ I.fresh;rw[Z]at z;exact#v[.ref _,_,I.laid (o:=.tup []) (λb S q=>QE _ q) (QP _) #v[Sb _,[],.nil,IsTup.new _ _],rfl,z]
  .have g:(decide (k<=0)||c.toArray.isEmpty)=false:=by simpa using g
   have hm:c.toArray.size*k<=XI:=by obtain⟨j,rfl⟩:∃j:Nat,k=j:=#v[k.toNat,by lia];rw[Rb,<-f];simp only[RQ]at B;exact_mod_cast B
   have e:List.foldl (λM L=>M++L) #[] (List.replicate k.toNat c.toArray)=(List.replicate k.toNat c).flatten.toArray:=by have:=fg c k.toNat [];rw[RC]at this;exact this
   have V:XI<=(2 ^ 63-1) / 8:=by rw[Ry];decide
   refine UZ Vc w F.entry_tuple_mul (WN _ _) (oE l c.toArray n dd A k t i d g (Rk<|by lia) (Rk<|by lia) ?_) #v[m,?_]
   .rw[e,Rb,jW,<-f,Xf];exact B
   .rw[e];exact#v[.ref _,_,I.laid (o:=.tup (List.replicate k.toNat xs).flatten) (λb S q=>QE _ q) (QP _) #v[by rw[jW,Xf];exact B,_,r.rep k.toNat,IsTup.new _ _],rfl,C _ I.fresh]
def C6 (hK:X.K=K):OpR X (binaryOp .Mult) (rD2 K K0):=by
 intro b s i H x y v u Q I m l h;obtain⟨z,B,d,e,r,bk,w,t,c,q⟩:=h;unfold K0 at c;split at c
 .rename_i A k;obtain⟨a,j,rfl,o,f⟩:=w;cases(t);split at c
  .rename_i g;cases c;refine AM hK b s i H _ _ v u Q I m l #v[a,k,j,rfl,rfl,o.same f7,g.1,g.2.1,by rw[f.length];exact g.2.2,λe=>q _ H (j9.refl H) ?_,λp n=>q _ _ (j9.upd n)<|P0 bk n<|a8.rep f _];have:=a8.rep f k.toNat;rw[e]at this;simp only[b8];exact#v[a,j,rfl,o,this]
  .cases c
 .exact Ha b s i H x y v u Q I m l #v[z,B,d,e,r,bk,w,t,c,q]
end
end L3
namespace L3
open PySem PySem.Spec PyProof.Rows L2
variable {es:List XG}{o:HO}
section
section
def cy (K:Qf)(P:Hp->List Xy->Prop)(J:It)(items:List My):Prop:=∀H B,P H B ->
 (∀i d,items[i]? = some d->J.go i H/\∀x a,J.yld i H x a->j9 H a/\(BOk H B->b8 K (hid a B) d x))/\J.stop items.length H
def TId (K:Qf)(wi:TI)(mi:DE->M (List My)):Prop:=∀G B E F b H R c d,SitE K G B E F b H->mi E F=some (c,d) ->
 (∀J a,Kp (n5 K G) H a->FAt K G a d->cy K (λe f=>j9 (hid a B)<|hid e f) J c->R J a)->wi b H R
def TIs (K:Qf)(wi:TI)(mi:DE->M (List My)):Prop:=∀G B E F b H R c e,SitE K G B E F b H->mi E F=some (c,e) ->
 (∀J a,Kp (n5 K G) H a->FAt K G a e->cy K (λd f=>Kp (n5 K G) a d/\j9 (hid a B) (hid d f)) J c->R J a)->wi b H R
def TId.sh {K}(h:TId K wi mi):TIs K wi mi:=λG B E F a H R b g I e q=>h G B E F a H R b g I e λJ d k f ok=>q J d k f λc i kp=>ok c i kp.2
structure Ei K X tg iter wi mi:Prop where
 pi:PI X tg iter wi
 ok:TId K wi mi
structure Eib K X tg iter wi mi:Prop where
 pi:PI X tg iter wi
 ok:TIs K wi mi
variable {K:Qf}
def Ei.bw (h:Ei K X tg iter wi mi):Eib K X tg iter wi mi:=#v[h.pi,h.ok.sh]
def Fu (K:Qf)(tl:TE):TI:=λd H R=>tl d H λx b=>∃a,x = .ref a/\(((∃c,SqL K b a c)/\R (Itl K a) b)\/((∃c,SqT K b a c)/\R (Itt K a) b))
def zK (hK:X.K=K)(hl:PE X l tl):PI X tg l (Fu K tl):=by
 subst hK;intro d s k H R I h;refine thn (hl d s k H _ I h) ?_;rintro v s1 ⟨x,j,c,r,t⟩
 obtain⟨a,e,q⟩:=t;subst e;cases r;rcases q with ⟨⟨m,g⟩,q⟩ | ⟨⟨m,g⟩,q⟩
 .obtain⟨f,n,p,u⟩:=c.list g;refine wpAny_pyIter_list p.isList ?_;refine#v[s1.heap.objs.size,[s1.heap.objs.size],_,_,j,rfl,c.kept λb o e=>QE _ e,vq a _,#v[_,QV _ rfl,rfl,rfl],λb i=>?_,q];have e:b=s1.heap.objs.size:=by simpa using i
  subst e;exact c.fpOk (QP _)<|c.hok.fresh<|QP _
 .obtain⟨f,n,p,u⟩:=c.tuple g;refine SU (p) ?_;refine#v[s1.heap.objs.size,[s1.heap.objs.size],_,_,j,rfl,c.kept λb o e=>QE _ e,oC a _,#v[_,QV _ rfl,rfl,rfl],λb i=>?_,q];have e:b=s1.heap.objs.size:=by simpa using i
  subst e;exact c.fpOk (QP _)<|c.hok.fresh<|QP _
def fE:My->Option (List My)
 | .list ds=>some ds
 | .tuple ds=>some ds
 | _=>none
def R1 (a:DE->M My):DE->M (List My):=λE F=>(a E F).bind λp=>(fE p.1).bind λb=>some (b,p.2)
def a8.item {i:Nat}(h:a8 K H ds xs)(e:ds[i]? = some d):∃v,xs[i]? = some v/\b8 K H d v:=by
 obtain⟨c,_⟩:=QR.1 e;have a:xs[i]? = some (xs[i]'(by rw[h.length];exact c)):=by simp
 obtain⟨g,b,f⟩:=h.get a;rw[e]at b;cases b;exact#v[_,a,f]
def sU (h:∀H B,P H B->H a=some (.lst xs)/\a8 K (hid H B) ds xs):cy K P (Itl K a) ds:=λH B g=>by obtain⟨b,c⟩:=h H B g;refine#v[λi d e=>?_,#v[xs,SqL.of b,by rw[c.length];exact QP _]];obtain⟨v,f,j⟩:=a8.item c e;refine#v[#v[xs,v,SqL.of b,f],λx k y=>?_];obtain⟨rfl,y⟩:=y;have:=y xs<|SqL.of b;rw[f]at this;cases this;exact#v[j9.refl _,λ_=>j]
def zq (h:∀H B,P H B->SqT K H a xs/\a8 K (hid H B) ds xs):cy K P (Itt K a) ds:=λH B g=>by obtain⟨b,c⟩:=h H B g;refine#v[λi d e=>?_,#v[xs,b,by rw[c.length];exact QP _]];obtain⟨v,f,j⟩:=a8.item c e;refine#v[#v[xs,v,b,f],λx k y=>?_];obtain⟨rfl,y⟩:=y;have:=y xs b;rw[f]at this;cases this;exact#v[j9.refl _,λ_=>j]
def aG (h:Ev K X e te m)(hK:autoParam (X.K=K) eH):Ei K X tg e (Fu K te) (R1 m):=#v[zK hK h.pe,λG B E F l H R u w I e q=>by
 obtain⟨⟨y,r⟩,o,e⟩:=bS9 e;obtain⟨z,g,e⟩:=bS9 e;cases e;refine h.ok G B E F l H _ y r I o λv k i j c=>?_
 cases y with
 | list n =>cases g;simp only[b8]at c;obtain⟨a,d,rfl,b,f⟩:=c;refine#v[a,rfl,.inl #v[#v[d,SqL.of<|f7 _ _ b],q _ k i j<|sU λp t s=>#v[f7 _ _<|s _ _ b,f.same s]]]
 | tuple n =>cases g;simp only[b8]at c;obtain⟨a,d,rfl,b,f⟩:=c;refine#v[a,rfl,.inr #v[#v[d,b.same f7],q _ k i j<|zq λp t s=>#v[(b.same s).same f7,f.same s]]]
 | _=>cases g]
def N2 (h:Eb K X e te m)(hK:autoParam (X.K=K) eH):Eib K X tg e (Fu K te) (R1 m):=#v[zK hK h.pe,λG B E F n H R u w I e q=>by
 obtain⟨⟨y,s⟩,p,e⟩:=bS9 e;obtain⟨z,f,e⟩:=bS9 e;cases e;refine h.ok G B E F n H _ y s I p λv l g j i=>?_
 cases y with
 | list o =>cases f;obtain⟨a,c,rfl,b,d⟩:=i;refine#v[a,rfl,.inl #v[#v[c,SqL.of<|f7 _ _ b],q _ l g j<|sU λr t k=>#v[f7 _ _<|k.1.hid (λ_ z=>z) _ _ b,d.same k.2]]]
 | tuple o =>cases f;obtain⟨a,c,rfl,b,d⟩:=i;refine#v[a,rfl,.inr #v[#v[c,b.same f7],q _ l g j<|zq λr t k=>#v[(b.same k.2).same f7,d.same k.2]]]
 | _=>cases f]
def fJ (lo:Int)(n:Nat):List My:=(List.range n).map λ(i:Nat)=>.int<|lo+i
def Gu {lo}:cy K P (Itr lo n) (fJ lo n):=λH B _=>by refine#v[λi d e=>?_,by show n<=_;simp[fJ]];unfold fJ at e;rw[Rc]at e;obtain⟨j,c,rfl⟩:=Re.1 e;obtain⟨a,b⟩:=QR.1 c;simp at a b;subst b;refine#v[a,λx f y=>?_];obtain⟨rfl,rfl⟩:=y;exact#v[j9.refl _,λ_=>b8.int]
def eZ:List My->Option (List My)
 | [.int j]=>if -(2 ^ 62)<=j/\j<2 ^ 62 then some (fJ 0 j.toNat) else none
 | _=>none
def dh (a:DE->M (List My)):DE->M (List My):=λE F=>(a E F).bind λp=>(eZ p.1).bind λb=>some (b,p.2)
def bP (h:Ea K X [a] ta ms)(hm:X.mg "range" = none)(hg:autoParam (Gl X "range") eH)(hs:autoParam (XJ [a] X.env=[(false,eval a X.env)]) eH):Ei K X tg (.Call (.Name "range" p) [a] [] pos) (Ek ta) (dh ms):=#v[vv hg hm h.pa hs,λG B E F k H R u v I e q=>by
 obtain⟨⟨d,s⟩,n,e⟩:=bS9 e;obtain⟨z,b,e⟩:=bS9 e;cases e;refine h.ok G B E F k H _ d s I n λt o l m i=>?_
 unfold eZ at b;split at b
 .rename_i j c;split at b
  .rename_i f;cases b;have c:=c;subst c;simp only[a8]at i;obtain⟨x,r,rfl,g,rfl⟩:=i;simp only[b8]at g;subst g;exact#v[j,rfl,f.1,f.2,q _ o l m Gu]
  .cases b
 .cases b]
def TGd (K:Qf)(g:TG)(bd:My->DE->Option DE):Prop:=∀G B E F c H x d b (Q:St->Hp->Prop),SitE K G B E F c H->b8 K (hid H B) d x->bd d E=some b ->
 (∀a,SitE K G B b F a H->(∀i:Nat,(∀y,b[i]? ≠ some (some<|.dat y))->b[i]? = E[i]? /\ a[i]? = c[i]?)->Q a H)->g x c H Q
def JG (K:Qf)(g:TGs)(bd:List My->DE->Option DE):Prop:=∀G B E F c H d e b (Q:St->Hp->Prop),SitE K G B E F c H->a8 K (hid H B) e d->bd e E=some b ->
 (∀a,SitE K G B b F a H->(∀i:Nat,(∀y,b[i]? ≠ some (some<|.dat y))->b[i]? = E[i]? /\ a[i]? = c[i]?)->Q a H)->g d c H Q
structure Eg K X tg g bd:Prop where
 pg:PG X tg g
 ok:TGd K g bd
structure Egs K X tgs g bd:Prop where
 pg:PGs X tgs g
 ok:JG K g bd
def bN (i:Nat):My->DE->Option DE:=λd E=>if i<E.length then some (E.set i<|some<|.dat d) else none
def SitE.set (I:SitE K G B E F σ H)(h:b8 K (hid H B) d v)(hi:i<E.length):SitE K G B (E.set i<|some<|.dat d) F (σ.set i<|some v) H:=by
 refine#v[I.fd,I.fB,I.bk,by rw[Se,Se];exact I.ln,λj x e=>?_];have b:i < σ.length:=by rw[<-I.ln];exact hi
 by_cases a:i=j
 .subst a;rw[QW hi]at e;cases e;exact#v[v,by rw[QW b],h]
 .rw[QS a]at e;rw[QS a];exact I.loc j x e
def P6 (hN:X.N.Nodup)(hi:autoParam (X.N[i]? = some x) eH)(hx:autoParam (Loc X.env.scope x) eM)(hf:autoParam (X.fn x=true\/X.env.scope.names.lookup x=some .local) eM):Eg K X (.Name x pos) (M6 i) (bN i):=#v[Bk hN hi hx hf,λG B E F c H x d f Q I h e q=>by
 unfold bN at e;split at e
 .rename_i hl;cases e;refine q _ (I.set h hl) λj b=>?_
  by_cases a:i=j
  .subst a;exact absurd (QW hl) (b d)
  .rw[QS a,QS a];exact#v[rfl,rfl]
 .cases e]
def P9 {cl C ex π s H}(hN:N.Nodup:=by decide +kernel)(hi:autoParam (N[i]? = some x) eH)(hx:autoParam (Loc (cxC X N scope cl C ex π s H).env.scope x) eM)(hf:autoParam ((cxC X N scope cl C ex π s H).fn x=true\/(cxC X N scope cl C ex π s H).env.scope.names.lookup x=some .local) eM):Eg K (cxC X N scope cl C ex π s H) (.Name x pos) (M6 i) (bN i):=P6 hN hi hx hf
def Q6 :List My->DE->Option DE:=λa E=>if a.isEmpty then some E else none
def u6 (a:My->DE->Option DE)(r:List My->DE->Option DE):List My->DE->Option DE
 | d::ds,E=>(a d E).bind λb=>r ds b
 | [],_=>none
def B5 :Egs K X [] JB Q6:=#v[AL,λG B E F a H c b f Q I h e q=>by
 cases b with
 | nil=>cases e;simp only[a8]at h;exact#v[h,q a I λ_ _=>#v[rfl,rfl]]
 | cons d r=>cases e]
def j5 (h1:Eg K X e t ba)(h2:Egs K X es u br)
  (hs:autoParam ((XY (e::es) X.env).map (·.2)=assign e X.env::(XY es X.env).map (·.2)) eH):Egs K X (e::es) (DA t u) (u6 ba br):=#v[Ab h1.pg h2.pg hs,λG B E F k H J s D Q I h e q=>by
 cases s with
 | nil=>cases e
 | cons d r =>
  obtain⟨j,p,e⟩:=bS9 e;simp only[a8]at h;obtain⟨x,c,rfl,n,o⟩:=h;refine#v[x,c,rfl,h1.ok G B E F k H x d j _ I n p λb C m=>?_];refine h2.ok G B j F b H c r D _ C o e λa A l=>q a A λi f=>?_
  obtain⟨g,w⟩:=l i f;obtain⟨v,b2⟩:=m i (λy z=>f y<|g.trans z);exact#v[g.trans v,w.trans b2]]
def P7 (n:Nat)(r:List My->DE->Option DE):My->DE->Option DE
 | .tuple ds,E=>if ds.length=n then r ds E else none
 | _,_=>none
def J4 (hc:X.calm=true)(h:Egs K X es t br)(hK:autoParam (X.K=K) eH)
  (hn:autoParam ((XY es X.env).length=n) eH) (hst:autoParam ((XY es X.env).findIdx? (·.1)=none) eH):Eg K X (.Tuple es k pos) (FP K n t) (P7 n br):=#v[Cz hK hc h.pg hn hst,λG B E F g H x d j Q I f e q=>by
 cases d <;> simp only[P7]at e <;> try cases e
 split at e
 .rename_i hl;simp only[b8]at f;obtain⟨a,b,rfl,i,c⟩:=f;exact#v[a,b,rfl,i.same f7,by rw[c.length];exact hl,h.ok G B E F g H b _ j Q I c e q]
 .cases e]
def ie (k:Nat)(cap:List Nat)(E:DE):DE:=List.replicate k none++cap.map λj=>(E[j]?).join
def SitE.cap (I:SitE K G B E F σ H)(k) (cap):SitE K G B (ie k cap E) F (cF k cap σ) H:=by
 refine#v[I.fd,I.fB,I.bk,by simp[ie,cF],λi x e=>?_];unfold ie at e;by_cases b:i<k
 .rw[Tv (by simpa using b),Sk,QH b]at e;cases e
 .rw[Tj (by simpa using b),Ts,Rc]at e;obtain⟨j,c,a⟩:=Re.1 e;have d:E[j]? = some (some x):=by
   cases q:E[j]? with
   | none=>rw[q]at a;cases a
   | some o=>rw[q]at a;exact Sn some a
  obtain⟨v,g,f⟩:=I.loc j x d;refine#v[v,?_,f];unfold cF;rw[Tj (by simpa using b),Ts,Rc,c,UJ,g];rfl
def SitE.more (I:SitE K G B E F σ H)(hD:H D=none):SitE K G (D::B) E F σ (upd H D o):=by
 have l:=I.bk.nin hD;have q:hid (upd H D o) (D::B)=hid H B:=by
  funext b;by_cases f:b=D
  .subst f;rw[I0 QN,m7 l,hD]
  .by_cases g:b∈B
   .rw[I0 g,I0<|QG _ g]
   .rw[m7 g,m7 (by simp[f,g]),f9 f]
 refine#v[I.fd.same<|j9.upd hD,λb f=>QG _<|I.fB b f,λb f=>?_,I.ln,λi x e=>?_]
 .rcases QQ.1 f with rfl | f
  .exact#v[o,i8]
  .obtain⟨u,e⟩:=I.bk b f;exact#v[u,by rw[f9<|l6 e hD];exact e]
 .obtain⟨v,r,h⟩:=I.loc i x e;refine#v[v,r,?_];cases x with
  | dat d=>show b8 K (hid (upd H D o) (D::B)) d v;rw[q];exact h
  | feed=>exact h
  | fn _=>exact h
  | adr _=>exact h
  | own t =>obtain⟨a,k,p,g,m,j,n⟩:=h;exact#v[a,k,p,QG _ g,m,by rw[f9<|l6 j hD];exact j,by rw[q];exact n]
  | dic w c s =>obtain⟨a,k,p,g,m,j,l,n⟩:=h;exact#v[a,k,p,QG _ g,m,by rw[f9<|l6 j hD];exact j,l,by rw[q];exact n]
def SitE.wr (I:SitE K G (D::B) E F σ H)(hf:D ∉ n5 K G)(hown:∀(i:Nat) ds,E[i]? = some (some<|DV.own ds)->σ[i]? ≠ some (some<|V.ref D))(hD:H D=some (.lst acc)):SitE K G (D::B) E F σ (upd H D o):=by
 have r:hid (upd H D o) (D::B)=hid H (D::B):=av QN;refine#v[I.fd.congr λb k=>f9 (λe=>k.elim (λk=>hf<|e▸k) λ#v[u,q]=>by rw[e,hD]at q;cases q),I.fB,λb k=>?_,I.ln,λi x e=>?_]
 .by_cases h:b=D
  .subst h;exact#v[o,i8]
  .rw[f9 h];exact I.bk b k
 .obtain⟨v,s,j⟩:=I.loc i x e;refine#v[v,s,?_];cases x with
  | dat d=>show b8 K (hid (upd H D o) (D::B)) d v;rw[r];exact j
  | feed=>exact j
  | fn _=>exact j
  | adr _=>exact j
  | own ds =>
   obtain⟨a,m,rfl,p,g,l,n⟩:=j;have f:a≠D:=λz=>hown i ds e (by rw[<-z];exact s)
   exact#v[a,m,rfl,p,g,by rw[f9 f];exact l,by rw[r];exact n]
  | dic w c y =>
   obtain⟨a,m,rfl,p,g,l,t,n⟩:=j;have f:a≠D:=λz=>by rw[z,hD]at l;cases l
   exact#v[a,m,rfl,p,g,by rw[f9 f];exact l,t,by rw[r];exact n]
structure Ets K X ifs tt m:Prop where
 pts:PTs X ifs tt
 ok:TTd K tt m
def M4 :DE->M Bool:=λ_ F=>some (true,F)
def F0 :Ets K X [] Jp M4:=#v[Cd,λG B E F a H Q b c I e q=>by cases e;exact q H Kp.refl I.fd]
def Bl {mt} (h:Et K X c tt mt):Ets K X [c] tt mt:=#v[Br h.pt,h.ok]
noncomputable def T5 (bd:My->DE->Option DE)(mt:DE->M Bool)(me:DE->M My):List My->DE->M (List My)
 | [],_,F=>some ([],F)
 | d::r,E,F=>(bd d E).bind λE1=>(mt E1 F).bind λp=>if p.1=true then(me E1 p.2).bind λy=>(T5 bd mt me r E1 y.2).bind λz=>some (y.1::z.1,z.2) else T5 bd mt me r E1 p.2
def sLC (mi:DE->M (List My))(k:Nat)(cap:List Nat)(bd:My->DE->Option DE)(mt:DE->M Bool)(me:DE->M My):DE->M My:=λE F =>
 (mi E F).bind λp=>if p.1.length<=XI then(T5 bd mt me p.1 (ie k cap E) p.2).bind λz=>some (.list z.1,z.2) else none
def Ji (K:Qf)(G:GF)(B:List Xy)(D:Xy)(H1:Hp)(bd:My->DE->Option DE)(mt:DE->M Bool)(me:DE->M My)(items whole:List My)(Fz:FS)(i:Nat)(σ:St)(acc:List V)(H:Hp):Prop :=
 ∃E F done a,SitE K G (D::B) E F σ H/\H D=some (.lst acc)/\Kp (n5 K G) H1 H/\(∀(j:Nat) b,E[j]? = some (some<|DV.own b)->σ[j]? ≠ some (some<|V.ref D))/\a8 K (hid H (D::B)) done acc/\T5 bd mt me (items.drop i) E F=some (a,Fz)/\whole=done++a/\done.length<=i
def TFd (K:Qf)(te:TE)(m:DE->M (List My)):Prop:=∀G B E F c H Q e f,SitE K G B E F c H->m E F=some (e,f) ->
 (∀a d b,H a=none->b a=some (.lst d)->Kp (n5 K G) H b->FAt K G b f->a8 K (hid b (a::B)) e d->Q (.ref a) b)->te c H Q
def Kp.none (k:Kp fp H H')(h:H' b=none)(n:b ∉ fp):H b=none:=by
 cases q:H b with
 | none=>rfl
 | some o=>rw[k b o q n]at h;cases h
def fLC (mi:DE->M (List My))(k:Nat)(cap:List Nat)(bd:My->DE->Option DE)(mt:DE->M Bool)(me:DE->M My):DE->M (List My):=λE F =>
 (mi E F).bind λp=>if p.1.length<=XI then(T5 bd mt me p.1 (ie k cap E) p.2).bind λz=>some (z.1,z.2) else none
def Iy {mt}(hi:TIs K wi mi)(hg:TGd K g bd)(ht:TTd K tt mt)(he:TEd K te me) :
  TFd K (tLC wi k cap g tt te) (fLC mi k cap bd mt me):=λG B E F σ H Q d F' I e q=>by
 obtain⟨⟨items,F1⟩,e1,e⟩:=bS9 e;split at e
 .rename_i Z;obtain⟨⟨r,F2⟩,e2,e⟩:=bS9 e;cases e;refine hi G B E F σ H _ items F1 I e1 λJ X k1 f1 ok D T=>?_
  have I1:=I.step k1 f1;have an:=I1.bk.nin T;have A:=λz=>an<|I.fB D z
  have Z:=Z;have s:∀{m},Kp (n5 K G) X m->Kp (n5 K G) X m/\j9 (hid X B) (hid m (D::B)):=λ{m} k=>#v[k,λb o u=>by
   by_cases hb:b∈B
   .rw[I0 hb]at u;cases u
   .rw[m7 hb]at u;rw[m7 (by
     intro z;rcases QQ.1 z with rfl | z
     .rw[T]at u;cases u
     .exact hb z)]
    exact k b o u λz=>hb<|I.fB b z]
  refine Hs items.length (Ji K G B D X bd mt me items r F2) ?_ ?_ ?_ ?_ ?_
  .refine#v[ie k cap E,F1,[],r,(I1.cap k cap).more T,i8,Kp.upd T,λj ds ej z=>?_,a8.nil,e2,rfl,QP _];obtain⟨v,v1,a,xs,rfl,_,_,ha,_⟩:=(I1.cap k cap).loc j _ ej;rw[v1]at z;cases z;rw[T]at ha;cases ha
  .rintro i p c m w ⟨E',Y,done,h,W,t,L,ow,l,f,U,P⟩;exact((ok m (D::B)<|s L).1 i items[i]<|by simp[w]).1
  .rintro p c m ⟨E',Y,done,h,W,t,L,ow,l,f,U,P⟩;exact(ok m (D::B)<|s L).2
  .rintro i p c m w ⟨E',Y,done,h,W,t,L,ow,l,f,U,P⟩ x H2 y R hR;obtain⟨s2,hx⟩:=((ok m (D::B)<|s L).1 i items[i]<|by simp[w]).2 x H2 y;have al:=hx W.bk;rw[Rz w,T5]at f;obtain⟨N,e4,f⟩:=bS9 f;obtain⟨⟨b,F5⟩,e5,f⟩:=bS9 f;have I3:=W.step (Kp.same s2)<|W.fd.same s2;refine hg G (D::B) E' Y p H2 x items[i] N _ I3 al e4 λn I4 fr=>?_
   have O:∀j ds,N[j]? = some (some<|DV.own ds)->n[j]? ≠ some (some<|V.ref D):=λj ds ej=>by
    obtain⟨a1,a2⟩:=fr j λy z=>by rw[ej]at z;cases z
    rw[a2];exact ow j ds<|a1▸ej
   refine ht G (D::B) N Y n H2 _ b F5 I4 e5 λH5 k5 f5=>?_
   have C:=(L.trans<|Kp.same s2).trans k5;have I5:=I4.step k5 f5;have S:=k5 D _ (s2 D _ t) A;have ac:=(l.same<|(Kp.same s2).hid (fp:=[])<|by simp).same<|k5.hid I4.fB;cases b with
   | false =>exact#v[S,hR _ _ _ #v[N,F5,done,h,I5,S,C,O,ac,f,U,by lia]]
   | true =>
    obtain⟨⟨yd,F6⟩,e6,f⟩:=bS9 f;obtain⟨⟨zs,F7⟩,e7,f⟩:=bS9 f;cases f;refine he G (D::B) N F5 n H5 _ yd F6 I5 e6 λv H6 k6 f6 h6=>?_
    have ad:=k6 D _ S A;have I6:=I5.step k6 f6;have am:=ac.same<|k6.hid I5.fB;have ab:c.length<XI:=by rw[l.length];lia
    refine#v[ad,ab,hR _ _ _ #v[N,F6,done++[yd],zs,I6.wr A O ad,i8,λb o u nb=>?_,O,?_,e7,by rw[U];simp,by simp;omega ]]
    .have:=k6 b o (C b o u nb) nb;rw[f9];exact this;intro z;subst z;rw[T]at u;cases u
    .rw[av QN];exact am.snoc h6
  .rintro p c m ⟨E',Y,done,h,W,t,L,ow,l,f,U,P⟩;rw[Vd,T5]at f;cases f;rw[Sd]at U;subst U;exact q D c m (k1.none T A) t (k1.trans L) W.fd l
 .cases e
def Jr {mt}(hi:TIs K wi mi)(hg:TGd K g bd)(ht:TTd K tt mt)(he:TEd K te me) :
  TEd K (tLC wi k cap g tt te) (sLC mi k cap bd mt me):=λG B E F i H Q d h I e q=>by
 obtain⟨c,rfl,r⟩:∃c,d = .list c/\fLC mi k cap bd mt me E F=some (c,h):=by
  obtain⟨⟨items,x⟩,t,e⟩:=bS9 e;split at e
  .rename_i f;obtain⟨⟨a,w⟩,s,e⟩:=bS9 e;cases e;refine#v[a,rfl,?_];unfold fLC;rw[t,QX,QH f,s];rfl
  .cases e
 exact Iy hi hg ht he G B E F i H Q c h I r λz v u l m j p n=>q _ u j p (b8.lst (by rw[m7<|I.bk.nin l];exact m)<|n.same<|bD λb o=>QG _ o)
def aE (osc) (N){mt}
  (hi:Eib K X tg iter wi mi)
  (hg:∀{cl C ex π s H},Eg K (cxC X N scope cl C ex π s H) tg g bd)
  (ht:∀{cl C ex π s H},Ets K (cxC X N scope cl C ex π s H) ifs tt mt)
  (he:∀{cl C ex π s H},Ev K (cxC X N scope cl C ex π s H) elt te me)
  (hc:autoParam (X.calm=true) eH) (hosc:autoParam (X.env.scope=osc) eH) (hcap:autoParam (Caps X.N osc N k cap scope) kS)
  (hs:autoParam (∀x,XX iter X.env x=pure x) eT) :
  Ev K X (.ListComp elt [#v[tg,iter,ifs,0]] scope pos) (tLC wi k cap g tt te) (sLC mi k cap bd mt me) :=
 #v[ID hc hosc hcap hi.pi (λ_ _ _ _ _ _=>hg.pg) (λ_ _ _ _ _ _=>ht.pts) (λ_ _ _ _ _ _=>he.pe) hs,
  Jr hi.ok (@hg [] 0 [] [] X.s₀ X.H₀).ok (@ht [] 0 [] [] X.s₀ X.H₀).ok (@he [] 0 [] [] X.s₀ X.H₀).ok]
end
end

section
section
inductive Out where
 | nx (E:DE) | rt (d:My) | bk (E:DE) | ct (E:DE)
def cj (B0:List Xy)(H0:Hp)(E:DE)(σ:St):Prop:=∀i c e a,E[i]? = some (some<|DV.dic true c e)->σ[i]? = some (some<|V.ref a)->(H0 a=none/\a ∉ B0)/\∀(j:Nat) d f b,E[j]? = some (some<|DV.dic d f b)->σ[j]? = some (some<|V.ref a)->i=j
def cj.of (h:cj B0 H0 E σ)(fr:∀(i:Nat) w c ps,E'[i]? = some (some<|DV.dic w c ps)->E'[i]? = E[i]? /\ O'[i]? = σ[i]?):cj B0 H0 E' O':=λi c ps a e k=>by obtain⟨q,p⟩:=fr i _ _ _ e;obtain⟨m,l⟩:=h i c ps a (q▸e)<|p▸k;refine#v[m,λj f n b d g=>?_];obtain⟨o,b2⟩:=fr j _ _ _ d;exact l j f n b (o▸d)<|b2▸g
def cj.set (h:cj B0 H0 E σ)(hx:∀w c ps,x≠DV.dic w c ps):cj B0 H0 (E.set i<|some x) (σ.set i y):=h.of λj w c ps a=>by
 by_cases b:i=j
 .subst b;by_cases hl:i<E.length
  .rw[QW hl]at a;cases a;exact absurd rfl<|hx w c ps
  .rw[SS (by rw[Se];lia)]at a;cases a
 .exact#v[QS b,QS b]
def cj.set1 (h:cj B0 H0 E σ)(hx:∀w c ps,x≠DV.dic w c ps):cj B0 H0 (E.set i<|some x) σ:=h.of λj w c ps a=>by
 by_cases b:i=j
 .subst b;by_cases hl:i<E.length
  .rw[QW hl]at a;cases a;exact absurd rfl<|hx w c ps
  .rw[SS (by rw[Se];lia)]at a;cases a
 .exact#v[QS b,rfl]
structure Sit K G (B0:List Xy) (H0:Hp) E F σ H:Prop where
 ex:∃B,(∀b∈B0,b∈B)/\(∀b∈B,b∈B0\/H0 b=none)/\SitE K G B E F σ H
 fB:∀b∈n5 K G,b∈B0
 kp:Kp (n5 K G) H0 H
 own:∀(i:Nat) ds a,E[i]? = some (some<|DV.own ds)->σ[i]? = some (some<|V.ref a)->H0 a=none/\a ∉ B0
 inj:∀(i j:Nat) ds es a,E[i]? = some (some<|DV.own ds)->E[j]? = some (some<|DV.own es)->σ[i]? = some (some<|V.ref a)->σ[j]? = some (some<|V.ref a)->i=j
 dic:cj B0 H0 E σ
def sR (K:Qf)(G:GF)(B0:List Xy)(H0:Hp)(F:FS)(D:Ends):Out->Prop
 | .nx E=>∀a H,Sit K G B0 H0 E F a H->D.nx a H
 | .bk E=>∀a H,Sit K G B0 H0 E F a H->D.bk a H
 | .ct E=>∀a H,Sit K G B0 H0 E F a H->D.ct a H
 | .rt d=>∀v H,Kp (n5 K G) H0 H->FAt K G H F->b8 K (hid H B0) d v->D.rt v H
def TSd (K:Qf)(ts:TS)(m:DE->M Out):Prop:=∀G B0 H0 E F a H D r b,Sit K G B0 H0 E F a H->m E F=some (r,b)->sR K G B0 H0 b D r->ts D a H
structure Ss K X st ts m:Prop where
 ps:PS X st ts
 ok:TSd K ts m
structure Sss K X sts ts m:Prop where
 ps:PSs X sts ts
 ok:TSd K ts m
variable {K:Qf}{st:XF}{mt:DE->M Out}
def Sit.step (S:Sit K G B0 H0 E F σ H)(k:Kp (n5 K G) H H')(f:FAt K G H' F'):Sit K G B0 H0 E F' σ H':=by obtain⟨B,s,a,I⟩:=S.ex;exact#v[#v[B,s,a,I.step k f],S.fB,S.kp.trans k,S.own,S.inj,S.dic]
def mNx :DE->M Out:=λE F=>some (.nx E,F)
def mSq (a b:DE->M Out):DE->M Out:=λE F=>(a E F).bind λp=>match p.1 with
 | .nx E1=>b E1 p.2
 | o=>some (o,p.2)
def C5 :Sss K X [] Aa mNx:=#v[gr,λG B0 H0 E F a H D r b S e q=>by cases e;exact q a H S]
def d8 (h1:Ss K X st t mt)(h2:Sss K X rest u mu):Sss K X (st::rest) (qF t u) (mSq mt mu):=#v[D5 h1.ps h2.ps,λG B0 H0 E F f H D r j S e q=>by
 obtain⟨⟨o,c⟩,g,e⟩:=bS9 e;refine h1.ok G B0 H0 E F f H _ o c S g ?_;cases o with
 | nx b=>exact λa i h=>h2.ok G B0 H0 b c a i D r j h e q
 | rt d=>cases e;exact q
 | bk b=>cases e;exact q
 | ct b=>cases e;exact q]
def i6 (h1:Ss K X st t mt):Sss K X [st] t mt:=#v[R4 h1.ps,h1.ok]
noncomputable def mRt (a:DE->M My):DE->M Out:=λE F=>(a E F).bind λp=>some (.rt p.1,p.2)
def j7 (h:Ev K X e te m):Ss K X (.Return (some e) pos) (II te) (mRt m):=#v[iF h.pe,λG B0 H0 E F a H D r l S e q=>by obtain⟨⟨d,j⟩,g,e⟩:=bS9 e;cases e;obtain⟨B,s,k,I⟩:=S.ex;exact h.ok G B E F a H _ d j I g λv i b f c=>q v i (S.kp.trans b) f<|c.same<|bD s]
noncomputable def G7 (i:Nat)(a:DE->M My):DE->M Out:=λE F=>(a E F).bind λp=>(bN i p.1 E).bind λE1=>some (.nx E1,p.2)
def Sit.bind (S:Sit K G B0 H0 E F σ H)(s:∀b∈B0,b∈B)(sn:∀b∈B,b∈B0\/H0 b=none)(I:SitE K G B E' F' O' H)(fr:∀i:Nat,(∀y,E'[i]? ≠ some (some<|.dat y))->E'[i]? = E[i]? /\ O'[i]? = σ[i]?):Sit K G B0 H0 E' F' O' H:=by
 refine#v[#v[B,s,sn,I],S.fB,S.kp,λi f a d e=>?_,λi j f es a d k e l=>?_,S.dic.of λi w c n d=>fr i λy z=>by rw[d]at z;cases z]
 .obtain⟨h,g⟩:=fr i λy z=>by rw[d]at z;cases z
  exact S.own i f a (h▸d)<|g▸e
 .obtain⟨h,g⟩:=fr i λy z=>by rw[d]at z;cases z
  obtain⟨m,b2⟩:=fr j λy z=>by rw[k]at z;cases z
  exact S.inj i j f es a (h▸d) (m▸k) (g▸e)<|b2▸l
def wJ (he:TEd K te m)(hg:TGd K g bd):TSd K (aa te g) (λE F=>(m E F).bind λp=>(bd p.1 E).bind λE1=>some (.nx E1,p.2)):=λG B0 H0 E F b H D r w S e q=>by
 obtain⟨⟨d,i⟩,o,e⟩:=bS9 e;obtain⟨E1,n,e⟩:=bS9 e;cases e;obtain⟨B,s,j,I⟩:=S.ex;refine he G B E F b H _ d i I o λv h c f k=>?_
 have t:=S.step c f;exact hg G B E i b h v d E1 _ (I.step c f) k n λa u l=>q a h<|t.bind s j u l
def aA (i):TGd K (M6 i) (bN i):=λG B E F c H x d f Q I h e q=>by
 unfold bN at e;split at e
 .rename_i hl;cases e;refine q _ (I.set h hl) λj b=>?_
  by_cases a:i=j
  .subst a;exact absurd (QW hl)<|b d
  .rw[QS a,QS a];exact#v[rfl,rfl]
 .cases e
def z9 (i)(hN:X.N.Nodup)(he:Ev K X e te m)(hi:autoParam (X.N[i]? = some x) eH)(hx:autoParam (Loc X.env.scope x) eM)(hs:autoParam (XT e (some<|.Name x pos') pos.line X.env=pure false) eH)(hf:autoParam (X.fn x=true\/X.env.scope.names.lookup x=some .local) eM) :
  Ss K X (.Assign [.Name x pos'] e pos) (aa te<|M6 i) (G7 i m):=#v[M3 hN hi hx he.pe hs hf,wJ he.ok<|aA i]
def kT (bd:My->DE->Option DE)(a:DE->M My):DE->M Out:=λE F=>(a E F).bind λp=>(bd p.1 E).bind λb=>some (.nx b,p.2)
def eR (he:Ev K X e te m)(hg:Eg K X tg g bd)(hs:autoParam (swapsWithSole [tg] e pos.line X.env=pure false) eH)(hw:autoParam (swappedStores [tg] e X.env=pure none) eH)
  (h1:autoParam ((XY [tg] X.env).map (·.2)=[assign tg X.env]) eH):Ss K X (.Assign [tg] e pos) (aa te g) (kT bd m):=#v[kR he.pe hg.pg hs hw h1,wJ he.ok hg.ok]
def nZ (i)(osc) (N){mt}
  (hN:X.N.Nodup) (hi:Eib K X tg iter wi mi)
  (hg:∀{cl C ex π s H},Eg K (cxC X N scope cl C ex π s H) tg g bd)
  (ht:∀{cl C ex π s H},Ets K (cxC X N scope cl C ex π s H) ifs tt mt)
  (he:∀{cl C ex π s H},Ev K (cxC X N scope cl C ex π s H) elt te me)
  (hc:autoParam (X.calm=true) eH) (hosc:autoParam (X.env.scope=osc) eH) (hcap:autoParam (Caps X.N osc N k cap scope) kS)
  (hix:autoParam (X.N[i]? = some y) eH) (hLy:autoParam (Loc X.env.scope y) eM)
  (hs:autoParam (∀x,XX iter X.env x=pure x) eT) (hfy:autoParam (X.fn y=true\/X.env.scope.names.lookup y=some .local) eM)
  (hsw:autoParam (XT (.ListComp elt [#v[tg,iter,ifs,0]] scope p) (some<|.Name y py) pos.line X.env=pure true) eH) :
  Ss K X (.Assign [.Name y py] (.ListComp elt [#v[tg,iter,ifs,0]] scope p) pos) (aa (tLC wi k cap g tt te)<|M6 i) (G7 i<|sLC mi k cap bd mt me) :=
 #v[yC hN hix hLy hc hosc hcap hi.pi (λ_ _ _ _ _ _=>hg.pg) (λ_ _ _ _ _ _=>ht.pts) (λ_ _ _ _ _ _=>he.pe) hs hfy hsw,
  wJ (Jr hi.ok (@hg [] 0 [] [] X.s₀ X.H₀).ok (@ht [] 0 [] [] X.s₀ X.H₀).ok (@he [] 0 [] [] X.s₀ X.H₀).ok) (aA i)]
def mIf (c:DE->M Bool)(a b:DE->M Out):DE->M Out:=λE F=>(c E F).bind λp=>if p.1=true then a E p.2 else b E p.2
def V6 (hc:Et K X c tt mc)(ha:Sss K X x t mt)(hb:Sss K X y u mu):Ss K X (.If c x y pos) (Bp tt t u) (mIf mc mt mu):=#v[mK hc.pt ha.ps hb.ps,λG B0 H0 E F a H D r i S e q=>by
 obtain⟨⟨d,b⟩,j,e⟩:=bS9 e;obtain⟨B,s,k,I⟩:=S.ex;refine hc.ok G B E F a H _ d b I j λh f g=>?_
 cases d with
 | true=>exact ha.ok G B0 H0 E b a h D r i (S.step f g) e q
 | false=>exact hb.ok G B0 H0 E b a h D r i (S.step f g) e q]
noncomputable def jj (i j:Nat)(a:DE->M (List My)):DE->M Out:=λE F=>(a E F).bind λp=>match p.1 with
 | [x,y]=>(bN i x E).bind λE1=>(bN j y E1).bind λE2=>some (.nx E2,p.2)
 | _=>none
def hX (i j){kt k2 pt2}(hc:X.calm=true)(hN:X.N.Nodup)(ha:Ea K X [a,b] tl ms)(hi:autoParam (X.N[i]? = some x) eH)(hj:autoParam (X.N[j]? = some y) eH)(hij:autoParam (i≠j) eL)
  (hx:autoParam (X.env.scope.names.lookup x=some .local) eH) (hy:autoParam (X.env.scope.names.lookup y=some .local) eH)
  (hw:autoParam (swappedStores [.Tuple [.Name x px,.Name y py] kt pt] (.Tuple [a,b] k2 pt2) X.env=pure (some [x,y])) eH)
  (hs:autoParam (swapsWithSole [.Tuple [.Name x px,.Name y py] kt pt] (.Tuple [a,b] k2 pt2) pos.line X.env=pure false) eH) :
  Ss K X (.Assign [.Tuple [.Name x px,.Name y py] kt pt] (.Tuple [a,b] k2 pt2) pos) (Jg i j tl) (jj i j ms):=#v[GY hc hN hi hj hij hx hy ha.pa hw hs,λG B0 H0 E F h H D r W S e q=>by
 obtain⟨⟨J,Q⟩,C,e⟩:=bS9 e;obtain⟨B,s,k,I⟩:=S.ex;refine ha.ok G B E F h H _ J Q I C λT g l n m=>?_
 dsimp only at e;split at e
 .obtain⟨p,A,e⟩:=bS9 e;obtain⟨R,z,e⟩:=bS9 e;cases e;simp only[a8]at m;obtain⟨v,V,rfl,t,w,U,rfl,hw,rfl⟩:=m;have N:=S.step l n;refine#v[v,w,rfl,?_];refine aA i G B E _ h g v _ p (λc P=>D.nx (c.set j<|some w) P) (I.step l n) t A λc o u=>?_
  have L:=N.bind s k o u;exact aA j G B p _ c g w _ R D.nx o hw z λd O f=>q d g (L.bind s k O f)
 .cases e]
end
end
section
section
variable {K:Qf}
def ae (H:Hp)(B B0:List Xy):Hp:=hid H (B.filter λb=>decide (b ∉ B0))
def eI {b} (h1:b∈B)(h2:b ∉ B0):ae H B B0 b=none:=I0 (We.2 #v[h1,by simpa using h2])
def bA {b} (h:b ∉ B\/b∈B0):ae H B B0 b=H b:=m7 λz=>by
 obtain⟨c,a⟩:=We.1 z;rcases h with h | h
 .exact h c
 .simp at a;exact a h
section

def Sit.base (S:Sit K G B0 H0 E F σ H)(s:∀b∈B0,b∈B)(sn:∀b∈B,b∈B0\/H0 b=none)(I:SitE K G B E F σ H):Sit K G B0 (ae H B B0) E F σ H:=by
 refine#v[#v[B,s,λb n=>?_,I],S.fB,Kp.same f7,λi k a e f=>?_,S.inj,λi c m a e f=>?_]
 .by_cases h:b∈B0
  .exact .inl h
  .exact .inr<|eI n h
 .obtain⟨v,d,p,l,rfl,g,_⟩:=I.loc i _ e;rw[d]at f;cases f;exact#v[eI g (S.own i k _ e d).2,(S.own i k _ e d).2]
 .obtain⟨v,d,p,l,rfl,g,_⟩:=I.loc i _ e;rw[d]at f;cases f;obtain⟨⟨_,j⟩,o⟩:=S.dic i c m _ e d;exact#v[#v[eI g j,j],o]
def kz (S:Sit K G B0 H0 E F σ H)(sn:∀b∈B,b∈B0\/H0 b=none)(k:Kp (n5 K G) (ae H B B0) H2):Kp (n5 K G) H0 H2:=λb o e n=>by
 refine k b o ?_ n;rw[bA]
 .exact S.kp b o e n
 .by_cases a:b∈B
  .rcases sn b a with h | h
   .exact .inr h
   .rw[h]at e;cases e
  .exact .inl a
def Sit.unbase (S:Sit K G B0 H0 E F σ H)(sn:∀b∈B,b∈B0\/H0 b=none)(S2:Sit K G B0 (ae H B B0) E2 F2 σ2 H2):Sit K G B0 H0 E2 F2 σ2 H2:=by
 have k:∀b,ae H B B0 b=none->b∈B0\/H0 b=none:=λb e=>by
  by_cases f:b∈B
  .exact sn b f
  .rw[bA<|.inl f]at e;by_cases n:b∈n5 K G
   .exact .inl<|S.fB b n
   .cases q:H0 b with
    | none=>exact .inr rfl
    | some o=>rw[S.kp b o q n]at e;cases e
 obtain⟨u,s2,g,t⟩:=S2.ex;refine#v[#v[u,s2,λb f=>?_,t],S.fB,kz S sn S2.kp,λi s a m j=>?_,S2.inj,λi c p a m j=>?_]
 .rcases g b f with h | h
  .exact .inl h
  .exact k b h
 .obtain⟨l,d⟩:=S2.own i s a m j;exact#v[(k a l).resolve_left d,d]
 .obtain⟨⟨l,d⟩,r⟩:=S2.dic i c p a m j;exact#v[#v[(k a l).resolve_left d,d],r]
end
noncomputable def O3 (bd:My->DE->Option DE)(body:DE->M Out):List My->DE->M Out
 | [],E,F=>some (.nx E,F)
 | d::r,E,F=>(bd d E).bind λE1=>(body E1 F).bind λp=>match p.1 with
  | .nx E2=>O3 bd body r E2 p.2
  | .ct E2=>O3 bd body r E2 p.2
  | .bk E2=>some (.nx E2,p.2)
  | .rt d=>some (.rt d,p.2)
def aN (mi:DE->M (List My))(bd:My->DE->Option DE)(body:DE->M Out):DE->M Out:=λE F=>(mi E F).bind λp=>O3 bd body p.1 E p.2
def IX {tb}{mb} (hi:TId K wi mi)(hg:TGd K g bd)(hb:TSd K tb mb):TSd K (yr wi g tb) (aN mi bd mb):=λG B0 H0 E F X H D r F' S e q=>by
 obtain⟨⟨items,F1⟩,e1,e⟩:=bS9 e;obtain⟨B,s,Y,I⟩:=S.ex;refine hi G B E F X H _ items F1 I e1 λJ u k1 f1 ok=>?_
 have S1:=S.step k1 f1;have I1:=I.step k1 f1;have ab:=S1.base s Y I1;have qn:∀{n} {k},r = .nx n->F'=k->∀a c,Sit K G B0 (ae u B B0) n k a c->D.nx a c:=λ{n k} er ef a c t=>by subst er ef;exact q a c<|S1.unbase Y t
 have L:∀{n} {k} {a} {c} {p},Sit K G B0 (ae u B B0) n k a c->(∀b∈p,b∈B0\/ae u B B0 b=none)->j9 (hid u B) (hid c p):=λ{n k a c p} t l b o R=>by
  by_cases N:b∈B
  .rw[I0 N]at R;cases R
  .rw[m7 N]at R;have ec:ae u B B0 b=some o:=by rw[bA<|.inl N];exact R
   rw[m7 λz=>(l b z).elim (λh=>N<|s b h) λh=>by rw[h]at ec;cases ec];exact t.kp b o ec λz=>N<|s b<|S.fB b z
 refine#v[λi m X H=>m=items.length-i/\i<=items.length/\∃E F,Sit K G B0 (ae u B B0) E F X H/\O3 bd mb (items.drop i) E F=some (r,F'),#v[items.length,by simp,Sb _,E,F1,ab,e],?_];rintro i mm a c ⟨rfl,ac,n,k,t,j⟩;obtain⟨p,s2,l,T⟩:=t.ex;have A:=L t l;by_cases f:i<items.length
 .refine .inr #v[((ok c p A).1 i items[i]<|by simp[f]).1,λC H'=>i+1<=items.length/\∃E F,Sit K G B0 (ae u B B0) E F C H'/\O3 bd mb (items.drop<|i+1) E F=some (r,F'),λC H' q90=>by obtain⟨h1,h2⟩:=q90;exact #v[items.length-(i+1),by omega,rfl,h1,h2],λx U y=>?_];obtain⟨Q,Z⟩:=((ok c p A).1 i items[i]<|by simp[f]).2 x U y;have Z:=Z T.bk;rw[Rz f,O3]at j;obtain⟨E4,e4,j⟩:=bS9 j;obtain⟨⟨o,F5⟩,e5,j⟩:=bS9 j;have S3:=t.step (Kp.same Q)<|T.fd.same Q;have I3:=T.step (Kp.same Q)<|T.fd.same Q;refine hg G p n k a U x items[i] E4 _ I3 Z e4 λW I4 fr=>?_
  refine hb G B0 (ae u B B0) E4 k W U _ o F5 (S3.bind s2 l I4 fr) e5 ?_;cases o with
  | nx V=>exact λw P O=>#v[f,V,F5,O,j]
  | ct V=>exact λw P O=>#v[f,V,F5,O,j]
  | bk V=>cases j;exact λw P O=>qn rfl rfl w P O
  | rt d=>cases j;exact λv P k6 f6 h6=>q v P (kz S1 Y k6) f6 h6
 .have ei:i=items.length:=by lia
  subst ei;rw[Vd,O3]at j;cases j;exact .inl #v[(ok c p A).2,qn rfl rfl a c t]
def X8 {tb}{mb} (hc:X.calm=true)(hi:Ei K X tg iter wi mi)(hg:Eg K X tg g bd)(hb:Sss K X body tb mb)(hp:PassesOwn (model X.prog X.w) X.A X.env X.xe:=by exact PassesOwn.never)
  (hs:autoParam (∀x,XX iter X.env x=pure x) eT):Ss K X (.For tg iter body [] pos) (yr wi g tb) (aN mi bd mb):=#v[yB hp hc hi.pi hg.pg hb.ps hs,IX hi.ok hg.ok hb.ok]
structure Ef K X e te m:Prop where
 pe:PE X e te
 ok:TFd K te m
def mC {p} (hp:H p=none):j9 (hid H B) (hid (upd H p o) (p::B)):=λb u e=>by
 by_cases c:b∈B
 .rw[I0 c]at e;cases e
 .rw[m7 c]at e;have a:=l6 e hp;rw[m7 (by simp[a,c]),f9 a];exact e
def Ax (a:DE->M (List My)):DE->M (List My):=λE F=>(a E F).bind λp=>if p.1.length<=XI then some (p.1,p.2) else none
def Fg {t}(h:Ea K X es t ms):Ef K X (.List es pos) (Am t) (Ax ms):=#v[kI h.pa,λG B E F i H Q d n I e q=>by
 obtain⟨⟨x,l⟩,k,e⟩:=bS9 e;split at e
 .rename_i hl;cases e;refine h.ok G B E F i H _ x l I k λj m b g f=>#v[by rw[f.length];exact hl,λp a=>?_]
  have c:=λz=>(C3 I.bk b g).nin a (I.fB p z)
  exact q p j _ (b.none a c) i8 (b.trans<|Kp.upd a) (g.same<|j9.upd a) (f.same<|mC a)
 .cases e]
def uv (i:Nat)(a:DE->M (List My)):DE->M Out:=λE F=>(a E F).bind λp=>if i<E.length then some (.nx<|E.set i<|some<|.own p.1,p.2) else none
def Jf (he:TFd K te mf):TSd K (aa te<|M6 i) (uv i mf):=λG B0 H0 E F W H D r F' S e q=>by
 obtain⟨⟨ds,F1⟩,e1,e⟩:=bS9 e;split at e
 .rename_i hl;cases e;obtain⟨B,s,sn,I⟩:=S.ex;refine he G B E F W H _ ds _ I e1 λa vs H1 hn ha P f1 h1=>?_
  have I1:=I.step P f1;have u:i < W.length:=by rw[<-I.ln];exact hl
  have C:=I.bk.nin hn;have Q:=λz=>C<|I.fB a z
  have h0:=S.kp.none hn Q;have Y:j9 (hid H B) (hid H1 (a::B)):=λb o T=>by
   by_cases f:b∈B
   .rw[I0 f]at T;cases T
   .rw[m7 f]at T;have Z:=l6 T hn;rw[m7<|by simp[Z,f]];exact P b o T λz=>f<|I.fB b z
  refine q _ H1 #v[#v[a::B,λb f=>QG _<|s b f,λb f=>?_,#v[f1,λb f=>QG _<|I.fB b f,λb f=>?_,by rw[Se,Se];exact I.ln,λj x g=>?_]],S.fB,S.kp.trans P,λj es y g p=>?_,λj k es R y g U p N=>?_,S.dic.set nofun]
  .rcases QQ.1 f with rfl | f
   .exact .inr h0
   .exact sn b f
  .rcases QQ.1 f with rfl | f
   .exact#v[_,ha]
   .exact I1.bk b f
  .by_cases l:i=j
   .subst l;rw[QW hl]at g;cases g;exact#v[.ref a,by rw[QW u],a,vs,rfl,QN,Q,ha,h1]
   .rw[QS l]at g;obtain⟨v,X,L⟩:=I.loc j x g;refine#v[v,by rw[QS l];exact X,?_];cases x with
    | dat d=>exact b8.same (L) Y
    | feed=>exact L
    | fn _=>exact L
    | adr _=>exact L
    | own es =>obtain⟨y,t,rfl,n,m,J,A⟩:=L;exact#v[y,t,rfl,QG _ n,m,P _ _ J m,A.same Y]
    | dic w c ps =>obtain⟨y,t,rfl,n,m,J,ab,A⟩:=L;exact#v[y,t,rfl,QG _ n,m,P _ _ J m,ab,A.same Y]
  .by_cases l:i=j
   .subst l;rw[QW u]at p;cases p;exact#v[h0,λz=>C<|s a z]
   .rw[QS l]at g p;exact S.own j es y g p
  .have h:∀j es,i≠j->E[j]? = some (some<|DV.own es)->W[j]? ≠ some (some<|V.ref a):=λj es _ g z=>by obtain⟨v,X,y,t,rfl,n,_⟩:=I.loc j _ g;rw[X]at z;cases z;exact C n
   by_cases l:i=j
   .by_cases O:i=k
    .exact l.symm.trans O
    .subst l;rw[QW u]at p;cases p;rw[QS O]at U N;exact absurd N<|h k R O U
   .rw[QS l]at g p;by_cases O:i=k
    .subst O;rw[QW u]at N;cases N;exact absurd p<|h j es l g
    .rw[QS O]at U N;exact S.inj j k es R y g U p N
 .cases e
def yz (i)(hN:X.N.Nodup)(he:Ef K X e te mf)(hi:autoParam (X.N[i]? = some x) eH)(hx:autoParam (Loc X.env.scope x) eM)(hs:autoParam (XT e (some<|.Name x pos') pos.line X.env=pure false) eH)(hf:autoParam (X.fn x=true\/X.env.scope.names.lookup x=some .local) eM) :
  Ss K X (.Assign [.Name x pos'] e pos) (aa te<|M6 i) (uv i mf):=#v[M3 hN hi hx he.pe hs hf,Jf he.ok]
end
end
section
section
variable {K:Qf}{st:XF}
section

def Sit.write (S:Sit K G B0 H0 E F σ H)(s:∀b∈B0,b∈B)(sn:∀b∈B,b∈B0\/H0 b=none)(I:SitE K G B E F σ H)(ei:E[i]? = some (some<|DV.own ds))(si:σ[i]? = some (some<|V.ref x))
  (hd:a8 K (hid H B) ds' vs'):Sit K G B0 H0 (E.set i<|some<|.own ds') F σ (upd H x<|.lst vs'):=by
 have hl:=(QR.1 ei).1;obtain⟨v,Q,x',xs,rfl,U,T,R,_⟩:=I.loc i _ ei;rw[si]at Q;cases Q;have D:hid (upd H x<|.lst vs') B=hid H B:=av U;obtain⟨Y,n2⟩:=S.own i ds x ei si;refine#v[#v[B,s,sn,#v[I.fd.congr λb A=>f9 (λz=>A.elim (λA=>T<|z▸A) λ#v[φ,q]=>by rw[z,R]at q;cases q),I.fB,λb A=>?_,by rw[Se];exact I.ln,λj y a=>?_]],S.fB,λb o O X=>?_,λj es f a C=>?_,λj k es L f a ek C W=>?_,S.dic.set1 nofun]
 .by_cases h:b=x
  .subst h;exact#v[_,i8]
  .rw[f9 h];exact I.bk b A
 .by_cases g:i=j
  .subst g;rw[QW hl]at a;cases a;exact#v[.ref x,si,x,vs',rfl,U,T,i8,by rw[D];exact hd]
  .rw[QS g]at a;obtain⟨w,P,u⟩:=I.loc j y a;refine#v[w,P,?_];cases y with
   | dat d=>show b8 K (hid (upd H x<|.lst vs') B) d w;rw[D];exact u
   | feed=>exact u
   | fn _=>exact u
   | adr _=>exact u
   | own es =>
    obtain⟨f,m,rfl,t,p,e,r⟩:=u;have n:f≠x:=λz=>g<|S.inj i j ds es x ei a si<|z▸P
    exact#v[f,m,rfl,t,p,by rw[f9 n];exact e,by rw[D];exact r]
   | dic w c ps =>
    obtain⟨f,m,rfl,t,p,e,J,r⟩:=u;have n:f≠x:=λz=>by rw[z,R]at e;cases e
    exact#v[f,m,rfl,t,p,by rw[f9 n];exact e,J,by rw[D];exact r]
 .rw[f9]
  .exact S.kp b o O X
  .intro z;subst z;rw[Y]at O;cases O
 .by_cases g:i=j
  .subst g;exact S.own i ds f ei C
  .rw[QS g]at a;exact S.own j es f a C
 .have l:∀j es,(E.set i<|some<|.own ds')[j]? = some (some<|DV.own es)->∃es,E[j]? = some (some<|DV.own es):=λj es a=>by
   by_cases g:i=j
   .subst g;exact#v[ds,ei]
   .rw[QS g]at a;exact#v[es,a]
  obtain⟨f1,N⟩:=l j es a;obtain⟨Z,M⟩:=l k L ek;exact S.inj j k f1 Z f N M C W
end
def ju (E:DE)(i:Nat):Option (List My):=match E[i]? with
 | some (some<|.own ds)=>some ds
 | _=>none
def ik (h:ju E i=some ds):E[i]? = some (some<|DV.own ds):=by
 unfold ju at h;split at h
 .rename_i q;cases h;exact q
 .cases h
theorem a8.set :∀{ds} {xs} {d} {v} j,a8 K H ds xs->b8 K H d v->a8 K H (ds.set j d) (xs.set j v)
 | [],xs,d,v,j,h,h'=>by simp only[a8]at h;subst h;simp[a8]
 | e::ds,xs,d,v,0,h,h'=>by
  simp only[a8]at h;obtain⟨y,r,rfl,b,a⟩:=h;simp only[Vs];exact#v[v,r,rfl,h',a]
 | e::ds,xs,d,v,j+1,h,h'=>by simp only[a8]at h;obtain⟨y,r,rfl,b,a⟩:=h;simp only[Vt];exact#v[y,r.set j v,rfl,b,a8.set j a h']
noncomputable def xU (i:Nat)(v:DE->M My):DE->M Out:=λE F=>(v E F).bind λp=>(ju E i).bind λds=>if ds.length<XI then some (.nx<|E.set i<|some<|.own<|ds++[p.1],p.2) else none
def Jb (hv:TEd K te m):TSd K (wm<|tBM K "list" kK (Z0 i)<|J8 te az) (xU i m):=λG B0 H0 E F g H D r J S e q=>by
 obtain⟨⟨d,C⟩,x,e⟩:=bS9 e;obtain⟨z,v,e⟩:=bS9 e;split at e
 .rename_i hl;cases e;obtain⟨B,s,o,I⟩:=S.ex;have n:=ik v;obtain⟨w,j,a,h,rfl,y,p,k,b⟩:=I.loc i _ n;refine#v[_,j,.inl #v[rfl,h,SqL.of k],hv G B E F g H _ d _ I x λu A c l t=>?_];have f:=b.same<|c.hid I.fB;exact#v[a,h,u,rfl,rfl,c a _ k p,by rw[b.length];exact hl,q g _<|(S.step c l).write s o (I.step c l) n j<|f.snoc t]
 .cases e
def lT (K:Qf)(G:GF)(B:List Xy)(H:Hp):List DV->List V->Prop
 | [],vs=>vs=[]
 | x::xs,vs=>∃v r,vs=v::r/\x.ow=false/\DVr K G B H x v/\lT K G B H xs r
def spD (K:Qf)(n:Nat)(f:List DV->M My):Sp:=λe H Q _=>∃G B F a d g,e.length=n/\(∀b∈n5 K G,b∈B)/\BOk H B/\FAt K G H F/\lT K G B H a e/\f a F=some (d,g) /\
 ∀v c,Kp (n5 K G) H c->FAt K G c g->b8 K (hid c B) d v->Q v c
def G3 (N:List Str)(args:List DV):DE:=args.map some++List.replicate (N.length-args.length) none
noncomputable def G1 (N:List Str)(m:DE->M Out):List DV->M My:=λargs F=>(m (G3 N args) F).bind λp=>match p.1 with
 | .rt d=>some (d,p.2)
 | .nx _=>some (.none,p.2)
 | _=>none
theorem lT.length :∀{args} {vs},lT K G B H args vs->vs.length=args.length
 | [],vs,h=>by cases h;rfl
 | x::xs,vs,#v[v,r,e,_,_,h]=>by subst e;rw[QM,QM,h.length]
theorem lT.get :∀{args} {vs} {i:Nat} {x},lT K G B H args vs->args[i]? = some x->∃v,vs[i]? = some v/\x.ow=false/\DVr K G B H x v
 | [],vs,i,x,h,e=>by simp at e
 | y::xs,vs,i,x,#v[v,r,e1,h1,h2,h3],e=>by
  subst e1;cases i with
  | zero=>simp at e;subst e;exact#v[v,rfl,h1,h2]
  | succ i=>simpa using h3.get (by simpa using e)
def dY {i:Nat}(h:(G3 N args)[i]? = some (some x)):args[i]? = some x:=by
 unfold G3 at h;by_cases a:i<args.length
 .rw[Tv (by simpa using a),Rc]at h;obtain⟨y,c,b⟩:=Re.1 h;cases b;exact c
 .rw[Tj (by simpa using a),Sk]at h;split at h <;> simp at h
def jt (fB:∀b∈n5 K G,b∈B)(bk:BOk H B)(f:FAt K G H F)(h:lT K G B H args vs):Sit K G B H (G3 N args) F (L2.W6 N vs) H:=by
 have d:∀i g,(G3 N args)[i]? ≠ some (some<|DV.own g):=λi g e=>by obtain⟨v,_,n,_⟩:=h.get<|dY e;cases n
 refine#v[#v[B,λ_ z=>z,λb o=>.inl o,#v[f,fB,bk,by simp[G3,L2.W6,h.length],λi x e=>?_]],fB,Kp.refl,λi g a e _=>absurd e<|d i g,λi j g es a e _ _ _=>absurd e<|d i g,λi c p a e _=>by obtain⟨v,_,n,_⟩:=h.get<|dY e;cases n];obtain⟨v,k,_,l⟩:=h.get<|dY e;refine#v[v,?_,l];have m:=(QR.1 k).1;unfold L2.W6;rw[Tv (by simpa using m),Rc,k];rfl

def y9 {m} (Fn:Fun K x qual st f fd)(S:FnScope N ps (defScope st))
  (hbody:∀dr A outer s H E,Room k (A.deeper<|envOfC qual (defScope st) s.heap.objs.size f dr) ->
   ∃ts,Sss K (P4 CX0 P w K mg base N qual (defScope st) f dr A outer s H E).nox (defBody st) ts m):FnOk P w K mg base CX0 (k+1) f fd ps (spD K ps.length<|G1 N m):=by
 refine Fn.ok S (λg H Q E h=>?_) (λdr A outer s H g Q E p h=>?_)
 .obtain⟨G,B,F,a,d,L,hl,_⟩:=h;exact hl
 .obtain⟨G,B,F,a,d,L,hl,z,bk,y,t,r,q⟩:=h;obtain⟨ts,b⟩:=hbody dr A outer s H E p;refine#v[ts,b.ps,?_];obtain⟨⟨o,J⟩,D,e⟩:=bS9 r;refine b.ok G B H (G3 N a) F (L2.W6 N g) H _ o J (jt z bk y t) D ?_;cases o with
  | rt O=>cases e;exact λv c n C u=>q v c n C u
  | nx j=>cases e;exact λl c i=>q _ c i.kp (by obtain⟨B,_,_,I⟩:=i.ex;exact I.fd) b8.non
  | bk j=>cases e
  | ct j=>cases e
def TVd (K:Qf)(ta:TA)(m:DE->M (List DV)):Prop:=∀G B E F b H Q d e,SitE K G B E F b H->m E F=some (d,e) ->
 (∀c a,Kp (n5 K G) H a->FAt K G a e->lT K G B a d c->Q c a)->ta b H Q
structure Evs K X es ta m:Prop where
 pa:PA X es ta
 ok:TVd K ta m
def l9 :DE->M (List DV):=λ_ F=>some ([],F)
def vD (a:DE->M My)(r:DE->M (List DV)):DE->M (List DV):=λE F=>(a E F).bind λp=>(r E p.2).bind λq=>some (.dat p.1::q.1,q.2)
def vF (i:Nat)(r:DE->M (List DV)):DE->M (List DV):=λE F=>match E[i]? with
 | some (some .feed)=>(r E F).bind λq=>some (.feed::q.1,q.2)
 | _=>none
def d7 :Evs K X [] az l9:=#v[K5,λG B E F a H Q b c I e q=>by cases e;exact q [] H Kp.refl I.fd rfl]
def i5 (ha:Ev K X e te m)(hr:Evs K X es tl ms)(hs:autoParam (XJ (e::es) X.env=(false,eval e X.env)::XJ es X.env) eH):Evs K X (e::es) (J8 te tl) (vD m ms) :=
 #v[A1 ha.pe hr.pa hs,λG B E F a H Q r t I e q=>by
  obtain⟨⟨x,d⟩,n,e⟩:=bS9 e;obtain⟨⟨f,s⟩,l,e⟩:=bS9 e;cases e;refine ha.ok G B E F a H _ x d I n λv p c k i=>?_
  refine hr.ok G B E d a p _ f _ (I.step c k) l λg o b j h=>q _ o (c.trans b) j #v[v,g,rfl,rfl,i.same<|b.hid I.fB,h]]
def U4 (i)(hr:Evs K X es tl ms)(hN:autoParam (X.N[i]? = some x) eH)(hv:autoParam (Vis X.env.scope x) eN)(hd:autoParam (nDb x) eL)
  (hcd:autoParam (nCd x) eL) (hs:autoParam (XJ (.Name x p::es) X.env=(false,eval (.Name x p) X.env)::XJ es X.env) eH):Evs K X (.Name x p::es) (J8 (Z0 i) tl) (vF i ms) :=
 #v[A1 (P5 hN hv hd hcd) hr.pa hs,λG B E F b H Q n r I e q=>by
  unfold vF at e;split at e
  .rename_i h;obtain⟨⟨c,o⟩,l,e⟩:=bS9 e;cases e;obtain⟨v,g,f⟩:=I.loc i _ h;refine#v[v,g,hr.ok G B E F b H _ c _ I l λd m a k j=>q _ m a k #v[v,d,rfl,rfl,f.step a I.fB,j]]
  .cases e]
def i3 (f:List DV->M My)(ms:DE->M (List DV)):DE->M My:=λE F=>(ms E F).bind λp=>f p.1 p.2
def FN {ta}(h:TVd K ta ms)(hn:∀E F args F',ms E F=some (args,F')->args.length=n):TEd K (aQ (spD K n f) [] E0 ta) (i3 f ms):=λG B E F j H Q d F' I e q=>by
 obtain⟨⟨args,i⟩,g,e⟩:=bS9 e;refine h G B E F j H _ args i I g λp r a c b=>?_
 rw[Sd];exact#v[G,B,i,args,d,F',by rw[b.length];exact hn _ _ _ _ g,I.fB,C3 I.bk a c,c,b,e,λv o k m l=>q v o (a.trans k) m l]
def gI :∀E F args F',l9 E F=some (args,F')->args.length=0:=λE F args F' e=>by cases e;rfl
def fO (h:∀E F args F',ms E F=some (args,F')->args.length=n):∀E F args F',vD m ms E F=some (args,F')->args.length=n+1:=λE F args F' e=>by obtain⟨⟨x,f⟩,c,e⟩:=bS9 e;obtain⟨⟨b,d⟩,a,e⟩:=bS9 e;cases e;rw[QM,h _ _ _ _ a]
def JM (h:∀E F args F',ms E F=some (args,F')->args.length=n):∀E F args F',vF i ms E F=some (args,F')->args.length=n+1:=λE F args F' e=>by
 unfold vF at e;split at e
 .obtain⟨⟨b,c⟩,a,e⟩:=bS9 e;cases e;rw[QM,h _ _ _ _ a]
 .cases e
def Cr (C:b7 X.prog X.w X.K X.mg X.base x k ps (spD K n f))(hr:Room k X.A)(ha:Evs K X (e::es) tl ms)(hn:∀E F args F',ms E F=some (args,F')->args.length=n)(hg:autoParam (Gl X x) eH)
  (hdb:autoParam (nDb x) eL) (he:autoParam (XJ (e::es) X.env=(false,eval e X.env)::XJ es X.env) eH) (hpl:autoParam ((XO pos<|XJ es X.env).any (·.1)=false) eH) :
  Ev K X (.Call (.Name x p) (e::es) [] pos) (aQ (spD K n f) [] E0 tl) (i3 f ms):=#v[jI C hr hg ha.pa hdb he hpl,FN ha.ok hn]
end
end
section
def FdS.cell (F:FdS):Int:=if F.ns=[] then 11 else(F.ns[(F.a % (F.ns.length:Int)).toNat]?).getD 0
def A0:List DV->M My
 | [.feed,.dat<|.int m]=>λF=>(Fam.drawF m F).bind λp=>some (.int p.1,p.2)
 | _=>λ_=>none
def qr {m:Int} (h:0<m):0<=x % m/\x % m<m:=#v[Xr _ (by lia),WO _ h]
def BC {F:FdS}(h0:¬F.ns=[]):atI (F.ns.map V.int) (F.a % ((F.ns.map V.int).length:Int))=some (.int F.cell):=by
 have e:=Vh.2 h0;rw[QI];obtain⟨d,c⟩:=qr (x:=F.a) (m:=F.ns.length ) (by simp[*] );obtain⟨j,b⟩:∃j:Nat,F.a % F.ns.length=j:=#v[(F.a % F.ns.length ).toNat,by lia];have a:j<F.ns.length:=by lia
 unfold FdS.cell;rw[QK h0,b];refine km ?_;rw[Rc];simp[a]
def zj {F:FdS}(h0:¬F.ns=[]):atI (F.ns.map V.int) (F.a % ((F.ns.map V.int).length:Int))=some (.int F.cellL):=by
 have e:F.cellL=F.cell:=by unfold FdS.cellL FdS.cell;rw[QK h0,QK h0]
 rw[e];exact BC h0
def qp (ns:List Int):FdS:=#v[ns,0,0,0]
end
section
def cC:Const->Option My
 | .int i=>some<|.int i
 | .bool b=>some<|.bool b
 | .none=>some .none
 | .str x=>some<|.str x
 | _=>none
def cI:XG->Option Int
 | .Constant c _ _=>match c with
  | .int i=>some i
  | _=>none
 | _=>none
def cU:UnaryOp->Bool
 | .USub=>true
 | _=>false
def cP:Operator->Bool
 | .Pow=>true
 | _=>false
mutual
def cw:XG->Option My
 | .Constant c _ _=>cC c
 | .UnaryOp o e _=>if cU o=true then(cI e).map λi=>.int (-i) else none
 | .BinOp a o b _=>if cP o=true then(cI a).bind λi=>(cI b).bind λj=>if CV i j then some (.int<|i ^ j.toNat) else none else none
 | .Tuple es _ _=>(bK es).bind λd=>if d.length<=10000 then some (.tuple d) else none
 | .List es _=>(bK es).bind λd=>if d.length<=10000 then some (.list d) else none
 | _=>none
def bK:List XG->Option (List My)
 | []=>some []
 | e::es=>(cw e).bind λd=>(bK es).bind λa=>some (d::a)
end
mutual
def T9:My->TE
 | .int i=>tC<|.int i
 | .bool b=>tC<|.bl b
 | .none=>tC .non
 | .str x=>tC<|.str x
 | .tuple ds=>ur<|bW ds
 | .list ds=>Am<|bW ds
 | .dict _=>λ_ _ _=>False
def bW:List My->TA
 | []=>az
 | d::ds=>J8 (T9 d)<|bW ds
end
def lO (h:cI e=some i):∃k p,e = .Constant (.int i) k p:=by
 unfold cI at h;split at h
 .split at h
  .cases h;exact#v[_,_,rfl]
  .cases h
 .cases h
def oH (h:cw e=some d):XJ (e::es) env=(false,eval e env)::XJ es env:=by
 unfold cw at h;split at h
 .rfl
 .rfl
 .rfl
 .rfl
 .rfl
 .cases h
section
variable {K:Qf}
def tU :∀n,(∀e d,sizeOf e<n->cw e=some d->Ev K X e (T9 d) (sC d))/\(∀es ds,sizeOf es<n->bK es=some ds->Ea K X es (bW ds) (λ_ F=>some (ds,F))):=by
 intro n;induction n with
 | zero=>exact#v[λ_ _ h=>absurd h<|UL _,λ_ _ h=>absurd h<|UL _]
 | succ n x =>
  refine#v[λe d r h=>?_,λes ds r h=>?_]
  .unfold cw at h;split at h
   .unfold cC at h;split at h
    .cases h;simp only[T9];exact f8
    .cases h;simp only[T9];exact aX
    .cases h;simp only[T9];exact GK
    .cases h;simp only[T9];exact J7
    .cases h
   .rename_i o l z;split at h
    .rename_i A;obtain⟨i,w,y⟩:=Re.1 h;obtain⟨k,p,rfl⟩:=lO w;have:o = .USub:=by cases o <;> first | rfl | (exact absurd A<|by decide)
     subst this y;simp only[T9];have f:PE X (.UnaryOp .USub (.Constant (.int i) k p) z) (tUn (rU λi=>.int (-i))<|tC<|.int i):=xN qz x6;exact#v[λc s g H Q I h=>f c s g H Q I #v[i,rfl,h],λG B E F g H Q d D I e q=>by cases e;exact q _ H Kp.refl I.fd b8.int]
    .cases h
   .rename_i a o b z;split at h
    .rename_i A;obtain⟨i,w,y⟩:=bS9 h;clear h;obtain⟨j,O,h⟩:=bS9 y;obtain⟨k,p,rfl⟩:=lO w;obtain⟨M,L,rfl⟩:=lO O;have:o = .Pow:=by cases o <;> first | rfl | (exact absurd A<|by decide)
     subst this;split at h
     .rename_i N;cases h;simp only[T9];have f:PE X (.BinOp (.Constant (.int i) k p) .Pow (.Constant (.int j) M L) z) (tOp (rI CV λi j=>.int<|i ^ j.toNat) (tC<|.int i)<|tC<|.int j):=G5 yA x6 x6;exact#v[λc s g H Q I h=>f c s g H Q I #v[i,j,rfl,rfl,N,h],λG B E F g H Q d D I e q=>by cases e;exact q _ H Kp.refl I.fd b8.int]
     .cases h
    .cases h
   .rename_i es k p;obtain⟨ds,l,h⟩:=bS9 h;split at h
    .rename_i hl;cases h;simp only[T9];have t:=x.2 es ds (by simp at r;lia) l;exact#v[jY t.pa,λG B E F g H Q d D I e q=>by
      cases e;refine t.ok G B E F g H _ ds _ I rfl λJ P m v u=>#v[?_,λp f=>q _ _ (m.trans<|Kp.upd f) (v.same<|j9.upd f)<|P0 (C3 I.bk m v) f u]
      rw[u.length];exact QZ hl (by rw[Ry];decide)]
    .cases h
   .rename_i es p;obtain⟨ds,l,h⟩:=bS9 h;split at h
    .rename_i hl;cases h;simp only[T9];have t:=x.2 es ds (by simp at r;lia) l;exact#v[kI t.pa,λG B E F g H Q d D I e q=>by
      cases e;refine t.ok G B E F g H _ ds _ I rfl λJ P m v u=>#v[?_,λp f=>q _ _ (m.trans<|Kp.upd f) (v.same<|j9.upd f)<|bF (C3 I.bk m v) f u]
      rw[u.length];exact QZ hl (by rw[Ry];decide)]
    .cases h
   .cases h
  .cases es with
   | nil=>simp only[bK]at h;cases h;simp only[bW];exact j6
   | cons e es =>
    simp only[bK]at h
    obtain⟨d,l,h⟩:=bS9 h
    obtain⟨C,w,h⟩:=bS9 h
    cases h
    simp only[bW]
    exact c7 (x.1 e d (by simp at r;lia) l) (x.2 es C (by simp at r;lia) w)<|oH l
def yN (e) (d) (h:cw e=some d):Ev K X e (T9 d) (sC d):=(tU<|sizeOf e+1).1 e d (Sx _) h
def eV (d)(h:cw e=some d):Ev K X e (T9 d) (sC d):=yN e d h
end
end
end L3
namespace L3
open PySem
def qi:XW "len" = some (.builtin "len"):=by decide +kernel
def gH:XW "sum" = some (.builtin "sum"):=by decide +kernel
def FL:XW "all" = some (.builtin "all"):=by decide +kernel
def FV:XW "min" = some (.builtin "min"):=by decide +kernel
def ze:XW "abs" = some (.builtin "abs"):=by decide +kernel
def rW:XW "repr" = some (.builtin "repr"):=by decide +kernel
def jw:XW "sorted" = some (.builtin "sorted"):=by decide +kernel
def lj:XW "max" = some (.builtin "max"):=by decide +kernel
def S8:XW "tuple" = some (.type "tuple"):=by decide +kernel
def Ar:XW "list" = some (.type "list"):=by decide +kernel
def Ge:XW "int" = some (.type "int"):=by decide +kernel
def Ct:XW "bool" = some (.type "bool"):=by decide +kernel
end L3
namespace L3
open PySem PySem.Spec PyProof.Rows L2

section
section
variable {K:Qf}
noncomputable def sCh (f g:My->My->Option My)(a b c:DE->M My):DE->M My:=λE F=>(a E F).bind λp=>(b E p.2).bind λq=>(f p.1 q.1).bind λz=>(X3 z).bind λt=>if t then(c E q.2).bind λr=>(g q.1 r.1).bind λy=>some (y,r.2) else some (.bool false,q.2)
def Cy (ha:TEs K ta ma)(hb:TEs K tb mb)(hc:TEs K tc mc):TEd K (oF (rD2 K f) (rD2 K g) ta tb tc) (sCh f g ma mb mc):=λG B E F c H Q d F' I e q=>by
 obtain⟨⟨x,D⟩,W,e⟩:=bS9 e;obtain⟨⟨y,C⟩,V,e⟩:=bS9 e;obtain⟨z,U,e⟩:=bS9 e;obtain⟨t,T,b⟩:=bS9 e;refine ha G B E F c H _ x D I W λv Y j N M=>?_
 refine hb G B E D c Y _ y C (I.step j N) V λw H2 i l o=>#v[n5 K G,B,x,y,_,C3 I.bk (j.trans i) l,M.step i I.fB,o,U,λu A s n=>?_]
 have:=T4 T;subst this;simp only[b8]at n;refine#v[t,n,?_];have a:=(j.trans i).trans<|Kp.same s;cases t with
 | false =>rw[QK<|by decide]at b ⊢;cases b;exact q _ A a (l.same s) b8.bl
 | true =>rw[QH rfl]at b ⊢;obtain⟨⟨r,Z⟩,S,P⟩:=bS9 b;obtain⟨z2,R,O⟩:=bS9 P;cases O;refine hc G B E C c A _ r Z (I.step a<|l.same s) S λw' H4 h p L=>#v[n5 K G,B,y,r,_,C3 I.bk (a.trans h) p,(o.step (Kp.same s) I.fB).step h I.fB,L,R,λJ X m k=>q J X ((a.trans h).trans<|Kp.same m) (p.same m) k]
def vY (ho:OpR X (compareOp op) (rD2 K f))(ho':OpR X (compareOp op') (rD2 K g))(ha:Eb K X a ta ma)(hb:Eb K X b tb mb)(hc:Eb K X c tc mc)
  (hm:lastMarks [op,op'] [b,c]=false:=by with_unfolding_all rfl):Et K X (.Compare a [op,op'] [b,c] pos) (mW<|oF (rD2 K f) (rD2 K g) ta tb tc) (uB<|sCh f g ma mb mc) :=
 #v[za ho ho' ha.pe hb.pe hc.pe hm,λG B E F i H Q d p I e q=>by
  obtain⟨⟨x,o⟩,m,e⟩:=bS9 e;obtain⟨t,l,e⟩:=bS9 e;cases e;refine Cy ha.ok hb.ok hc.ok G B E F i H _ x o I m λv n j k h=>?_
  have:=T4 l;simp only at this;subst this;simp only[b8]at h;exact#v[_,h,q n j k]]
def Ey (i)(hK:X.K=K)(hv:Ev K X e te m)(hN:autoParam (X.N[i]? = some x) eH)(hvis:autoParam (Vis X.env.scope x) eN)(hd:autoParam (nDb x) eL)(hcd:autoParam (nCd x) eL)
  (hbase:autoParam (XU (.Name x px) "append" X.env (eval (.Name x px) X.env)=eval (.Name x px) X.env) eH)
  (hfew:autoParam (((XO cp<|XJ [e] X.env).all (λx=>!x.1)&&(Yc cp<|Yd [] X.env).all (λx=>x.1.isSome)
   && decide ([e].length+([]:List XQ).length+(if ([]:List XQ).isEmpty then 0 else 1)<30))=true) eH)
  (hline:autoParam ((ap.endLine == cp.line)=true) eH) (hst:autoParam (XJ [e] X.env=(false,eval e X.env)::XJ [] X.env) eH) (hplain:autoParam ((XO cp<|XJ [] X.env).any (·.1)=false) eH)
  (hs:autoParam (XT (.Call (.Attribute (.Name x px) "append" ap) [e] [] cp) none pos.line X.env=pure false) eH) :
  Ss K X (.Expr (.Call (.Attribute (.Name x px) "append" ap) [e] [] cp) pos) (wm<|tBM K "list" kK (Z0 i)<|J8 te az) (xU i m):=by subst hK;exact#v[Cs (Jo PySem.F.plainAttrs_list PySem.F.slot_list_append PySem.F.type_list_append bS (P5 hN hvis hd hcd) (A1 hv.pe K5 hst) hbase hfew hline hst hplain) hs,Jb hv.ok]
end
end
section
section
variable {K:Qf}
def GD (K:Qf)(mg:Str->Option Xx)(x:Str)(d:My):Prop:=∃a,mg x=some (.ref a)/\∀H,b8 K H d<|.ref a
def pH (h:GD K X.mg x d)(hg:autoParam (Gl X x) eH)(hd:autoParam (nDb x) eL):Ev K X (.Name x p) (tC<|.ref h.choose) (sC d) :=
 #v[Bo hg h.choose_spec.1 rfl hd,λG B E F a H Q d b I e q=>by cases e;exact q _ H Kp.refl I.fd<|h.choose_spec.2 _]
end
end

section
section

def W7 {items}(hit:s.heap.IsTupleIter it l i)
  (hl:s.heap.IsTuple l items) (hx:items[i]? = some x)
  (hQ:∀h',h'.IsTupleIter it l (i+1)->XH.SameBut it s.heap h'->Q x { s with heap:=h' }) :
  XR (model prog w) A (Builtin.SmallTypes.nextOf<|.ref it) Q E s:=by
 obtain⟨o,b,e,a⟩:=id hit;obtain⟨f,c,_,g,d⟩:=hl;refine QD (Sl hit.typeIs Tq
  (RO Tq hit.typeIs VS ?_<|VL _))
 show XR _ _ (field (.ref it) 0 >>= _) _ _ s;refine QD<|RF b a (x:=.ref l) rfl ?_;rw[QK<|show ¬((Xx.ref l == Xx.none)=true) from Ri];refine QD<|RF b a rfl ?_;refine QD<|So c d ?_;simp only[RQ,hx];refine QD (Ux b a (by simp)<|QF #v[x,rfl,QF<|hQ _ ?_<|UD ..]);exact#v[_,RR _ b<|Wb<|Uc a _,(XM.cls_mapFields ..).trans e,by rw[Uc a];simp[rawInt]]
def Z6 {items}(hh:A.handled=none)
  (hit:s.heap.IsTupleIter it l i) (hl:s.heap.IsTuple l items) (hx:items[i]? = none)
  (hE:∀h' e,XH.ExtBut it s.heap h'->(∃o,h'.get? e=some o/\o.cls = .type "StopIteration")->E (.ref e) { s with heap:=h' }) :
  XR (model prog w) A (Builtin.SmallTypes.nextOf<|.ref it) Q E s:=by
 obtain⟨o,c,j,f⟩:=id hit;obtain⟨g,b,_,h,d⟩:=hl;refine QD (Sl hit.typeIs Tq
  (RO Tq hit.typeIs VS ?_<|VL _))
 show XR _ _ (field (.ref it) 0 >>= _) _ _ s;refine QD<|RF c f (x:=.ref l) rfl ?_;rw[QK<|show ¬((Xx.ref l == Xx.none)=true) from Ri];refine QD<|RF c f rfl ?_;refine QD<|So b d ?_;simp only[RQ,hx];refine QD (Th<|QD<|Ux c f (by simp) ?_);refine QD ?_;simp only[newExc];refine QD (RI ?_<|by size_fits);refine QD (wpAny_of_eq (by first | rfl | (simp only[firstArgMember];rfl)) ?_);refine RI ?_ (by size_fits);simp only[raiseNew];refine QD<|wpAny_handled ?_;first | rw[hh] | rw[hh]
 refine QD<|QF<|wpAny_throw ?_;exact hE _ _ (((UD ..).extBut.push _).push _) #v[_,QV _ rfl,rfl]
end
def G6 (b:Bool)(h:XH)(it l:Xy)(i:Nat):Prop:=if b then h.IsListIter it l i else h.IsTupleIter it l i
def T8 (b:Bool)(h:XH)(l:Xy)(items:Array Xx):Prop:=if b then h.IsList l items else h.IsTuple l items
def G6.at (x:G6 b h it l i)(k:∀o,h.get? it=some o->h'.get? it=some o):G6 b h' it l i:=by
 cases b
 .exact XH.IsTupleIter.at (x) k
 .exact XH.IsListIter.at (x) k
def T8.at (x:T8 b h l items)(k:∀o,h.get? l=some o->h'.get? l=some o):T8 b h' l items:=by
 cases b
 .obtain⟨o,a,r⟩:=(x);exact#v[o,k o a,r]
 .exact XH.IsList.at (x) k
def G6.obj (x:G6 b h it l i):∃o,h.get? it=some o/\∀v,o.data ≠ .cell v:=by
 cases b
 .obtain⟨o,e,c,d⟩:=(x);exact#v[o,e,λv z=>by rw[d]at z;cases z]
 .obtain⟨o,e,c,d⟩:=(x);exact#v[o,e,λv z=>by rw[d]at z;cases z]
def aT (b) (hh:A.handled=none)(it l) (hne:l≠it)(items) :
  Draws prog w A it [it,l] items.size (λi v=>items[i]? = some v) (λi h=>G6 b h it l i/\T8 b h l items) where
 live:=λ_ _ st=>let #v[o,k,_]:=st.1.obj;#v[o,k]
 frame:=λ_ _ _ st f=>#v[st.1.at λo e=>f it (by simp) o e,st.2.at λo e=>f l (by simp) o e]
 item:=λi s Q E d st g=>by
  cases b
  .refine W7 (st.1) (st.2) (x:=items[i]) (by simp[d]) λh' c a=>?_
   exact g _ h' s.toks (by simp[d]) #v[c,st.2.at λo e=>a.extBut l o hne e] a
  .refine wpAny_nextOf_list_item (st.1) (st.2) (x:=items[i]) (by simp[d]) λh' c a=>?_
   exact g _ h' s.toks (by simp[d]) #v[c,st.2.at λo e=>a.extBut l o hne e] a
 done:=λs Q E st j=>by
  cases b
  .exact Z6 hh (st.1) (st.2) (by simp) j
  .exact wpAny_nextOf_list_end hh (st.1) (st.2) (by simp) j
open AutoSeq1 (wpAny_loadPart') in
def aI (l:Xy)(items:Array Xx)(n:Nat)(dct:Option Xy)(sl:Array (Option Xx)) :
  Meets (Builtin.«enumerate.__new__» #v[[.type "enumerate",.ref l],[]]) (λ_ R s=>s.heap.get? l=some { cls:=.type "tuple",dict:=dct,data:=.seq items n,slots:=sl } /\
   R (.ok<|.ret<|.ref (s.heap.push { cls:=.type "tuple_iterator",data:=.fields #[.ref l,.int 0 0] }).objs.size)
    { s with heap:=(s.heap.push { cls:=.type "tuple_iterator",data:=.fields #[.ref l,.int 0 0] }).push { cls:=.type "enumerate",data:=.fields #[.none,.bool false,.ref s.heap.objs.size,rawInt 0,.none,.none] } }) :=
 .of_wp λprog w A R s h=>by
  obtain⟨i,g,d,e,f⟩:=s;obtain⟨hl,h⟩:=h;have b:=sub_enumerate;have a:XH.IsTuple (Xz.heap #v[i,g,d,e,f]) l items:=#v[_,hl,rfl,n,rfl];wp_walk using wpAny_loadPart' hl;refine wpAny_stack_any λst=>QF ?_
  split
  .rename_i c _ _ _ _ _;cases(c == Xx.type "enumerate")
   .wp_walk using wpAny_loadPart' hl,SU a;exact#v[_,rfl,h]
   .wp_walk using wpAny_loadPart' hl,SU a;exact#v[_,rfl,h]
  .wp_walk using wpAny_loadPart' hl,SU a;exact#v[_,rfl,h]
section
variable {s:Xz}
def bj (hL:s.heap.IsTuple l items)
  (h:∀h',IsEnum h' (s.heap.objs.size+1) s.heap.objs.size 0 .none->h'.IsTupleIter s.heap.objs.size l 0->h'.objs.size=s.heap.objs.size+2 ->
   (∀b o,s.heap.get? b=some o->h'.get? b=some o)->Q (.ref<|s.heap.objs.size+1) { s with heap:=h' }) :
  XR (model prog w) A (call (.type "enumerate") [.ref l]) Q E s:=by
 obtain⟨⟨c,f,j,i⟩,hl,e,n,d⟩:=hL;replace e:=e;replace d:=d;subst e d;refine callType_new PySem.F.called_enumerate (by decide) (PySem.F.typeCall_enumerate_1 _) (PySem.F.newCall_enumerate_1 _) (λobj=>PySem.F.args_object_init_2 obj _) PySem.F.entry_enumerate_new
  (aI l items n f i) #v[hl,?_]
 have a:(s.heap.push { cls:=.type "tuple_iterator",data:=.fields #[.ref l,.int 0 0] }).objs.size=s.heap.objs.size+1:=RG ..;rw[a];have g:IsEnum ((s.heap.push { cls:=.type "tuple_iterator",data:=.fields #[.ref l,.int 0 0] }).push
   { cls:=.type "enumerate",data:=.fields #[.none,.bool false,.ref s.heap.objs.size,rawInt 0,.none,.none] }) (s.heap.objs.size+1) s.heap.objs.size 0 .none:=by
  have:=QV (s.heap.push { cls:=.type "tuple_iterator",data:=.fields #[.ref l,.int 0 0] })
   (o:={ cls:=.type "enumerate",data:=.fields #[.none,.bool false,.ref s.heap.objs.size,rawInt 0,.none,.none] }) rfl
  rw[a]at this;exact this
 refine#v[#v[_,g,rfl],h _ g #v[_,QE _<|QV _ rfl,rfl,rfl] (by rw[RG,a]) λb o x=>QE _<|QE _ x]
def jJ (hL:T8 b s.heap l items)
  (h:∀h',IsEnum h' (s.heap.objs.size+1) s.heap.objs.size 0 .none->G6 b h' s.heap.objs.size l 0->h'.objs.size=s.heap.objs.size+2 ->
   (∀b o,s.heap.get? b=some o->h'.get? b=some o)->Q (.ref<|s.heap.objs.size+1) { s with heap:=h' }) :
  XR (model prog w) A (call (.type "enumerate") [.ref l]) Q E s:=by
 cases b
 .exact bj (hL) h
 .exact call_enumerate_list (hL) h
end
def SqA (b:Bool)(K:Qf)(H:Hp)(a:Xy)(xs:List V):Prop:=if b then SqL K H a xs else SqT K H a xs
def Ite (b:Bool)(K:Qf)(a:Xy):It :=
 #v[λi H=>∃c x,SqA b K H a c/\c[i]? = some x,λi H v d=>∃t x,v = .ref t/\H t=none/\d=upd H t (.tup [.int i,x])/\∀c,SqA b K H a c->c[i]? = some x,λi H=>∃c,SqA b K H a c/\c.length=i]
def SqA.get {X}{σ:St}{H}{s}{a}{xs} (I:Inv X π σ H s)(h:SqA b X.K H a xs):∃its,s0 xs its/\T8 b s.heap a its.toArray:=by
 cases b
 .obtain⟨its,c,p,_⟩:=I.tuple (h);exact#v[its,c,p]
 .obtain⟨its,c,p,_⟩:=I.list (h);exact#v[its,c,p.isList]
def SqA.inj {X}{σ:St}{H}{s}{a}{xs ys} (I:Inv X π σ H s)(h:SqA b X.K H a xs)(h':SqA b X.K H a ys):ys=xs:=by
 cases b
 .exact I.tuple_inj (h') (h)
 .exact I.list_inj (h') (h)
end
section
def iT {h:XH}{c:Xy}(hl:c<h.objs.size)(e:(h.push o).get? c=some o'):h.get? c=some o':=by obtain⟨b,a⟩:=WQ.1 e;refine WQ.2 #v[?_,a];have:=QY hl;cases h;simpa [XH.push,Array.getElem?_push,this] using b
def Q2 {σ:St}{fp:List Xy}(I:Inv X π σ H s)(hf:∀b∈fp,bX X π H b)(k:∀b o,b ∉ fp->s.heap.get? b=some o->h'.get? b=some o):Inv X π σ H { s with heap:=h',toks:=t' }:=by
 have d:∀b u,H b=some u->b ∉ fp:=λb u e z=>by rw[(hf b z).1]at e;cases e
 refine I.step (λb h=>?_) (λb o _ _ a e _=>k b o a e) (λb o _ _ a e _=>#v[o.slots,k b o a e]) (λ_ _ _ _ n=>n)
  (λb o a e=>#v[o,k b o a e]) (λ_ _ e=>e) (λ_ _ _ e=>e) (λb w e=>#v[#[],by rw[e];simp]) (λm g=>?_) (λb u e=>?_) I.bare
 .obtain⟨_,p,x,l,j,i⟩:=hf b h;exact#v[l,p,j,i]
 .obtain⟨o,es,t,f,r⟩:=g;exact#v[o,es,t,k _ o (λz=>(hf _ z).2.1 rfl) f,r]
 .refine(I.hok b u e).stay (λc v a q=>k c v ?_ q) (λ_ q=>q) λ_ _ q=>q
  rcases a with z | z
  .rw[z];exact d b u e
  .exact d c _ z
def uo {K}(b) (a e it):Turn P w K (.Tuple es k pos) (Ite b K a) [e,it] e (λi h=>(e≠it/\a≠e/\a≠it)/\(∃old,IsEnum h e it i old)/\G6 b h it a i) where
 mem:=by simp
 obj:=λi h st c hb=>by
  obtain⟨_,⟨old,q⟩,d⟩:=st;rcases QQ.1 hb with rfl | hb
  .exact#v[_,q,λv z=>by cases(show Data.fields _=Data.cell v from z)]
  .rw[Rn.1 hb];exact d.obj
 keep:=λi h h' st kk=>by obtain⟨n,⟨old,q⟩,d⟩:=st;exact#v[n,#v[old,kk e (by simp) _ q],d.at λo z=>kk it (by simp) o z]
 item:=by
  intro X hP U hK L i π s Q H E I hf st hg;subst hP U hK;obtain⟨⟨B,S,M⟩,⟨old,q⟩,d⟩:=st;obtain⟨xs,x,O,N⟩:=hg;obtain⟨g,R,p⟩:=SqA.get I O;obtain⟨u,hu,ru⟩:=R.get N;have W:i<g.toArray.size:=by have:=(QR.1 hu).1;simpa using this
  have F:e<s.heap.objs.size:=QJ q;have Z:it<s.heap.objs.size:=by obtain⟨o,z,_⟩:=d.obj;exact QJ z
  refine wpAny_pyNext_enum_itemD (aT b (A:=X.A.in1) (I.ok.hd L) it a M g.toArray) q #v[d,p] W B (by simp[B,RM S]) λy h' l t ho C ht hz hk=>?_
  have T:y=u:=by have t:=t;rw[Ui,hu]at t;exact(QU t).symm
  subst T;refine#v[_,rfl,wpAny_letOwnedTupleGo_enum ho λh2 ac m=>?_];have m:=m;have ab:=I.hok.fresh<|QP _;have I1:Inv X π Q (upd H s.heap.objs.size<|.tup [.int i,x]) { s with heap:=s.heap.push { cls:=.type "tuple",data:=.seq #[.int i l,y] },toks:=l }:=by refine I.laid (λb u e=>QE _ e) (QP _) ?_;exact#v[QZ (show 2<=10000 by decide) (by rw[Ry];decide),[.int i l,y],.cons #v[l,rfl]<|.cons ru .nil,#v[_,QV _ rfl,rfl,_,rfl]]
  have D:∀c∈[e,it],bX X π (upd H s.heap.objs.size<|.tup [.int i,x]) c:=λc j=>by
   obtain⟨f0,f⟩:=hf c j;have V:c≠s.heap.objs.size:=by
    rcases QQ.1 j with rfl | j
    .exact QY F
    .rw[Rn.1 j];exact QY Z
   exact#v[by rw[f9 V];exact f0,f]
  have ad:=m.extBut _ _ (Rr F) ht;have I2:Inv X π Q (upd H s.heap.objs.size<|.tup [.int i,x]) { s with heap:=h2,toks:=l+1 }:=by
   refine Q2 (s:={ s with heap:=s.heap.push { cls:=.type "tuple",data:=.seq #[.int i l,y] },toks:=l }) I1 D λc o G r=>?_
   have c1:c≠e:=λz=>G (by simp[z])
   have c2:c≠it:=λz=>G (by simp[z])
   by_cases J:c=s.heap.objs.size
   .subst J;have:=r;rw[QV _ rfl]at this;rw[ad];exact this
   .have Y:c<s.heap.objs.size:=by have h1:=QJ r;rw[RG]at h1;exact WR (Xc h1) J
    have al:s.heap.get? c=some o:=by have r:=r;exact iT Y r
    exact m.extBut c o c1<|hk c o c1 c2 al
  refine#v[.ref s.heap.objs.size,upd H s.heap.objs.size<|.tup [.int i,x],I2,rfl,#v[_,x,rfl,ab,rfl,λys t=>by rw[SqA.inj I O t];exact N],#v[#v[B,S,M],#v[y,by simpa using ac],C.1.at λo z=>m.extBut it o (RM B) z],λc j=>(D c j).1]
 done:=by
  intro X hP U hK L i π s Q H E I hf st hg;subst hP U hK;obtain⟨⟨B,S,M⟩,⟨old,q⟩,d⟩:=st;obtain⟨xs,O,N⟩:=hg;obtain⟨g,R,p⟩:=SqA.get I O;have hl:g.toArray.size=i:=by rw[Rb,<-R.length];exact N
  refine wpAny_pyNext_enum_endD (aT b (A:=X.A.in1) (I.ok.hd L) it a M g.toArray) q (by rw[hl];exact#v[d,p]) λh' eb=>#v[rfl,Q2 I hf λc o L r=>eb c o (λz=>L<|by simp[z]) r]
 self:=λ_ _ _ _ _ st h=>by obtain⟨_,⟨old,q⟩,_⟩:=st;exact wpAny_pyIter_enum q h
section
variable {K:Qf}
def U2:Nat->List My->List My
 | _,[]=>[]
 | k,d::r=>.tuple [.int k,d]::U2 (k+1) r
theorem fh:∀{ds} {k},(U2 k ds).length=ds.length
 | [],k=>rfl
 | d::r,k=>by rw[U2,QM,QM,fh]
theorem eJ:∀{ds} {k i} {z:My},(U2 k ds)[i]? = some z->∃d,ds[i]? = some d/\z = .tuple [.int<|(k+i:Nat),d]
 | [],k,i,z,h=>by simp[U2]at h
 | d::r,k,0,z,h=>by simp[U2]at h;exact#v[d,by simp,by simp[h]]
 | d::r,k,i+1,z,h=>by rw[U2,TJ]at h;obtain⟨c,b,a⟩:=eJ h;refine#v[c,by simpa using b,?_];rw[a,show k+1+i=k+(i+1) by lia]
def rK (a:DE->M My):DE->M (List My):=λE F=>(a E F).bind λp=>(fE p.1).bind λb=>some (U2 0 b,p.2)
def DT (K:Qf)(tl:TA):TI:=λd H R=>tl d H λf c=>∃a,f=[.ref a]/\∃b e,SqA b K c a e/\R (Ite b K a) c
def Dl (hK:X.K=K)(hg:Gl X "enumerate")(hm:X.mg "enumerate" = none)(ha:PA X [l] tl)(hs:autoParam (XJ [l] X.env=[(false,eval l X.env)]) eH):PI X (.Tuple es tk tp) (.Call (.Name "enumerate" p) [l] [] pos) (DT K tl):=by
 subst hK;intro π s m H R I h;refine Call_ (aK I hg hm boot_enumerate<|Ta (thn (ha pos π s m H _ I h) ?_ ) hs rfl);rintro us s1 ⟨C,t,i,v,w⟩;obtain⟨a,e,b,B,x,q⟩:=w;subst e;cases v with
 | cons r u =>
  cases u;cases r;obtain⟨d,D,p⟩:=SqA.get i x;refine jJ p λh' n j E y=>?_
  have A:Inv X π m t { s1 with heap:=h' }:=i.kept y;have g:a<s1.heap.objs.size:=by
   cases b
   .obtain⟨o,z,_⟩:=(p);exact QJ z
   .obtain⟨o,z,_⟩:=(p);exact QJ z
  refine wpAny_pyIter_enum n #v[s1.heap.objs.size+1,[s1.heap.objs.size+1,s1.heap.objs.size],_,_,t,rfl,A,uo b a _ _,#v[#v[Nat.succ_ne_self _,QY<|SK g,QY g],#v[_,n],j],λc k=>?_,q];have f:s1.heap.objs.size<=c:=by
   rcases QQ.1 k with rfl | k
   .exact Vg _
   .rw[Rn.1 k];exact QP _
  exact i.fpOk f<|i.hok.fresh f
def sQ (h:∀H B,P H B->SqA b K H a xs/\a8 K (hid H B) ds xs):cy K P (Ite b K a) (U2 0 ds):=λH B k=>by obtain⟨f,g⟩:=h H B k;refine#v[λi d e=>?_,#v[xs,f,by rw[fh,g.length]]];obtain⟨n,c,rfl⟩:=eJ e;obtain⟨v,j,l⟩:=a8.item g c;refine#v[#v[xs,v,f,j],λx o y=>?_];obtain⟨t,m,rfl,ht,rfl,y⟩:=y;have:=y xs f;rw[j]at this;cases this;refine#v[j9.upd ht,λbk=>?_];rw[Rx];exact P0 bk ht #v[_,_,rfl,b8.int,_,_,rfl,l,rfl]
def Cw (h:Ev K X e te m)(hm:X.mg "enumerate" = none)(hK:autoParam (X.K=K) eH)(hg:autoParam (Gl X "enumerate") eH)(hs:autoParam (XJ [e] X.env=[(false,eval e X.env)]) eH):Ei K X (.Tuple es tk tp) (.Call (.Name "enumerate" p) [e] [] pos) (DT K<|J8 te az) (rK m):=#v[Dl hK hg hm (A1 h.pe K5 hs) hs,λG B E F l H R w x I e q=>by
 obtain⟨⟨y,t⟩,o,e⟩:=bS9 e;obtain⟨z,g,e⟩:=bS9 e;cases e;refine h.ok G B E F l H _ y t I o λv k i j c=>?_
 cases y with
 | list n =>cases g;simp only[b8]at c;obtain⟨a,d,rfl,b,f⟩:=c;exact#v[a,rfl,true,d,SqL.of<|f7 _ _ b,q _ k i j<|sQ λr u s=>#v[SqL.of<|f7 _ _<|s _ _ b,f.same s]]
 | tuple n =>cases g;simp only[b8]at c;obtain⟨a,d,rfl,b,f⟩:=c;exact#v[a,rfl,false,d,b.same f7,q _ k i j<|sQ λr u s=>#v[(b.same s).same f7,f.same s]]
 | _=>cases g]
end
end
section
section
variable {K:Qf}{b c:XG}
noncomputable def CT (a b:DE->M My):DE->M (List My):=λE F=>(a E F).bind λp=>(b E p.2).bind λq=>match p.1,q.1 with
 | .list xs,.int k=>if -(2 ^ 62)<=k/\k<2 ^ 62/\xs.length*k.toNat<=XI then some ((List.replicate k.toNat xs).flatten,q.2) else none
 | _,_=>none
def FU (ha:Eb K X a ta ma)(hb:Eb K X b tb mb):Ef K X (.BinOp a .Mult b pos) (tOp Jq ta tb) (CT ma mb):=#v[G5 xZ ha.pe hb.pe,λG B E F m H Q d L I e q=>by
 obtain⟨⟨x,o⟩,u,e⟩:=bS9 e;obtain⟨⟨y,D⟩,t,e⟩:=bS9 e;refine ha.ok G B E F m H _ x o I u λv C h s l=>?_
 refine hb.ok G B E o m C _ y D (I.step h s) t λw J g n r=>?_
 have l:=l.step g I.fB;dsimp only at e;split at e
 .split at e
  .rename_i hl;cases e;obtain⟨A,i,rfl,k,f⟩:=l;cases r;refine#v[A,_,i,rfl,rfl,f7 _ _ k,by lia,by omega,by rw[f.length];exact hl.2.2,λp c=>?_];have j:=λz=>(C3 I.bk (h.trans g) n).nin c (I.fB p z)
   exact q p _ _ ((h.trans g).none c j) i8 ((h.trans g).trans<|Kp.upd c) (n.same<|j9.upd c) (a8.rep (f.same<|mC c) _)
  .cases e
 .cases e]
noncomputable def dG (c:DE->M Bool)(b:DE->M Out):Nat->DE->M Out
 | 0,_,_=>none
 | n+1,E,F=>(c E F).bind λp=>if p.1=true then(b E p.2).bind λq=>match q.1 with
  | .nx E2=>dG c b n E2 q.2
  | .ct E2=>dG c b n E2 q.2
  | .bk E2=>some (.nx E2,q.2)
  | .rt d=>some (.rt d,q.2)
  else some (.nx E,p.2)
theorem bM {c}{b}:∀{n m} {E} {F} {r},n<=m->dG c b n E F=some r->dG c b m E F=some r
 | 0,m,E,F,r,_,h=>by cases h
 | n+1,0,E,F,r,hl,h=>absurd hl (by lia)
 | n+1,m+1,E,F,r,hl,h=>by
  rw[dG]at h ⊢;obtain⟨⟨x,i⟩,f,h⟩:=bS9 h;rw[f,QX];cases x with
  | false=>exact h
  | true =>
   rw[QH rfl]at h ⊢;obtain⟨⟨o,g⟩,e,h⟩:=bS9 h;rw[e,QX];cases o with
   | nx a=>exact bM (by lia) h
   | ct a=>exact bM (by lia) h
   | bk a=>exact h
   | rt d=>exact h
open Classical in
def mWh (c:DE->M Bool)(b:DE->M Out):DE->M Out:=λE F=>if h:∃n r,dG c b n E F=some r then some (Classical.choose<|Uj h) else none
def FJ {c}{b}(h:dG c b n E F=some r):mWh c b E F=some r:=by unfold mWh;have a:∃n r,dG c b n E F=some r:=#v[n,r,h];rw[dif_pos a];have e:=Uj<|Uj a;have f:=bM (Nat.le_max_left n<|Classical.choose a) h;have d:=bM (Nat.le_max_right n<|Classical.choose a) e;rw[f]at d;exact d.symm
def FC {c}{b}(h:mWh c b E F=some r):∃n,dG c b n E F=some r:=by
 unfold mWh at h;split at h
 .rename_i a;cases h;exact#v[_,Uj<|Uj a]
 .cases h
def BA {tb}{mc}{mb} (hc:TTd K tt mc)(hb:TSd K tb mb):TSd K (pG tt tb) (mWh mc mb):=λG p k E F t H D r C S e q=>by
 obtain⟨n,e⟩:=FC e;refine#v[λm t H=>∃E F,Sit K G p k E F t H/\dG mc mb m E F=some (r,C),#v[n,E,F,S,e],?_];rintro m c U ⟨J,V,w,a⟩;cases m with
 | zero=>cases a
 | succ m =>
  rw[dG]at a;obtain⟨⟨x,A⟩,T,a⟩:=bS9 a;obtain⟨B,s,W,I⟩:=w.ex;refine hc G B J V c U _ x A I T λy N Q=>?_
  have u:=w.step N Q;cases x with
  | false =>rw[QK Ri];cases a;exact q c y u
  | true =>
   rw[QH rfl];rw[QH rfl]at a;obtain⟨⟨o,l⟩,R,a⟩:=bS9 a;refine#v[λf z=>∃E F,Sit K G p k E F f z/\dG mc mb m E F=some (r,C),λf z h=>#v[m,Sx _,h],?_];refine hb G p k J A c y _ o l u R ?_;cases o with
   | nx j=>exact λb i g=>#v[j,l,g,a]
   | ct j=>exact λb i g=>#v[j,l,g,a]
   | bk j=>cases a;exact λb i g=>q b i g
   | rt d=>cases a;exact λv i L P O=>q v i L P O
def mO {tb}{mc}{mb} (hc:Et K X c tt mc)(hb:Sss K X body tb mb)(hp:PassesOwn (model X.prog X.w) X.A X.env X.xe:=by exact PassesOwn.never):Ss K X (.While c body [] pos) (pG tt tb) (mWh mc mb) :=
 #v[wO hp hc.pt hb.ps,BA hc.ok hb.ok]
end
end
section
section

def vQ :HU X (xC X.K):=by
 intro π s k H x y v u Q I m l h;obtain⟨p,D,i,z,rfl,rfl,n,o,q⟩:=h;cases m;obtain⟨t,rfl⟩:=l;obtain⟨c,r,e,E⟩:=I.list n;obtain⟨j,a,C,G,B,A⟩:=gu o;obtain⟨w,g,b⟩:=r.get C;have hl:=r.length;have F:=aS;have fin:EP X π k Q w s:=#v[z,H,I,b,q];by_cases f:0<=i
 .have d:i.toNat=j:=by rw[seqIndex_of f A]at a;exact QU a
  exact wpAny_getItem_list e.isList f (by lia) (by rw[d];simpa using g) fin
 .have d:(i+c.toArray.size ).toNat=j:=by rw[seqIndex_neg (by lia) B]at a;rw[Rb,<-hl];exact QU a
  exact wpAny_getItem_list_neg e.isList (by lia) (by rw[Rb] <;> lia) (by lia) (by rw[d];simpa using g) fin
end
section
variable {K:Qf}
def As (h:ixN xs.length n=some j)(e:xs[j]? = some v):atI xs n=some v:=by unfold atI;rw[h];exact e
noncomputable def iY (f:Int->Int->Int)(i:Nat)(k v:DE->M My):DE->M Out:=λE F=>(k E F).bind λp=>(K8 p.1).bind λn=>(ju E i).bind λds=>(ixN ds.length n).bind λj=>(ds[j]?).bind λd=>(K8 d).bind λx=>(v E p.2).bind λq=>(K8 q.1).bind λy=>some (.nx<|E.set i<|some<|.own<|ds.set j<|.int<|f x y,q.2)
def An (hk:TEd K tb mb)(hv:TEd K te m):TSd K (yf (Z0 i) tb te (xC K) (ipI f) vS) (iY f i mb m):=λG B0 H0 E F l H D r F' S e q=>by obtain⟨⟨n,R⟩,e1,e⟩:=bS9 e;obtain⟨k,e2,e⟩:=bS9 e;obtain⟨ds,e3,e⟩:=bS9 e;obtain⟨j,P,e⟩:=bS9 e;obtain⟨d,Z,e⟩:=bS9 e;obtain⟨x,Y,e⟩:=bS9 e;obtain⟨⟨z,F2⟩,X,e⟩:=bS9 e;obtain⟨y,W,e⟩:=bS9 e;cases e;obtain⟨B,s,U,I⟩:=S.ex;have O:=ik e3;obtain⟨w,A,a,t,rfl,hB,o,J,p⟩:=I.loc i _ O;refine#v[_,A,hk G B E F l H _ n R I e1 λu H1 c V M=>?_];have:=Q1 e2;simp only at this;subst this;simp only[b8]at M;subst M;have Q:=I.step c V;have b:=p.same<|c.hid I.fB;obtain⟨v,T,C⟩:=a8.item b Z;have:=Q1 Y;subst this;simp only[b8]at C;subst C;refine#v[a,t,k,_,rfl,rfl,SqL.of<|c a _ J o,As (by rw[b.length];exact P) T,hv G B E R l H1 _ z _ Q X λw H2 h N L=>?_];have:=Q1 W;simp only at this;subst this;simp only[b8]at L;subst L;refine#v[x,y,rfl,rfl,?_];have I2:=Q.step h N;have S2:=S.step (c.trans h) N;have g:=b.same<|h.hid I.fB;exact#v[a,t,k,j,rfl,rfl,h a _ (c a _ J o) o,by rw[g.length];exact P,q l _<|S2.write s U I2 O A<|a8.set j g b8.int]
def xx (i)(hK:X.K=K)(hk:Ev K X b tb mb)(hv:Ev K X e te m)(hN:autoParam (X.N[i]? = some x) eH)(hvis:autoParam (Vis X.env.scope x) eN)(hd:autoParam (nDb x) eL)(hcd:autoParam (nCd x) eL)
  (ha:autoParam (∀ov iv new,augStore b ov iv new=(do holding [new,ov,iv] (setItem ov iv new);release [new,ov,iv] [];pure .next)) oD) :
  Ss K X (.AugAssign (.Subscript (.Name x px) b tpos) .Add e pos) (yf (Z0 i) tb te (xC K) (ipI λi j=>i+j) vS) (iY (λi j=>i+j) i mb m):=by subst hK;exact#v[BH (P5 hN hvis hd hcd) hk.pe vQ hv.pe FE dq ha,An hk.ok hv.ok]
end
end

section
abbrev W8 (h:XH)(e it:Xy)(i:Int)(T:Xy)(f:Bool)(old:Xx):Prop :=
 h.get? e=some { cls:=.type "enumerate",dict:=none,data:=.fields #[rawInt T,.bool f,.ref it,rawInt i,.none,old],slots:=#[] }
section

def Jw (ho:s.heap.get? a=some o)(h:Q (some o) s):XR (model prog w) A (loadIfAlive a) Q E s:=by
 have h':Q (s.heap.get? a) s:=by rw[ho];exact h
 exact λ_ _ _=>h'
def jd {i:Nat}{St}{Q:Xx->Xz->Prop}
  (D:Draws prog w A it fp n P St) (he:W8 s.heap e it i T0 f old) (hT0:s.heap.get? T0=some oT) (hTe:T0≠e) (hTi:T0≠it) (hst:St i s.heap) (hlt:i<n) (hne:e≠it) (hef:e ∉ fp)
  (hQ:∀x h' tk,P i x->W8 h' e it ((i:Int)+1) T0 true old->St (i+1) h' ->
   h'.get? s.heap.objs.size=some { cls:=.type "tuple",data:=.seq #[.int i tk,x] }->h'.objs.size=s.heap.objs.size+1 ->
   (∀b o,b≠e->b≠it->s.heap.get? b=some o->h'.get? b=some o)->Q (.ref s.heap.objs.size) { s with heap:=h',toks:=tk+1 }) :
  XR (model prog w) A (Builtin.«enumerate.__next__» #v[[.ref e],[]]) (λfin s'=>∃v,fin = .done (.ret v)/\Q v s') E s:=by
 obtain⟨R,g,d,T,K⟩:=s;show XR _ _ (field (.ref e) 2 >>= _) _ _ _;refine QD<|RF he rfl (x:=.ref it) rfl ?_;refine QD (D.item i _ _ _ hlt hst λx k tk S G j=>?_);replace j:XH.SameBut it R k:=j;have t:W8 k e it i T0 f old:=(j.2 e hne).trans he;show XR _ _ (field (.ref e) 3 >>= _) _ _ #v[k,g,d,tk,K];refine QD<|RF t rfl rfl ?_;refine QD<|RF t rfl rfl ?_;refine QD<|wpAny_mkInt ?_;refine QD (SF t (by simp) λu r h=>?_);replace h:=h;replace r:=r;refine QD (SF r (by simp) λl p c=>?_);replace c:=c;replace p:=p;refine QD<|wpAny_newTuple ?_;have m:W8 (l.push { cls:=.type "tuple",data:=.seq #[.int i tk,x] }) e it ((i:Int)+1) T0 f old:=QE _ p;generalize hh₄:l.push { cls:=.type "tuple",data:=.seq #[.int i tk,x] }=h₄ at m;have L:l.objs.size=R.objs.size:=by rw[c.1,h.1,j.1]
 have U:=QJ he;have J:h₄.get? R.objs.size=some { cls:=.type "tuple",data:=.seq #[.int i tk,x] }:=by rw[<-hh₄,<-L];exact QV _ rfl
 have I:h₄.objs.size=R.objs.size+1:=by rw[<-hh₄,RG,L]
 have B:∀b o,b≠e->b≠it->R.get? b=some o->h₄.get? b=some o:=λb o z M N=>by rw[<-hh₄];exact QE _<|c.extBut b o z<|h.extBut b o z<|j.extBut b o M N
 have F:St (i+1) h₄:=D.frame _ _ _ G λb N o y=>by
  have z:b≠e:=λq=>hef<|q▸N
  rw[<-hh₄];exact QE _<|c.extBut b o z<|h.extBut b o z y
 have O:=B T0 oT hTe hTi hT0;rw[L];refine QD ?_
 .refine QD<|RF m rfl rfl ?_;show XR _ _ (loadIfAlive ((T0:Int).toNat) >>= _) _ _ _;rw[RQ];refine QD<|Jw O ?_;refine QD<|RF m rfl rfl ?_;cases f with
  | true =>refine QF ?_;exact QF #v[_,rfl,hQ x h₄ tk S m F J I B]
  | false =>
   refine QD (SF m (by simp) λH C a=>?_);replace a:=a;replace C:=C;refine QF ?_;refine QF #v[_,rfl,hQ x H tk S C ?_ ?_ ?_ ?_]
   .exact D.frame _ _ _ F λb N o y=>a.extBut b o (λq=>hef<|q▸N) y
   .exact a.extBut _ _ (Rr U) J
   .rw[a.1,I]
   .exact λb o z M N=>a.extBut b o z<|B b o z M N
def qm (h:XH)(e it:Xy)(i:Nat):Prop:=(∃a,IsEnum h e it i a)\/∃T o f a,W8 h e it i T f a/\(h.get? T=some o/\o.cls = .type "tuple")/\T≠e/\T≠it
def qm.at (x:qm h e it i)(k:∀b o,(b=e\/o.cls = .type "tuple")->h.get? b=some o->h'.get? b=some o):qm h' e it i:=by
 rcases x with ⟨a,c⟩ | ⟨T,o,f,a,c,⟨g,d⟩,l,j⟩
 .exact .inl #v[a,k e _ (.inl rfl) c]
 .exact .inr #v[T,o,f,a,k e _ (.inl rfl) c,#v[k T o (.inr d) g,d],l,j]
def tZ (hh:A.handled=none)(hs:qm s.heap e it i)(hit:G6 b s.heap it l i)(hl:T8 b s.heap l items)(hlt:i<items.size)(hne:e≠it)(hle:l≠e)(hli:l≠it)
  (hQ:∀x h' tk,items[i]? = some x->qm h' e it (i+1)->G6 b h' it l (i+1) ->
   h'.get? s.heap.objs.size=some { cls:=.type "tuple",data:=.seq #[.int i tk,x] }->h'.objs.size=s.heap.objs.size+1 ->
   (∀b o,b≠e->b≠it->s.heap.get? b=some o->h'.get? b=some o)->Q (some<|.ref s.heap.objs.size) { s with heap:=h',toks:=tk+1 }) :
  XR (model prog w) A (pyNext<|.ref e) Q E s:=by
 have n:it<s.heap.objs.size:=by obtain⟨o,z,_⟩:=hit.obj;exact QJ z
 rcases hs with ⟨c,d⟩ | ⟨T,o,f,c,d,⟨u,q⟩,t,r⟩
 .have p:=QJ d;refine wpAny_pyNext_enum_itemD (aT b (A:=A.in1) hh it l hli items) d #v[hit,hl] hlt hne (by simp[hne,RM hle]) λx h' tk k m a ht j h=>?_
  exact hQ x h' tk k (.inr #v[_,_,false,x,by simpa using m,#v[ht,rfl],Rr p,Rr n]) a.1 ht j h
 .have g:s.TypeIs (.ref e) "enumerate":=#v[_,d,rfl];refine QD (Uq (Sl g Ud
   (RO Ud g WD
    (jd (aT b (A:=A.in1) hh it l hli items) d u t r #v[hit,hl] hlt hne (by simp[hne,RM hle]) λx h' tk k m a ht j h=>QF ?_) (Wy _))))
  exact hQ x h' tk k (.inr #v[T,o,true,c,by simpa using m,#v[h T o t r u,q],t,r]) a.1 ht j h
def yi (hh:A.handled=none)(hs:qm s.heap e it items.size)(hit:G6 b s.heap it l items.size)(hl:T8 b s.heap l items)(hli:l≠it)
  (hQ:∀h',XH.ExtBut it s.heap h'->Q none { s with heap:=h' }):XR (model prog w) A (pyNext<|.ref e) Q E s:=by
 have j:s.TypeIs (.ref e) "enumerate":=by
  rcases hs with ⟨d,g⟩ | ⟨T,o,f,d,g,_⟩
  .exact#v[_,g,rfl]
  .exact#v[_,g,rfl]
 refine QD (Uq (Sl j Ud
  (RO Ud j WD ?_<|Wy _)))
 have D:=aT (prog:=prog) (w:=w) b (A:=A.in1) hh it l hli items;show XR _ _ (field (.ref e) 2 >>= _) _ _ _;have fin:XR (model prog w) A.in1 (Builtin.SmallTypes.nextOf<|.ref it) (λ_ _=>False) (λx k=>∃h',XH.ExtBut it s.heap h'/\k={ s with heap:=h' }/\∃e,x = .ref e/\∃o,h'.get? e=some o/\o.cls = .type "StopIteration") s :=
  D.done _ _ _ #v[hit,hl] λh' x c a=>#v[h',c,rfl,x,rfl,a]
 rcases hs with ⟨d,g⟩ | ⟨T,o,f,d,g,_⟩
 .refine QD<|RF g rfl rfl ?_;refine QD (D.done _ _ _ #v[hit,hl] λh' x c a=>?_);obtain⟨o,h,i⟩:=a;refine QD<|Uy #v[o,h,i] WC ?_;exact QF<|hQ _ c
 .refine QD<|RF g rfl rfl ?_;refine QD (D.done _ _ _ #v[hit,hl] λh' x c a=>?_);obtain⟨o,h,i⟩:=a;refine QD<|Uy #v[o,h,i] WC ?_;exact QF<|hQ _ c
structure Tups (h:XH) S e it (items acc:Array Xx) i:Prop where
 sz:acc.size=i
 at_:∀(j:Nat) v,acc[j]? = some v->∃T tk x,v = .ref T/\items[j]? = some x/\h.get? T=some { cls:=.type "tuple",data:=.seq #[.int j tk,x] }/\S<T/\T≠e/\T≠it
def Tups.keep (x:Tups h S e it items acc i)(k:∀b o,b≠S->b≠e->b≠it->h.get? b=some o->h'.get? b=some o):Tups h' S e it items acc i :=
 #v[x.sz,λj v g=>by obtain⟨T,f,y,n,m,l,d,c,a⟩:=x.at_ j v g;exact#v[T,f,y,n,m,k T _ (Rr d) c a l,d,c,a]]
def Bx (hh:A.handled=none)(hn:items.size<=XI)(hne:e≠it)(hle:l≠e)(hli:l≠it)(hSe:S≠e)(hSi:S≠it)(hSl:S≠l)(res) :
  ∀k i s acc c,items.size-i=k->i<=items.size->qm s.heap e it i->G6 b s.heap it l i->T8 b s.heap l items->s.heap.get? S=some { cls:=.type "list",dict:=none,data:=.seq acc c,slots:=#[] }->Tups s.heap S e it items acc i ->
  (∀h' tk acc' c',(∀b o,b≠S->b≠e->b≠it->s.heap.get? b=some o->h'.get? b=some o)->h'.get? S=some { cls:=.type "list",dict:=none,data:=.seq acc' c',slots:=#[] }->Tups h' S e it items acc' items.size->R (.ok<|.ret res) { s with heap:=h',toks:=tk }) ->
  codeAny (model prog w) A (.builtin "list.extend.loop" #v[[.ref S,.ref e,res],[]]) R s:=by
 intro k;induction k with
 | zero =>
  intro i s acc c hk hi d h hl G ht V;have M:i=items.size:=by lia
  subst M;refine UM F.entry_extend_loop ?_;rw[TC Vj _];refine QD (yi hh d h hl hli λh' X=>?_);exact QF (V h' s.toks acc c (λb o _ _ n z=>X b o n z) (X S _ hSi G)<|ht.keep λb o _ _ n z=>X b o n z)
 | succ k ih =>
  intro i s acc c hk hi d h hl G ht V;have u:i<items.size:=by lia
  have m:=QJ G;have O:e<s.heap.objs.size:=by
   rcases d with ⟨L,P⟩ | ⟨T,o,f,L,P,_⟩
   .exact QJ P
   .exact QJ P
  have N:it<s.heap.objs.size:=by obtain⟨o,z,_⟩:=h.obj;exact QJ z
  refine UM F.entry_extend_loop ?_;rw[TC Vj _];refine QD (tZ hh d h hl u hne hle hli λx h' tk hx t C hT hz g=>?_);have p:=g S _ hSe hSi G;refine QD ?_;have a:∀b,b≠S->(h'.update S (XM.mapSeq (·.push (Xx.ref s.heap.objs.size)))).get? b=h'.get? b:=λb Q=>RT _ _<|RM Q
  have U:=Rr m;refine Uk p rfl (QF #v[UG Vj _,ih (i+1) _ (acc.push<|.ref s.heap.objs.size) _ (by lia) u ?_ ?_ ?_ (RR _ p rfl) #v[by rw[Array.size_push,ht.sz],λj v E=>?_] λW K acc' c' B D r=>?_])
   (by rw[ht.sz];lia) (by rw[Array.size_push,ht.sz];lia)
  .refine t.at λb o Q z=>?_
   rcases Q with rfl | hc
   .exact(a _<|RM hSe).trans z
   .refine(a b λq=>?_).trans z;subst q;rw[p]at z;cases z;simp at hc
  .exact C.at λo z=>(a it<|RM hSi).trans z
  .exact(hl.at λo z=>g l o hle hli z).at λo z=>(a l<|RM hSl).trans z
  .rw[Array.getElem?_push]at E;split at E
   .rename_i ej;cases E;rw[ht.sz]at ej;subst ej;exact#v[_,tk,x,rfl,hx,(a _ U).trans hT,m,Rr O,Rr N]
   .obtain⟨T,J,y,I,H,n,h4,Z,Y⟩:=ht.at_ j v E;exact#v[T,J,y,I,H,(a T<|Rr h4).trans<|g T _ Z Y n,h4,Z,Y]
  .exact V W K acc' c' (λb o I H n z=>B b o I H n<|(a b I).trans<|g b o H n z) D r
def Gw :typeLookup (.type "enumerate") "__len__" = pure none:=by rw[typeLookup_type,builtinLookup_eq_fast];kernel_rfl
def Ca :typeLookup (.type "enumerate") "__length_hint__" = pure none:=by rw[typeLookup_type,builtinLookup_eq_fast];kernel_rfl
def vB (hT:s.TypeIs (.ref e) "enumerate")(h:Q true s):XR (model prog w) A (Builtin.List.listLengthHint<|.ref e) Q E s:=by refine QD<|TB hT Gw ?_;wp_delta;refine wpAny_ite_split (λa=>absurd a<|by decide) (λ_=>?_);refine wpAny_ite_split (λa=>absurd a<|by decide) (λ_=>?_);refine QD<|TB hT Ca ?_;exact QF h
def uK (hh:A.handled=none)(hn:items.size<=XI)(he:IsEnum s.heap e it 0 .none)(hit:G6 b s.heap it l 0)(hl:T8 b s.heap l items)(hne:e≠it)(hle:l≠e)(hli:l≠it)(hSe:S≠e)(hSi:S≠it)(hSl:S≠l)(res) (c₀) (hS:s.heap.get? S=some { cls:=.type "list",data:=.seq #[] c₀ })
  (hR:∀h' tk acc' c',(∀b o,b≠S->b≠e->b≠it->s.heap.get? b=some o->h'.get? b=some o)->h'.get? S=some { cls:=.type "list",dict:=none,data:=.seq acc' c',slots:=#[] }->Tups h' S e it items acc' items.size->R (.ok<|.ret res) { s with heap:=h',toks:=tk }) :
  XR (model prog w) A.in1 (Builtin.List.listExtendWith (.ref S) (.ref e) res)
   (λfin s'=>match fin with | .done f=>R (.ok f) s' | .again c'=>c'.quiet=true/\codeAny (model prog w) A c' R s') (λe s'=>R (.error e) s') s:=by
 have p:s.TypeIs (.ref e) "enumerate":=#v[_,he,rfl];refine QD<|wpAny_typeOf p ?_;have g:Builtin.List.listSameRef (.ref S) (.ref e)=false:=by simp[Builtin.List.listSameRef,hSe]
 have m:(Xx.type "enumerate" == Xx.type "list")=false:=by decide
 have k:(Xx.type "enumerate" == Xx.type "tuple")=false:=by decide
 simp only[g,m,k];refine QD<|wpAny_pyIter_enum he ?_;refine QD<|Sq<|vB p ?_;refine wpAny_ite_split (λ_=>?_) (λh=>absurd (by simp) h);refine QD<|Th ?_;refine QD ?_;refine QD<|Uk hS rfl ?_;have a:=RR (XM.mapSeq (·.push Xx.none)) hS rfl;refine Uk a rfl ?_;have d:=RR (XM.mapSeq (·.pop)) a rfl;have c:∀b o,b≠S->s.heap.get? b=some o->((s.heap.update S (XM.mapSeq (·.push Xx.none))).update S (XM.mapSeq (·.pop))).get? b=some o:=λb o n z=>(RT _ _<|RM n).trans<|(RT _ _<|RM n).trans z
 refine QF #v[UG Vj _,?_];refine Bx hh hn hne hle hli hSe hSi hSl res items.size 0 _ #[] _ (by simp[*] ) (Sb _) (.inl #v[_,c e _ (RM hSe) he]) (hit.at λo z=>c it o (RM hSi) z) (hl.at λo z=>c l o (RM hSl) z) d #v[rfl,λj v q=>by simp at q] λh' tk acc' c' r i ht=>?_
 exact hR h' tk acc' c' (λb o g m k z=>r b o g m k<|c b o g z) i ht
def AJ (hh:A.handled=none)(hn:items.size<=XI)(he:IsEnum s.heap e it 0 .none)(hit:G6 b s.heap it l 0)(hl:T8 b s.heap l items)(hne:e≠it)(hle:l≠e)(hli:l≠it)(hSe:S≠e)(hSi:S≠it)(hSl:S≠l)(hS:s.heap.get? S=some { cls:=.type "list",data:=.seq #[] })
  (hR:∀h' tk acc' c',(∀b o,b≠S->b≠e->b≠it->s.heap.get? b=some o->h'.get? b=some o)->h'.get? S=some { cls:=.type "list",dict:=none,data:=.seq acc' c',slots:=#[] }->Tups h' S e it items acc' items.size->R (.ok<|.ret .none) { s with heap:=h',toks:=tk }) :
  XR (model prog w) A.in1 (Builtin.«list.__init__» #v[[.ref S,.ref e],[]])
   (λfin s'=>match fin with | .done f=>R (.ok f) s' | .again c'=>c'.quiet=true/\codeAny (model prog w) A c' R s') (λe s'=>R (.error e) s') s:=by
 refine QD ?_;refine QD<|So hS rfl<|QF ?_;refine QD<|Uk hS rfl ?_;have c:=RR (XM.mapSeq<|λ_=>(#[]) ) hS rfl;have a:∀b o,b≠S->s.heap.get? b=some o->(s.heap.update S<|XM.mapSeq<|λ_=>(#[]) ).get? b=some o :=
  λb o k e=>(RT _ _<|RM k).trans e
 refine QD<|UR ?_;refine uK hh hn (a e _ (RM hSe) he) (hit.at λo z=>a it o (RM hSi) z) (hl.at λo z=>a l o (RM hSl) z) hne hle hli hSe hSi hSl .none _ c λh' tk acc' c' j h d=>?_
 exact hR h' tk acc' c' (λb o i n m e=>j b o i n m<|a b o i e) h d
def iV (hh:A.handled=none)(hn:items.size<=XI)(he:IsEnum s.heap e it 0 .none)(hit:G6 b s.heap it l 0)(hl:T8 b s.heap l items)(hne:e≠it)(hle:l≠e)(hli:l≠it)
  (hQ:∀h' tk acc' c',(∀b o,b≠e->b≠it->s.heap.get? b=some o->h'.get? b=some o) ->
   h'.get? s.heap.objs.size=some { cls:=.type "list",dict:=none,data:=.seq acc' c',slots:=#[] }->Tups h' s.heap.objs.size e it items acc' items.size->Q (.ref s.heap.objs.size) { s with heap:=h',toks:=tk }) :
  XR (model prog w) A (call (.type "list") [.ref e]) Q E s:=by
 have lt:∀{a o},s.heap.get? a=some o->s.heap.objs.size≠a:=λz=>Rr<|QJ z
 have g:s.heap.objs.size≠l:=by
  cases b
  .obtain⟨o,z,_⟩:=(hl);exact lt z
  .obtain⟨o,z,_⟩:=(hl);exact lt z
 have h:s.heap.objs.size≠it:=by obtain⟨o,z,_⟩:=hit.obj;exact lt z
 refine callType_codes (Q₁:=λobj c=>obj = .ref s.heap.objs.size/\c={ s with heap:=s.heap.push { cls:=.type "list",data:=.seq #[] } }) F.called_list (F.typeCall_list_1 _) F.entry_list_init
  (code_list_new _ #v[rfl,rfl]) λobj c d=>?_
 obtain⟨rfl,rfl⟩:=d;have j:(s.heap.push { cls:=.type "list",data:=.seq #[] }).get? s.heap.objs.size=some { cls:=.type "list",data:=.seq #[] }:=QV _ rfl;refine#v[#v[_,j,rfl],F.args_list_init_2 _ _,AJ hh hn (QE _ he) (hit.at λo z=>QE _ z) (hl.at λo z=>QE _ z) hne hle hli (lt he) h g j λh' tk acc' c' k i f=>?_];exact#v[rfl,hQ h' tk acc' c' (λb o n m e=>k b o (RM<|lt e) n m<|QE _ e) i f]
end
section
variable {K:Qf}
def phE (n0 e it a:Nat):XH->Prop:=λh=>IsEnum h e it 0 .none/\n0<=e/\n0<=it/\e≠it/\a≠e/\a≠it
def phI (b:Bool)(it a:Xy):XH->Prop:=λh=>G6 b h it a 0
def tEn (n0:Nat)(K:Qf)(tl:TA):TE:=λf H Q=>tl f H λh d=>∃a,h=[.ref a]/\∃b g,SqA b K d a g/\∀c e,d c=none->d e=none->c≠e->Q (.ref e) (upd (upd d c<|.ext<|phI b c a) e<|.ext<|phE n0 e c a)
def BL (hK:X.K=K)(hg:Gl X "enumerate")(hm:X.mg "enumerate" = none)(ha:PA X [l] tl)(hs:autoParam (XJ [l] X.env=[(false,eval l X.env)]) eH):PE X (.Call (.Name "enumerate" p) [l] [] pos) (tEn X.s₀.heap.objs.size K tl):=by
 subst hK;intro π s L H R I h;refine Call_ (aK I hg hm boot_enumerate<|Ta (thn (ha pos π s L H _ I h) ?_ ) hs rfl);rintro us s1 ⟨T,x,g,N,O⟩;obtain⟨a,e,b,S,P,q⟩:=O;subst e;cases N with
 | cons r M =>
  cases M;cases r;obtain⟨j,U,p⟩:=SqA.get g P;refine jJ p λh' D m W w=>?_
  have t:a<s1.heap.objs.size:=by
   cases b
   .obtain⟨o,z,_⟩:=(p);exact QJ z
   .obtain⟨o,z,_⟩:=(p);exact QJ z
  have C:=g.hok.fresh<|QP _;have B:=g.hok.fresh<|Vg _;refine#v[.ref<|s1.heap.objs.size+1,_,?_,rfl,q s1.heap.objs.size (s1.heap.objs.size+1) C B<|QY<|Sx _];have y:s1.heap.objs.size+1≠s1.heap.objs.size:=Nat.succ_ne_self _;have i:∀c o,x c=some o->upd (upd x s1.heap.objs.size<|.ext<|phI b s1.heap.objs.size a) (s1.heap.objs.size+1) (.ext<|phE X.s₀.heap.objs.size (s1.heap.objs.size+1) s1.heap.objs.size a) c=some o:=λc o z=>by rw[f9<|l6 z B,f9<|l6 z C];exact z
  refine g.un #v[λb u q _ _ _=>w b u q,λb u q _ _ _=>#v[u.slots,w b u q],λb u q n _=>?_,λb u q _=>#v[u,w b u q],λb A q=>i _ _ q,λb u A q=>i _ _ q,λb V q=>#v[#[],by rw[i _ _ q];simp]] λc u f=>?_
  .have E:=QJ q;rw[f9<|QY<|SK E,f9<|QY E];exact n
  .by_cases J:c=s1.heap.objs.size+1
   .subst J;rw[i8]at f;cases f;refine#v[#v[D,Nat.le_succ_of_le g.sz,g.sz,y,QY<|SK t,QY t],#v[_,D],λF Q z k=>#v[k _ z.1,z.2]]
   .rw[f9 J]at f;by_cases G:c=s1.heap.objs.size
    .subst G;rw[i8]at f;cases f;exact#v[m,let #v[o,z,_]:=m.obj;#v[o,z],λF Q z k=>G6.at (z) k]
    .rw[f9 G]at f;exact(g.hok c u f).stay (λd v _ z=>w d v z) (λd z=>i d _ z) λd A z=>i d _ z
def enH (H:Hp)(S e it:Xy)(acc:Array Xx)(ts:List Xy)(ys:List V):Hp:=λb =>
 open Classical in
 if b=e\/b=it then none else if b=S then some (.lst<|ts.map V.ref) else if h:∃j,ts[j]? = some b then some (.tup [.int (h.choose:Nat),ys.getD h.choose .non]) else H b
def FX (n0:Nat)(K:Qf):List V->Hp->VK->Prop:=λi H Q=>∃e f a b d,i=[.ref e]/\H e=some (.ext<|phE n0 e f a)/\H f=some (.ext<|phI b f a)/\SqA b K H a d/\d.length<=1000 /\
 ∀g l (h:List Xy),H l=none->h.length=d.length->(∀j t,h[j]? = some t->H t=none/\∃y,d[j]? = some y/\g t=some (.tup [.int (j:Nat),y]))->g l=some (.lst<|h.map V.ref) ->
  (∀c o,c≠e->c≠f->H c=some o->g c=some o)->Q (.ref l) g
def vR (h:s0 xs us):us.length=xs.length:=by
 induction h with
 | nil=>rfl
 | cons _ _ a=>simp[a]
theorem jR:∀ts:List Xy,s0 (ts.map V.ref) (ts.map Xx.ref)
 | []=>.nil
 | _::r=>.cons rfl<|jR r
def kr (hK:X.K=K)(hc:X.calm=true):D1 X (.type "list") (FX X.s₀.heap.objs.size K):=by
 subst hK;intro π s σ H xs us Q I r h;obtain⟨e,p,a,b,E,rfl,he,P,hq,hz,q⟩:=h;obtain⟨u,rfl,ru⟩:=T3 r;cases ru;obtain⟨⟨pe,p1,p2,n1,n2,n3⟩,_,_⟩:=I.hok e _ he;obtain⟨pi,_,_⟩:=I.hok p _ P;obtain⟨O,rv,pq⟩:=SqA.get I hq;have D:O.length=E.length:=vR rv;refine iV (I.ok.hd hc) (by rw[Rb,D];exact RJ<|eO hz) pe pi pq n1 n2 n3 λh' L k c' S hS ht=>?_
 obtain⟨f,Z,N⟩:∃f:List Xy,k.toList=f.map Xx.ref/\f.length=E.length:=by
  have all:∀l:List Xx,(∀v∈l,∃T,v = .ref T)->∃f:List Xy,l=f.map Xx.ref:=by
   intro l;induction l with
   | nil=>intro _;exact#v[[],rfl]
   | cons v r ih =>
    intro hv;obtain⟨T,rfl⟩:=hv v (by simp);obtain⟨f,rfl⟩:=ih λw hw=>hv w (by simp[hw])
    exact#v[T::f,rfl]
  obtain⟨f,e1⟩:=all k.toList λv hv=>by obtain⟨j,t⟩:=List.getElem?_of_mem hv;obtain⟨T,_,_,rfl,_⟩:=ht.at_ j v (by rw[<-Tt];exact t);exact#v[T,rfl]
  refine#v[f,e1,?_];have:k.toList.length=f.length:=by rw[e1,QI]
  rw[<-this,RS,ht.sz,Rb,D]
 have C:∀(j:Nat) T,f[j]? = some T->∃L x y,O[j]? = some x/\E[j]? = some y/\m6 y x/\h'.get? T=some { cls:=.type "tuple",data:=.seq #[.int j L,x] }/\s.heap.objs.size<T/\T≠e/\T≠p:=λj T t=>by
  obtain⟨T',L,x,e1,G,e3,e4,e5,e6⟩:=ht.at_ j (.ref T) (by rw[<-Tt,Z,Rc,t];rfl);cases e1;have G:O[j]? = some x:=by simpa using G
  have ab:j<E.length:=by rw[<-D];exact(QR.1 G).1
  obtain⟨u,hu,ru⟩:=rv.get<|QT ab;rw[G]at hu;cases hu;exact#v[L,x,_,G,QT ab,ru,e3,e4,e5,e6]
 have ac:∀(i j:Nat) T,f[i]? = some T->f[j]? = some T->i=j:=λi j T P t=>by obtain⟨_,_,_,_,_,_,z1,_⟩:=C i T P;obtain⟨_,_,_,_,_,_,z2,_⟩:=C j T t;rw[z1]at z2;simp at z2;lia
 have nS:H s.heap.objs.size=none:=I.hok.fresh<|QP _;have am:e<s.heap.objs.size:=I.hok.lt he;have al:p<s.heap.objs.size:=I.hok.lt P;have W:∀c,c<s.heap.objs.size->c≠e->c≠p->enH H s.heap.objs.size e p k f E c=H c:=λc hc h1 h2=>by
  have hn:¬ ∃j:Nat,f[j]? = some c:=λ#v[j,t]=>by obtain⟨_,_,_,_,_,_,_,z,_⟩:=C j c t;exact absurd (US hc z)<|Tf _
  unfold enH;rw[QK (by simp[h1,h2]),QK<|QY hc,dif_neg hn]
 have g:∀c o,c≠e->c≠p->H c=some o->enH H s.heap.objs.size e p k f E c=some o:=λc o h1 h2 z=>by rw[W c (I.hok.lt z) h1 h2];exact z
 have J:∀(j:Nat) T,f[j]? = some T->∃y,E[j]? = some y/\enH H s.heap.objs.size e p k f E T=some (.tup [.int (j:Nat),y]):=λj T t=>by obtain⟨_,_,y,_,R,_,_,z,z1,z2⟩:=C j T t;refine#v[y,R,?_];have U:∃j:Nat,f[j]? = some T:=#v[j,t];unfold enH;rw[QK (by simp[z1,z2]),QK<|Rr z,dif_pos U];have:=ac _ _ T U.choose_spec t;rw[this];simp[R]
 have eS:enH H s.heap.objs.size e p k f E s.heap.objs.size=some (.lst<|f.map V.ref):=by unfold enH;rw[QK (by simp[Rr am,Rr al]),QH rfl]
 have ad:∀c,H c=none->c≠e/\c≠p:=λc z=>#v[λw=>(by rw[w,he]at z;cases z),λw=>(by rw[w,P]at z;cases z)]
 have B:∀c o,H c=some o->(∀φ,o ≠ .ext φ)->c≠e/\c≠p:=λc o z w=>#v[λx=>(by rw[x,he]at z;cases z;exact w _ rfl),λx=>(by rw[x,P]at z;cases z;exact w _ rfl)]
 have A:∀c,c ∉ [e,p]->c≠e/\c≠p:=λc z=>#v[λw=>z (by simp[w]),λw=>z<|by simp[w]]
 have I1:Inv X π σ (enH H s.heap.objs.size e p k f E) { s with heap:=h',toks:=L }:=by
  refine I.step (λc hc=>?_) (λc o _ _ hc z _=>S c o (A c hc).1 (A c hc).2 z) (λc o _ _ hc z _=>#v[o.slots,S c o (A c hc).1 (A c hc).2 z])
   (λc o hc z n=>by rw[W c (QJ z) (A c hc).1 (A c hc).2];exact n) (λc o hc z=>#v[o,S c o (A c hc).1 (A c hc).2 z])
   (λc xs z=>let w:=B c _ z (λ_ y=>by cases y);g c _ w.1 w.2 z) (λc o u z=>let w:=B c _ z (λ_ y=>by cases y);g c _ w.1 w.2 z)
   (λc ps z=>let w:=B c _ z (λ_ y=>by cases y);#v[#[],by rw[g c _ w.1 w.2 z];simp]) (λm hm=>?_) (λc u F=>?_) I.bare
  .have M:∃φ,H c=some (.ext φ):=by
    rcases QQ.1 hc with rfl | hc
    .exact#v[_,he]
    .rw[Rn.1 hc];exact#v[_,P]
   obtain⟨φ,M⟩:=M;refine#v[.inr ?_,λz=>?_,λx d z w=>?_,λpp hp w=>?_]
   .rcases QQ.1 hc with rfl | hc
    .exact p1
    .rw[Rn.1 hc];exact p2
   .rw[z,I.free]at M;cases M
   .rw[<-w,I.freeC x d z]at M;cases M
   .rw[<-w,(I.pin pp hp).2.1]at M;cases M
  .obtain⟨o,es,ep,ho,r⟩:=hm;have w:=ad _ I.free;exact#v[o,es,ep,S _ o w.1 w.2 ho,r]
  .by_cases c0:c=e\/c=p
   .unfold enH at F;rw[QH c0]at F;cases F
   have c1:=λz=>c0<|.inl z
   have c2:=λz=>c0<|.inr z
   by_cases c3:c=s.heap.objs.size
   .subst c3;rw[eS]at F;cases F;refine#v[by rw[QI,N];exact RJ<|eO hz,k.toList,c',?_,by rw[hS]];rw[Z];exact jR f
   .by_cases U:∃j:Nat,f[j]? = some c
    .obtain⟨j,t⟩:=U;obtain⟨y,R,G⟩:=J j c t;obtain⟨L,x,y',hx,Y,ry,z,_⟩:=C j c t;rw[R]at Y;cases Y;rw[G]at F;cases F;exact#v[QZ (show 2<=10000 by decide) (by rw[Ry];decide),[.int j L,x],.cons #v[L,rfl]<|.cons ry .nil,#v[_,z,rfl,_,rfl]]
    .have an:H c=some u:=by unfold enH at F;rwa [QK c0,QK c3,dif_neg U]at F
     refine(I.hok c u an).stay (λd v hd z=>?_) (λd z=>let w:=B d _ z (λ_ y=>by cases y);g d _ w.1 w.2 z) λd xs z=>let w:=B d _ z (λ_ y=>by cases y);g d _ w.1 w.2 z
     rcases hd with rfl | hd
     .exact S _ v c1 c2 z
     .have w:=B d _ hd (λ_ y=>by cases y);exact S d v w.1 w.2 z
 refine#v[.ref s.heap.objs.size,_,I1,rfl,q _ _ f nS N (λj T t=>?_) eS g];obtain⟨y,R,G⟩:=J j T t;obtain⟨_,_,_,_,_,_,_,z,_⟩:=C j T t;exact#v[I.hok.fresh<|RJ z,y,R,G]
end
section

def lH (hh:A.handled=none)(hl:s.heap.IsTuple l (intItems xs))
  (h:∀h' tk t',(∀b o,s.heap.get? b=some o->h'.get? b=some o)->Q (.int (preSum (numAt xs) xs.size) t') { s with heap:=h',toks:=tk }) :
  XR (model prog w) A (call (.builtin "sum") [.ref l]) Q E s:=by
 have a:l<s.heap.objs.size:=by obtain⟨_,e,_⟩:=hl;exact QJ e
 refine call_sum_walkG<|SU hl ?_;refine#v[s.heap.objs.size,[s.heap.objs.size,l],[s.heap.objs.size],_,_,_,numAt xs,rfl,Walks.tuple (A:=A.in1) hh _ l (QY a)<|intItems xs,#v[#v[_,QV _ rfl,rfl,rfl],hl.push _],λb c=>?_,(λ_ _=>VT),λh' tk t' f=>?_]
 .rw[RG];rcases QQ.1 c with rfl | c
  .exact Sx _
  .rw[Rn.1 c];exact SK a
 .have:=h h' tk t' λb o e=>f b o (λd=>by rw[Rn.1 d]at e;exact absurd (QJ e)<|Tf _)<|QE _ e
  simpa [intItems] using this
end
section
variable {K:Qf}
def uV (hc:X.calm=true):D1 X (.builtin "sum") (λxs H Q=>∃(a:Xy) (ns:List Int),xs=[.ref a]/\SqT X.K H a (ns.map V.int)/\Q (.int ns.sum) H):=by
 intro π s n H xs us Q I r h;obtain⟨a,ns,rfl,k,q⟩:=h;obtain⟨u,rfl,i⟩:=T3 r;cases i;obtain⟨j,g,p,t⟩:=I.tuple k;have d:=ax g;obtain⟨c,b⟩:=d.allInts.items;have hl:=b▸p;refine lH (I.ok.hd hc) hl λh' o f m=>#v[.int ns.sum,H,I.kept m,#v[f,?_],q]
 have l:=d.numsOf;have e:numsOf (intItems c).toList=ns:=by rw[<-b];exact l
 rw[nums_intItems]at e;rw[preSum_eq,VQ (by simp),e]
def ak:List My->Option My
 | [.list ds]=>(X9 ds).map λa=>.int a.sum
 | [.tuple ds]=>(X9 ds).map λa=>.int a.sum
 | _=>none
def dP (hK:X.K=K)(hc:X.calm=true):D1 X (.builtin "sum") (rDN K ak):=by
 subst hK;intro π s g H i us Q I r h;obtain⟨k,B,l,z,bk,j,b,q⟩:=h;unfold ak at b;split at b <;> try cases b
 .obtain⟨c,e,rfl⟩:=Re.1 b;cases N9 e;obtain⟨v,rfl,a,i,rfl,f,d⟩:=fR j rfl;cases dX d;exact yJ hc π s g H _ us Q I r #v[a,c,rfl,SqL.of<|f7 _ _ f,q _ H (j9.refl H) b8.int]
 .obtain⟨c,e,rfl⟩:=Re.1 b;cases N9 e;obtain⟨v,rfl,a,i,rfl,f,d⟩:=fR j rfl;cases dX d;exact uV hc π s g H _ us Q I r #v[a,c,rfl,f.same f7,q _ H (j9.refl H) b8.int]
theorem rR :∀ys xs (ts:List Xy) k,ts.length=xs.length->a8 K H' ys xs->(∀j t,ts[j]? = some t->∃y,xs[j]? = some y/\H' t=some (.tup [.int<|(k+j:Nat),y]))->a8 K H' (U2 k ys) (ts.map V.ref)
 | [],xs,ts,k,hl,h,_=>by
  simp only[a8]at h;subst h;cases ts with
  | nil=>exact a8.nil
  | cons t r=>simp at hl
 | y::ys,xs,ts,k,hl,h,ha=>by
  simp only[a8]at h;obtain⟨x,r,rfl,e,d⟩:=h;cases ts with
  | nil=>simp at hl
  | cons t ts =>obtain⟨z,b,a⟩:=ha 0 t rfl;cases b;refine#v[_,_,rfl,b8.tup a #v[_,_,rfl,b8.int,_,_,rfl,e,rfl],rR ys r ts (k+1) (by simpa using hl) d λj u c=>?_];obtain⟨z,b,a⟩:=ha (j+1) u (by simpa using c);exact#v[z,by simpa using b,by rw[show k+1+j=k+(j+1) by lia];exact a]
def De (m:DE->M My):DE->M My:=λE F=>(m E F).bind λp=>(fE p.1).bind λa=>if a.length<=1000 then some (.list<|U2 0 a,p.2) else none
def DY (hq:SqA b K H1 a xs)(hd:a8 K (hid H1 B) ys xs)(hz:ys.length<=1000)(bk:BOk H1 B)
  (q:∀H' l,j9 H1 H'->b8 K (hid H' B) (.list<|U2 0 ys) (.ref l)->Q (.ref l) H'):∀it e,H1 it=none->H1 e=none->it≠e->FX n0 K [.ref e] (upd (upd H1 it<|.ext<|phI b it a) e<|.ext<|phE n0 e it a) Q:=by
 intro it e p n g;have d:j9 H1 (upd (upd H1 it<|.ext<|phI b it a) e<|.ext<|phE n0 e it a):=λc o z=>by rw[f9<|l6 z n,f9<|l6 z p];exact z
 refine#v[e,it,a,b,xs,rfl,i8,by rw[f9 g];exact i8,?_,by rw[hd.length];exact hz,λH' l r hl f i h s=>?_]
 .cases b
  .exact SqT.same (hq) d
  .rcases(hq) with (z | ⟨o,z⟩) | z
   .exact .inl<|.inl<|d _ _ z
   .exact .inl<|.inr #v[o,d _ _ z]
   .exact .inr z
 .have m:∀c,upd (upd H1 it<|.ext<|phI b it a) e (.ext<|phE n0 e it a) c=none->H1 c=none:=λc z=>by
   cases w:H1 c with
   | none=>rfl
   | some o=>rw[d c o w]at z;cases z
  have k:=λc o z=>s c o (l6 z n) (l6 z p)<|d c o z
  refine q H' l k (b8.lst (by rw[m7<|bk.nin<|m l hl];exact h)<|rR ys xs r 0 f (hd.same<|(Kp.same (fp:=[]) k).hid<|by simp) λj t u=>?_);obtain⟨A,y,x,v⟩:=i j t u;exact#v[y,x,by rw[m7<|bk.nin<|m t A,Rx];exact v]
def zH (h:Ev K X e te m)(hc:X.calm=true)(hm:X.mg "enumerate" = none)(hml:X.mg "list" = none)(hbt:XW "list" = some (.type "list"))(hK:autoParam (X.K=K) eH)(hg:autoParam (Gl X "enumerate") eH)(hgl:autoParam (Gl X "list") eH)(hs:autoParam (XJ [e] X.env=[(false,eval e X.env)]) eH)
  (he:autoParam (XJ [.Call (.Name "enumerate" p2) [e] [] pos2] X.env=(false,eval (.Call (.Name "enumerate" p2) [e] [] pos2) X.env)::XJ [] X.env) eH) (hpl:autoParam ((XO pos<|XJ [] X.env).any (·.1)=false) eH) :
  Ev K X (.Call (.Name "list" p) [.Call (.Name "enumerate" p2) [e] [] pos2] [] pos) (tCB (FX X.s₀.heap.objs.size K)<|J8 (tEn X.s₀.heap.objs.size K<|J8 te az) az) (De m) :=
 #v[jr (kr hK hc) hgl hml hbt (A1 (BL hK hg hm (A1 h.pe K5 hs) hs) K5 he) (by decide) (by decide) he hpl,λG B E F t H Q d D I e q=>by
  obtain⟨⟨y,A⟩,w,e⟩:=bS9 e;obtain⟨z,r,e⟩:=bS9 e;split at e
  .rename_i s;cases e;refine h.ok G B E F t H _ y A I w λv C j o g=>?_
   have f:=C3 I.bk j o;cases y with
   | list u =>cases r;simp only[b8]at g;obtain⟨a,i,rfl,c,n⟩:=g;exact#v[a,rfl,true,i,SqL.of<|f7 _ _ c,DY (SqL.of<|f7 _ _ c) n s f λx l b k=>q _ _ (j.trans<|Kp.same b) (o.same b) k]
   | tuple u =>cases r;simp only[b8]at g;obtain⟨a,i,rfl,c,n⟩:=g;exact#v[a,rfl,false,i,c.same f7,DY (c.same f7) n s f λx l b k=>q _ _ (j.trans<|Kp.same b) (o.same b) k]
   | _=>cases r
  .cases e]
end
end
section
section
variable {K:Qf}
def V1:List Int->Int
 | []=>0
 | [x]=>x
 | x::y::r=>max x<|V1 (y::r)
theorem dB:∀{ns} {n},n∈ns->n<=V1 ns
 | [],n,h=>by cases h
 | [x],n,h=>by simp at h;subst h;exact TV _
 | x::y::r,n,h=>by
  rw[V1];rcases QQ.1 h with rfl | h
  .omega
  .have:=dB h;lia
theorem Z8:∀{ns},ns≠[]->V1 ns∈ns
 | [],h=>absurd rfl h
 | [x],_=>by simp[V1]
 | x::y::r,_=>by
  have:=Z8 (ns:=y::r) (by simp);rw[V1];rcases Int.le_total x (V1 (y::r)) with z | z
  .rw[Int.max_eq_right z];exact QG _ this
  .rw[Int.max_eq_left z];exact QN
def Jx (K:Qf):List V->Hp->VK->Prop:=λc H Q=>∃(a:Xy) (b:List Int),c=[.ref a]/\SqL K H a (b.map V.int)/\b≠[]/\Q (.int<|V1 b) H
def uH (hK:X.K=K)(hc:X.calm=true):D1 X (.builtin "max") (Jx K):=by
 subst hK;intro π s O H P us Q I r h;obtain⟨a,c,rfl,E,m,q⟩:=h;obtain⟨u,rfl,y⟩:=T3 r;cases y;obtain⟨b,x,p,T⟩:=I.list E;have n:b.length=c.length:=by rw[<-x.length,QI]
 have B:=Vh.2 m;have w:=ax x;obtain⟨d,g⟩:=w.allInts.items;have hl:=g▸p.isList;have D:d.size=c.length:=by
  have:(intItems d).size=b.length:=by rw[<-g];simp
  rw[<-n,<-this];simp[intItems]
 have l:∀(i:Nat) v,b.toArray[i]? = some v->∃t,v = .int (c.getD i 0) t:=λi v k=>by
  have k:b[i]? = some v:=by simpa using k
  obtain⟨w,_⟩:=QR.1 k;have G:(c.map V.int)[i]? = some (V.int<|c.getD i 0):=by rw[Rc,QT<|by lia];simp[QT<|show i<c.length by lia]
  obtain⟨u,A,y⟩:=x.get G;rw[k]at A;cases A;exact y
 have f:∀i,i<c.length->numAt d i=c.getD i 0:=λi w=>by
  have o:i<b.length:=by simp[*]
  obtain⟨t,e⟩:=l i b[i] (by simp[o]);have N:(intItems d)[i]? = some b[i]:=by rw[<-g];simp[o]
  have:=VT N;obtain⟨S,C⟩:=this;rw[e]at C;injection C with M _
  exact M.symm
 refine max_intList (I.ok.hd hc) hl (by simp[*] ) λv h' R k F=>?_
 obtain⟨U,J⟩:=argBest_gt (numAt d)<|d.size-1;obtain⟨t,e⟩:=VT k;subst e;generalize argBest (λi j=>decide (numAt d i > numAt d j)) (d.size-1)=j at *;have z:j<c.length:=by lia
 have L:numAt d j=V1 c:=by rw[f j z];refine Int.le_antisymm (dB<|getD_mem z) ?_;obtain⟨i,w,e⟩:=mem_getD<|Z8 m;have:=J i (by lia);rw[f i w,f j z]at this;rw[<-e];exact this
 rw[L];exact#v[.int<|V1 c,H,I.kept F,#v[t,rfl],q]
def xS:List My->Option My
 | [.list ds]=>(X9 ds).bind λa=>if a=[] then none else some (.int<|V1 a)
 | _=>none
def Fq (hK:X.K=K)(hc:X.calm=true):D1 X (.builtin "max") (rDN K xS):=by
 intro π s d H f us Q I r h;obtain⟨l,B,m,z,bk,k,b,q⟩:=h;unfold xS at b;split at b <;> try cases b
 obtain⟨g,e,b⟩:=bS9 b;split at b
 .cases b
 .rename_i c;cases b;cases N9 e;obtain⟨v,rfl,a,f,rfl,j,i⟩:=fR k rfl;cases dX i;exact uH hK hc π s d H _ us Q I r #v[a,g,rfl,SqL.of<|f7 _ _ j,c,q _ H (j9.refl H) b8.int]

def intsV:List Xx->Option (List Int)
 | []=>some []
 | .int x _::r=>(intsV r).map (x :: ·)
 | _=>none
theorem gL:∀{us} {ss},intsV us=some ss->s0 (ss.map V.int) us/\∀H,a8 K H (ss.map .int) (ss.map V.int)
 | [],ss,h=>by cases h;exact#v[.nil,λH=>a8.nil]
 | u::r,ss,h=>by
  cases u with
  | int x t =>obtain⟨a,d,rfl⟩:=Re.1 (h);obtain⟨c,b⟩:=gL d;exact#v[.cons #v[t,rfl] c,λH=>#v[_,_,rfl,b8.int,b H]]
  | _=>cases h
def gd_mkI (X:K.In h)(G:h.Ns XS mg)(hn:PySem.W.nsIn K XS x=some (some<|.ref t))(hl:K.lookup t=some #v[.type "tuple",dd,.seq its n,sl])(hs:intsV its.toList=some ss)(hz:ss.length<=1000):GD K mg x (.tuple<|ss.map .int):=by
 obtain⟨a,b⟩:=gL hs;refine#v[t,SW X G hn,λH=>#v[t,ss.map V.int,rfl,.inr #v[_,its,n,hl,rfl,rfl,?_,a],b H]];have:=a.length;rw[QI]at this;have e:its.size=ss.length:=by rw[this];simp
 rw[e];exact QZ hz (by rw[Ry];decide)
end
end
section
section

def ipM :TIp:=λx y H Q=>∃i j,x = .int i/\y = .int j/\Big i j/\Q (.int<|i*j) H
def Hu :PIp X .Mult ipM:=by intro π s f H x y v u Q I b a h;obtain⟨i,j,e,d,c,q⟩:=h;subst e;subst d;obtain⟨t,rfl⟩:=b;obtain⟨g,rfl⟩:=a;exact imul_int #v[.int _,H,I.tok _,#v[_,rfl],q] c.ok
end
section
variable {K:Qf}
noncomputable def gy (i:Nat)(a:DE->M My):DE->M Out:=λE F=>match E[i]? with
 | some (some<|.dat<|.int x)=>(a E F).bind λp=>(K8 p.1).bind λy=>if Big x y then(bN i (.int<|x*y) E).bind λE1=>some (.nx E1,p.2) else none
 | _=>none
def FO (he:TEd K te m):TSd K (FY i te ipM) (gy i m):=λG O M E F c H D r N S e q=>by
 unfold gy at e;split at e
 .rename_i x o;obtain⟨⟨d,k⟩,z,e⟩:=bS9 e;obtain⟨y,w,e⟩:=bS9 e;split at e
  .rename_i p;obtain⟨L,u,e⟩:=bS9 e;cases e;obtain⟨B,s,n,I⟩:=S.ex;obtain⟨v,l,b⟩:=I.loc i _ o;have b:b8 K (hid H B) (.int x) v:=b;simp only[b8]at b;subst b;refine#v[_,l,he G B E F c H _ d k I z λv j f h g=>?_];have:=Q1 w;simp only at this;subst this;simp only[b8]at g;subst g;refine#v[x,y,rfl,rfl,p,?_];have A:=S.step f h;exact aA i G B E k c j (.int<|x*y) _ L (λa J=>D.nx a J) (I.step f h) b8.int u λa C t=>q a j<|A.bind s n C t
  .cases e
 .cases e
def rl (i)(hN:X.N.Nodup)(he:Ev K X e te m)(hi:autoParam (X.N[i]? = some x) eH)(hx:autoParam (Loc X.env.scope x) eM)(hf:autoParam (X.fn x=true\/X.env.scope.names.lookup x=some .local) eM) :
  Ss K X (.AugAssign (.Name x pos') .Mult e pos) (FY i te ipM) (gy i m):=#v[Hy hN hi hx he.pe Hu hf,FO he.ok]
end
end
section
def len_1 {us:List Xx}(h:us.length=1):∃a,us=[a]:=List.length_eq_one_iff.1 h
def DL {us:List Xx}(h:us.length=n+1):∃a r,us=a::r/\r.length=n:=by
 cases us with
 | nil=>cases h
 | cons a r=>exact#v[a,r,rfl,Nat.succ.inj h]
def DS {us:List Xx}(h:us.length=2):∃a b,us=[a,b]:=by obtain⟨a,r,rfl,c⟩:=DL h;obtain⟨b,rfl⟩:=len_1 c;exact#v[a,b,rfl]
def IV {us:List Xx}(h:us.length=3):∃a b c,us=[a,b,c]:=by obtain⟨a,r,rfl,d⟩:=DL h;obtain⟨b,c,rfl⟩:=DS d;exact#v[a,b,c,rfl]
end
section
inductive Al (K:Qf) (H:Hp):List (Int×My)->List (Int×V)->Prop
 | nil:Al K H [] []
 | cons {k:Int} {d:My} {v:V} {l m}:b8 K H d v->Al K H l m->Al K H ((k,d)::l) ((k,v)::m)
theorem Al.ins {K}{H}{k}{d}{v} (h:b8 K H d v):∀{l m},Al K H l m->Al K H (cx (k,d) l) (cx (k,v) m)
 | _,_,.nil=>.cons h .nil
 | _,_,.cons h' r=>by
  simp only[cx];split
  .exact .cons h<|.cons h' r
  .exact .cons h'<|Al.ins h r
theorem Al.sort {K}:∀{l m},Al K H l m->Al K H (O8 l) (O8 m)
 | _,_,.nil=>.nil
 | _,_,.cons h r=>Al.ins h r.sort
theorem Al.dats {K}:∀{l m},Al K H l m->a8 K H (l.map Prod.snd) (m.map Prod.snd)
 | _,_,.nil=>a8.nil
 | _,_,.cons h r=>a8.cons h r.dats
theorem wu {K}:∀{ns:List Int} {ds} {xs},a8 K H ds xs->Al K H (ns.zip ds) (ns.zip xs)
 | [],_,_,_=>.nil
 | n::ns,[],xs,h=>by
  have e:=UF.1 (by rw[h.length];rfl);subst e;exact .nil
 | n::ns,d::ds,xs,h=>by
  cases xs with
  | nil=>have:=h.length;simp at this
  | cons x xs =>simp only[a8]at h;obtain⟨y,c,e,b,a⟩:=h;cases e;exact .cons b<|wu a
end
end L3
namespace L3
open PySem PySem.Spec PyProof.Rows L2
section
abbrev Jv :=List<|Str×Xy×Xy
def Fj (ts:Jv)(h:XH):Prop:=∀t∈ts,PySem.W.CodeHd h t.2.1 t.2.2/\h.get? t.2.2=some (PySem.W.tabObj #[])
def vc {K:Qf}
  (KX:K.In s₁.heap) (hns:s₁.heap.Ns XS mg) (hb:s₁.heap.Ns builtinsNs mb) (hbb:∀x:Str,x ≠ "__name__"->mb x=XW x) (hlim:s₁.heap.NoLimit) (hg:s₁.gens = #[])
  (ha:s₁.heap.get? a=some { cls:=.type "list",data:=.seq vs.toArray }) (hi:IntsAre vs ns) (hl:ns.length<=XI) (hr:Room k callerA)
  (hT:Fj ts s₁.heap) (hnt:PySem.W.noTabs K=true) (BM:BMd s₁.heap mg)
  (F:∀base,K.In base->base.Ns XS mg->BMd base mg->(∀t∈ts,PySem.W.CodeHd base t.2.1 t.2.2)->FnOk P w K mg base CX k fa fd [x] sp) (hbind:∀s u,BindsTo s fd #v[[u],[]] [(x,u)])
  (hsp:∀H,SqL K H a (ns.map V.int)->V2 ts H->sp [.ref a] H (λv _=>v = .bl true) λ_ _ _=>False)
  (hCX:∀H e s',CX [] H s₁ (λ_ _ _=>False) e s'->False) :
  codeAny (model P w) callerA (.call (.ref fa) #v[[.ref a],[]]) (λr s'=>r = .ok (.ret<|.bool true)/\OldK s₁.heap s'.heap/\s'.os=s₁.os/\AllBare s'.gens) s₁:=by
 have rv:=jE hi;have J:=hi.length;have aP:∀t∈ts,t.2.2≠a:=λt ht e=>by have:=(hT t ht).2;rw[e,ha]at this;cases this
 have B:∀H:Hp,(∀b,H b=none\/(b=a/\H b=some (.frz { cls:=.type "list",data:=.seq vs.toArray }<|.lst<|ns.map V.int))\/(b∈ts.map (·.2.2)/\H b=some (.tbl #[])))->(∀t∈ts,H t.2.2=some (.tbl #[]))->SqL K H a (ns.map V.int)->(H a≠none->K.lookup a=none) ->
   codeAny (model P w) callerA (.call (.ref fa) #v[[.ref a],[]]) (λr s'=>r = .ok (.ret<|.bool true)/\OldK s₁.heap s'.heap/\s'.os=s₁.os/\AllBare s'.gens) s₁:=by
  intro H M Z hS hK;have i:∀{b:Xy},b∈ts.map (·.2.2)->s₁.heap.get? b=some (PySem.W.tabObj #[]):=λ{b} hb=>by obtain⟨t,ht,rfl⟩:=Rt.1 hb;exact(hT t ht).2
  have L:HOk P w H s₁.heap:=λb u e=>by
   rcases M b with z | ⟨rfl,z⟩ | ⟨hb,z⟩
   .rw[z]at e;cases e
   .rw[z]at e;cases e;exact#v[ha,by rw[QI];exact hl,vs,_,rv,ha]
   .rw[z]at e;cases e;exact i hb
  have c:∀{b:Xy} {o:XM},s₁.heap.get? b=some o->H b=none->(iJ s₁.heap H).get? b=some o:=λe n=>xG e n
  have g:∀{b:Xy} {o:XM},s₁.heap.get? b=some o->o≠{ cls:=.type "list",data:=.seq vs.toArray }->o≠PySem.W.tabObj #[]->H b=none:=λ{b o} e h1 O=>by
   rcases M b with z | ⟨rfl,z⟩ | ⟨hb,z⟩
   .exact z
   .rw[ha]at e;exact absurd (QU e).symm h1
   .rw[i hb]at e;exact absurd (QU e).symm O
  have l:∀{b:Xy} {m:Str->Option Xx},s₁.heap.Ns b m->(iJ s₁.heap H).Ns b m:=λ{b m} #v[o,es,ep,e,d,r]=>#v[o,es,ep,c e (g e (λz=>by rw[z]at d;cases d) λz=>by rw[z]at d;cases d),d,r]
  have N:K.In (iJ s₁.heap H):=λb o e=>c (KX b o e) (by
   rcases M b with z | ⟨rfl,z⟩ | ⟨hb,z⟩
   .exact z
   .rw[hK (by rw[z];simp)]at e;cases e
   .have A:=KX b o e;rw[i hb]at A;cases A;have O:=UB.1 hnt _<|PySem.W.mem_of_lookupK e;exact absurd (show false=true from O) Ri)
  have hM:Mod K mg (iJ s₁.heap H):=#v[N,l hns,#v[mb,l hb,hbb],let #v[mc,h1,O]:=hlim;#v[mc,l h1,O]];have ac:BMd (iJ s₁.heap H) mg:=by obtain⟨bm,ob,b1,b2,b3,p,b5,b6⟩:=BM;exact#v[bm,ob,b1,b2,c b3 (g b3 (λz=>by rw[z]at p;have p:Xx.type "list" = Xx.type "module":=p;exact absurd p<|by decide) λz=>by rw[z]at p;have p:Xx.none=Xx.type "module":=p;exact absurd p<|by decide),p,b5,b6]
  have ab:∀t∈ts,PySem.W.CodeHd (iJ s₁.heap H) t.2.1 t.2.2:=λt ht=>by obtain⟨o,U,Q,tf,D,tg,W,E,tt,R,j,r2⟩:=(hT t ht).1;exact#v[o,U,Q,tf,D,tg,W,E,tt,c R (g R (λz=>by rw[z]at j;have j:Xx.type "list" = Xx.type "code":=j;exact absurd j<|by decide) λz=>by rw[z]at j;have j:=j;exact absurd j<|by decide),j,r2]
  have e0:Env0 P w K mg (iJ s₁.heap H) callerA [] s₁ H:=#v[rfl,hM,λb o e=>AB e,Nat.le_of_eq<|vw _ _,trivial,λb hb=>absurd (show b∈([]:List Xy) from hb) (by simp),L,.of_eq hg];have Y:V2 ts H:=λt ht=>#v[#[],Z t ht,trivial,λad cv e=>by cases e]
  refine Wf ((F _ N (l hns) ac ab).run callerA [] s₁ H #v[[.ref a],[]] [.ref a] [.ref a] _ _ hr e0 (hbind s₁<|.ref a) (.cons rfl .nil)<|hsp H hS Y) λr s' h=>?_
  cases r with
  | error e=>exact(hCX H e s' h).elim
  | ok fl =>
   cases fl with
   | next=>exact False.elim h
   | brk=>exact False.elim h
   | cont=>exact False.elim h
   | ret u =>
    obtain⟨v,H',os,S,un,y,r',q⟩:=h;have q':=q;subst q';obtain rfl:=r';have kept:=λb o e q=>un.keep b o e q (by intro z;exact absurd (show b∈([]:List Xy) from z)<|by simp) (by simp)
    have I:∀b o,s₁.heap.get? b=some o->b=a->H b=some (.frz { cls:=.type "list",data:=.seq vs.toArray }<|.lst<|ns.map V.int)->s'.heap.get? b=some o:=λb o e hb z=>by have T:=un.frzs b _ _ z;obtain⟨R,_⟩:=L b _ z;obtain⟨A,_⟩:=y b _ T;rw[e]at R;cases R;exact A
    have G:∀b,H b=some (.tbl #[])->∃more,s'.heap.get? b=some (PySem.W.tabObj more):=λb z=>by obtain⟨more,T⟩:=un.tbls b _ z;exact#v[_,y b _ T]
    refine#v[rfl,#v[λb o e=>?_,λb o e=>?_],os,S]
    .rcases M b with z | ⟨hb,z⟩ | ⟨hb,z⟩
     .exact .inl<|kept b o e z
     .exact .inl<|I b o e hb z
     .obtain⟨more,A⟩:=G b z;have e3:=i hb;rw[e]at e3;cases e3;obtain⟨t,ht,rfl⟩:=Rt.1 hb;refine .inr (.inl #v[((hT t ht).1.tab (hT t ht).2).isCodeTable,rfl,#[],more,rfl,by rw[Array.empty_append];exact A])
    .rcases M b with z | ⟨hb,z⟩ | ⟨hb,z⟩
     .exact#v[o,kept b o e z]
     .exact#v[o,I b o e hb z]
     .obtain⟨more,A⟩:=G b z;exact#v[_,A]
 cases hk:K.lookup a with
 | some o =>
  have e:=KX a o hk;rw[ha]at e;cases e;have X:a ∉ ts.map (·.2.2):=λz=>by obtain⟨t,ht,e⟩:=Rt.1 z;exact aP t ht e
  refine B (λb=>if b∈ts.map (·.2.2) then some (.tbl #[]) else none) (λb=>?_) (λt ht=>QH<|Vi ht) (.inr #v[_,vs.toArray,_,hk,rfl,rfl,rfl,by rw[Rb,J];exact hl,by simpa using rv]) λz=>absurd (QK X) z
  by_cases hb:b∈ts.map (·.2.2)
  .exact .inr<|.inr #v[hb,QH hb]
  .exact .inl<|QK hb
 | none =>
  refine B (λb=>if b=a then some (.frz { cls:=.type "list",data:=.seq vs.toArray }<|.lst<|ns.map V.int) else if b∈ts.map (·.2.2) then some (.tbl #[]) else none) (λb=>?_) (λt ht=>?_) (.inl<|.inr #v[{ cls:=.type "list",data:=.seq vs.toArray },QH rfl]) λ_=>hk
  .by_cases hb:b=a
   .exact .inr<|.inl #v[hb,QH hb]
   .by_cases C:b∈ts.map (·.2.2)
    .exact .inr (.inr #v[C,by rw[QK hb,QH C]])
    .exact .inl (by rw[QK hb,QK C])
  .rw[QK<|aP t ht];exact QH (Vi ht)
def walk_ofT {l:PySem.W.OpenLaw}{K:Params->Qf}{CX:XB->CXT}{sp:XB->Sp}(lam)
  (hn:l.most=some n) (hn2:n<=XI) (hdf:d.params.defaults=[]) (hr:Room k callerA)
  (hrec:(lam.all λx=>((recsOf q).find? λe=>e.name == x).isSome)=true) (hnt:∀w:XB,PySem.W.noTabs (K w.params)=true)
  (hY:∀w h,YP w h->(K w.params).In h)
  (F:∀w mg fa h,(K w.params).In h->h.Ns XS mg->mg d.name=some (.ref fa) ->
   ∃fd,(∀s u,BindsTo s fd #v[[u],[]] [(x,u)]) /\
    ∀base,(K w.params).In base->base.Ns XS mg->BMd base mg->(∀t∈tabsK lam (K w.params),PySem.W.CodeHd base t.2.1 t.2.2)->FnOk l.prog w (K w.params) mg base (CX w) k fa fd [x] (sp w))
  (hsp:∀w H a (ns:List Int),ns.length<=n->SqL (K w.params) H a (ns.map V.int)->V2 (tabsK lam<|K w.params) H->sp w [.ref a] H (λv _=>v = .bl true) λ_ _ _=>False)
  (hCX:∀w H s e s',CX w [] H s (λ_ _ _=>False) e s'->False) :
  PySem.W.WalkO q loose XP YP l.row.toRowW d [] (λf vs=>PySem.call f vs):=by
 refine Att.attach_call hn hdf λw y i mg N fa o M S L a vs ns G Y O Q A m j g b hg=>?_
 have r:=hY w _ Y;obtain⟨fd,B,E⟩:=F w mg fa _ r G.T.g m;refine vc r G.T.g G.T.b G.T.builtins G.T.nolimit hg j g (QZ b hn2) hr (λt ht=>?_) (hnt w) G.T.bmain E B (λH D C=>hsp w H a ns b D C) λH e s'=>hCX w H i e s'
 obtain⟨x,z,e⟩:=WJ.1 ht;obtain⟨⟨c,P⟩,J,I⟩:=Re.1 e;cases I;obtain⟨R,p⟩:=Su.1<|UB.1 hrec x z;exact PySem.W.tab_of G.T r p J
end

section
section
variable {K:Qf}
def tT (K:Qf)(B:List Xy)(H H':Hp):DV->V->Prop
 | .dat d,v=>b8 K (hid H' B) d v
 | .own ds,v=>∃a e,v = .ref a/\H a=none/\H' a=some (.lst e)/\a8 K (hid H' (a::B)) ds e
 | .feed,_=>False
 | .fn _,_=>False
 | .adr _,_=>False
 | .dic w c ps,v=>w=true/\∃a b,v = .ref a/\H a=none/\H' a=some (.ext b)/\ji a b/\iG K (hid H' (a::B)) c ps a b
def jf (B:List Xy):DV->V->List Xy
 | .own _,.ref a=>a::B
 | .dic _ _ _,.ref a=>a::B
 | _,_=>B
section

def EG (I:SitE K G B E F σ H)(k1:Kp (n5 K G) H H1)(r:tT K B H H1 dv v):j9 (hid H B) (hid H1<|jf B dv v):=by
 cases dv with
 | dat d=>exact k1.hid I.fB
 | feed=>exact r.elim
 | fn _=>exact r.elim
 | adr _=>exact r.elim
 | own m =>
  obtain⟨a,i,rfl,h,j,k⟩:=r;intro b o e;by_cases f:b∈B
  .rw[I0 f]at e;cases e
  .rw[m7 f]at e;have g:=l6 e h;show hid H1 (a::B) b=some o;rw[m7<|by simp[g,f]];exact k1 b o e λz=>f<|I.fB b z
 | dic w c l =>
  obtain⟨_,a,i,rfl,h,j,_,k⟩:=r;intro b o e;by_cases f:b∈B
  .rw[I0 f]at e;cases e
  .rw[m7 f]at e;have g:=l6 e h;show hid H1 (a::B) b=some o;rw[m7<|by simp[g,f]];exact k1 b o e λz=>f<|I.fB b z
def cT :∀b∈B,b∈jf B dv v:=λb a=>by cases dv <;> cases v <;> first | exact a | exact QG _ a
def SitE.moreC (I:SitE K G B E F σ H)(k1:Kp (n5 K G) H H1)(f1:FAt K G H1 F1)(r:tT K B H H1 dv v):SitE K G (jf B dv v) E F1 σ H1:=by
 have n:=EG I k1 r;refine#v[f1,λb f=>cT b<|I.fB b f,λb f=>?_,I.ln,λj x C=>?_]
 .have h:=λf=>(I.step k1 f1).bk b f
  cases dv with
  | dat d=>cases v <;> exact h f
  | feed=>exact r.elim
  | fn _=>exact r.elim
  | adr _=>exact r.elim
  | own J =>
   obtain⟨a,t,rfl,z,q,A⟩:=r;rcases QQ.1 f with rfl | f
   .exact#v[_,q]
   .exact h f
  | dic w c y =>
   obtain⟨_,a,t,rfl,z,q,A⟩:=r;rcases QQ.1 f with rfl | f
   .exact#v[_,q]
   .exact h f
 .obtain⟨w,u,m⟩:=I.loc j x C;refine#v[w,u,?_];cases x with
  | dat d=>exact b8.same (m) n
  | feed=>exact m
  | fn _=>exact m
  | adr _=>exact m
  | own D =>obtain⟨s,g,rfl,l,e,k,i⟩:=m;exact#v[s,g,rfl,cT _ l,e,k1 _ _ k e,i.same n]
  | dic w c y =>obtain⟨s,g,rfl,l,e,k,p,i⟩:=m;exact#v[s,g,rfl,cT _ l,e,k1 _ _ k e,p,i.same n]
def Sit.putC (S:Sit K G B0 H0 E F σ H)(s:∀b∈B0,b∈B)(sn:∀b∈B,b∈B0\/H0 b=none)(I:SitE K G B E F σ H)(k1:Kp (n5 K G) H H1)(f1:FAt K G H1 F1)(r:tT K B H H1 dv v)(hl:i<E.length) :
  Sit K G B0 H0 (E.set i<|some dv) F1 (σ.set i<|some v) H1/\(∀b∈B0,b∈jf B dv v)/\(∀b∈jf B dv v,b∈B0\/H0 b=none)/\SitE K G (jf B dv v) (E.set i<|some dv) F1 (σ.set i<|some v) H1:=by
 have D:i < σ.length:=by rw[<-I.ln];exact hl
 have s':∀b∈B0,b∈jf B dv v:=λb T=>cT b<|s b T
 have y:∀P,dv = .own P->∃a n,v = .ref a/\H1 a=some (.lst n)/\a8 K (hid H1 (a::B)) P n/\a ∉ B/\a ∉ n5 K G/\H0 a=none:=λP e=>by
  subst e;obtain⟨a,n,rfl,hn,J,C⟩:=r;have f:=I.bk.nin hn;have g:=λz=>f<|I.fB a z
  exact#v[a,n,rfl,J,C,f,g,S.kp.none hn g]
 have u:∀w c q,dv = .dic w c q->∃a φ,v = .ref a/\H1 a=some (.ext φ)/\ji a φ/\iG K (hid H1 (a::B)) c q a φ/\a ∉ B/\a ∉ n5 K G/\H0 a=none:=λw c q e=>by
  subst e;obtain⟨_,a,n,rfl,hn,J,Y,C⟩:=r;have f:=I.bk.nin hn;have g:=λz=>f<|I.fB a z
  exact#v[a,n,rfl,J,Y,C,f,g,S.kp.none hn g]
 have Z:∀b∈jf B dv v,b∈B0\/H0 b=none:=λb T=>by
  cases dv with
  | dat d=>cases v <;> exact sn b T
  | feed=>exact r.elim
  | fn _=>exact r.elim
  | adr _=>exact r.elim
  | own P =>
   obtain⟨a,n,rfl,J,C,f,g,N⟩:=y P rfl;rcases QQ.1 T with rfl | T
   .exact .inr N
   .exact sn b T
  | dic w c q =>
   obtain⟨a,n,rfl,J,Y,C,f,g,N⟩:=u w c q rfl;rcases QQ.1 T with rfl | T
   .exact .inr N
   .exact sn b T
 have IC:=I.moreC k1 f1 r;have I':SitE K G (jf B dv v) (E.set i<|some dv) F1 (σ.set i<|some v) H1:=by
  refine#v[IC.fd,IC.fB,IC.bk,by rw[Se,Se];exact I.ln,λj x h=>?_];by_cases A:i=j
  .subst A;rw[QW hl]at h;cases h;refine#v[v,by rw[QW D],?_];cases dv with
   | dat d=>cases v <;> exact r
   | feed=>exact r.elim
   | fn _=>exact r.elim
   | adr _=>exact r.elim
   | own P =>obtain⟨a,n,rfl,J,C,f,g,N⟩:=y P rfl;exact#v[a,n,rfl,QN,g,J,C]
   | dic w c q =>obtain⟨a,n,rfl,J,Y,C,f,g,N⟩:=u w c q rfl;exact#v[a,n,rfl,QN,g,J,Y,C]
  .rw[QS A]at h;obtain⟨w,v1,v2⟩:=IC.loc j x h;exact#v[w,by rw[QS A];exact v1,v2]
 have L:∀P j O a,dv = .own P->v = .ref a->E[j]? = some (some<|DV.own O)->σ[j]? ≠ some (some<|V.ref a):=λP j O a e Q h z=>by obtain⟨a1,n,ab,J,C,f,g,N⟩:=y P e;rw[Q]at ab;cases ab;obtain⟨w,v1,p,am,rfl,ad,_⟩:=I.loc j _ h;rw[v1]at z;cases z;exact f ad
 refine#v[#v[#v[jf B dv v,s',Z,I'],S.fB,S.kp.trans k1,λj O p h m=>?_,λj k O U p h o m l=>?_,λj c q p h m=>?_],s',Z,I'];rotate_left 2
 .have t:∀k w c q,E[k]? = some (some<|DV.dic w c q)->σ[k]? = some (some<|V.ref p)->p∈B:=λk w c q o l=>by obtain⟨v9,w1,a9,al,rfl,ac,_⟩:=I.loc k _ o;rw[w1]at l;cases l;exact ac
  by_cases A:i=j
  .subst A;rw[QW hl]at h;rw[QW D]at m;have X:=QU<|QU h;have W:=QU<|QU m;obtain⟨a,n,Q,J,Y,C,f,g,N⟩:=u _ _ _ X;rw[W]at Q;cases Q;refine#v[#v[N,λz=>f<|s _ z],λk w' c' R o l=>?_];by_cases M:i=k
   .exact M
   .rw[QS M]at o l;exact absurd (t k w' c' R o l) f
  .rw[QS A]at h m;obtain⟨C,h2⟩:=S.dic j c q p h m;refine#v[C,λk w' c' R o l=>?_];by_cases M:i=k
   .subst M;rw[QW hl]at o;rw[QW D]at l;have X:=QU<|QU o;have W:=QU<|QU l;obtain⟨a,n,Q,J,Y,h3,f,g,N⟩:=u _ _ _ X;rw[W]at Q;cases Q;exact absurd (t j true c q h m) f
   .rw[QS M]at o l;exact h2 k w' c' R o l
 .by_cases A:i=j
  .subst A;rw[QW hl]at h;rw[QW D]at m;have X:=QU<|QU h;have W:=QU<|QU m;obtain⟨a,n,Q,J,C,f,g,N⟩:=y O X;rw[W]at Q;cases Q;exact#v[N,λz=>f<|s _ z]
  .rw[QS A]at h m;exact S.own j O p h m
 .by_cases A:i=j
  .by_cases M:i=k
   .rw[<-A,<-M]
   .subst A;rw[QW hl]at h;rw[QW D]at m;rw[QS M]at o l;have X:=QU<|QU h;have W:=QU<|QU m;exact absurd l<|L O k U p X W o
  .by_cases M:i=k
   .subst M;rw[QW hl]at o;rw[QW D]at l;rw[QS A]at h m;have X:=QU<|QU o;have W:=QU<|QU l;exact absurd m<|L U j O p X W h
   .rw[QS A]at h m;rw[QS M]at o l;exact S.inj j k O U p h o m l
end
end
end
section
section
variable {K:Qf}
def hU:List My->Option My
 | [.int i,.int j]=>some (.int<|if j > i then j else i)
 | _=>none
def qY (hK:X.K=K)(hc:X.calm=true):D1 X (.builtin "max") (rDN K hU):=by
 intro a s c H g us Q I r h;obtain⟨k,B,l,z,bk,f,b,q⟩:=h;unfold hU at b;split at b <;> try cases b
 rename_i i j;obtain⟨v,w,rfl,e,d⟩:=EU f rfl;cases(e);cases(d);exact uc hc a s c H _ us Q I r #v[i,j,rfl,q _ H (j9.refl H) b8.int]
end
end
section
section

def ky (hi:G6 b s.heap it l i)(hl:T8 b s.heap l items)(hx:items[i]? = some x)
  (q:∀h',G6 b h' it l (i+1)->XH.SameBut it s.heap h'->Q x { s with heap:=h' }):XR (model prog w) A (Builtin.SmallTypes.nextOf<|.ref it) Q E s:=by
 cases b
 .exact W7 (hi) (hl) hx λh' a b=>q h' a b
 .exact wpAny_nextOf_list_item (hi) (hl) hx λh' a b=>q h' a b
def yM (hh:A.handled=none)(hi:G6 b s.heap it l i)(hl:T8 b s.heap l items)(hx:items[i]? = none)
  (q:∀h' e,XH.ExtBut it s.heap h'->(∃o,h'.get? e=some o/\o.cls = .type "StopIteration")->E (.ref e) { s with heap:=h' }):XR (model prog w) A (Builtin.SmallTypes.nextOf<|.ref it) Q E s:=by
 cases b
 .exact Z6 hh (hi) (hl) hx q
 .exact wpAny_nextOf_list_end hh (hi) (hl) hx q
def G6.but (x:G6 b h it l i)(k:XH.ExtBut c h h')(n:it≠c):G6 b h' it l i:=x.at λo e=>k it o n e
def T8.but (x:T8 b h l items)(k:XH.ExtBut c h h')(n:l≠c):T8 b h' l items:=x.at λo e=>k l o n e
variable {TI TO i2:Xy}
def BN {Q:Xx->Xz->Prop}(D:ZipApart z TI TO i1 i2 l1 l2)(hz:IsZip s.heap z TI TO .none)(hTI:IsPair s.heap TI (.ref i1) (.ref i2))(hTO:IsPair s.heap TO a b)
  (h1:G6 b1 s.heap i1 l1 k) (h2:G6 b2 s.heap i2 l2 k) (hl1:T8 b1 s.heap l1 xs) (hl2:T8 b2 s.heap l2 ys) (hx:xs[k]? = some x) (hy:ys[k]? = some y)
  (q:∀h',IsZip h' z TI TO (rawInt s.heap.objs.size)->IsPair h' TO x y->G6 b1 h' i1 l1 (k+1)->G6 b2 h' i2 l2 (k+1)->IsPair h' s.heap.objs.size x y->h'.objs.size=s.heap.objs.size+1 ->
   (∀c o,c≠z->c≠TO->c≠i1->c≠i2->s.heap.get? c=some o->h'.get? c=some o)->Q (.ref s.heap.objs.size) { s with heap:=h' }) :
  XR (model prog w) A (Builtin.«zip.__next__» #v[[.ref z],[]]) (λfin s'=>∃v,fin = .done (.ret v)/\Q v s') E s:=by
 show XR _ _ (field (.ref z) 2 >>= _) _ _ _;refine QD<|RF hz rfl (x:=.bool false) rfl ?_;show XR _ _ (field (.ref z) 3 >>= _) _ _ _;refine QD<|RF hz rfl (x:=.ref TI) rfl ?_;refine QD<|So hTI rfl ?_;show XR _ _ (Builtin.SmallTypes.ownedTupleIsFree (.ref z) >>= _) _ _ _;refine QD ?_;unfold Builtin.SmallTypes.ownedTupleIsFree;refine QD<|RF hz rfl (x:=.none) rfl<|QF ?_;simp only[SA];refine QD<|Th ?_;refine QD<|RF hz rfl (x:=.ref TO) rfl ?_;refine QD (SF hz (by simp) λU B s1=>?_);replace B:IsZip U z TI TO .ellipsis:=B;refine QD ?_;simp only[List.zipIdx_cons,List.zipIdx_nil,Wk,List.forIn_nil];refine QD<|QD<|WY ?_;show XR _ _ (Builtin.SmallTypes.nextOf (.ref i1) >>= _) _ _ _;refine QD (ky (h1.but s1.extBut D.i1z) (hl1.but s1.extBut D.l1z) hx λT Y s2=>QF ?_);have L:IsPair T TO a b:=s2.extBut _ _ D.TOi1<|s1.extBut _ _ D.TOz hTO;refine QD<|So L rfl ?_;refine QD (Wo L λS G g=>?_);replace G:IsPair S TO x b:=G;refine QD<|UR<|QF ?_;refine QD<|QD<|WY ?_;show XR _ _ (Builtin.SmallTypes.nextOf (.ref i2) >>= _) _ _ _;refine QD (ky (((h2.but s1.extBut D.i2z).but s2.extBut D.i12.symm).but g.extBut D.TOi2.symm) (((hl2.but s1.extBut D.l2z).but s2.extBut D.l2i1).but g.extBut D.l2TO) hy λR X j=>QF ?_);have p4:=j.extBut _ _ D.TOi2 G;refine QD<|So p4 rfl ?_;refine QD (Wo p4 λd r i=>?_);replace r:IsPair d TO x y:=r;refine QD<|UR<|QF<|QF ?_;refine QD<|So r rfl ?_;refine QD<|wpAny_newTuple ?_;have l:d.objs.size=s.heap.objs.size:=by rw[i.1,j.1,g.1,s2.1,s1.1]
 have J:=i.extBut _ _ D.TOz.symm<|j.extBut _ _ D.i2z.symm<|g.extBut _ _ D.TOz.symm<|s2.extBut _ _ D.i1z.symm B;have O:∀c o,c≠z->c≠TO->c≠i1->c≠i2->s.heap.get? c=some o->d.get? c=some o:=λc o f t I H e=>i.extBut _ _ t<|j.extBut _ _ H<|g.extBut _ _ t<|s2.extBut _ _ I<|s1.extBut _ _ f e
 have W:=((Y.but g.extBut D.TOi1.symm).but j.extBut D.i12).but i.extBut D.TOi1.symm;have V:=X.but i.extBut D.TOi2.symm;have h:=QJ J;refine QD ?_;have N:IsZip (d.push { cls:=.type "tuple",data:=.seq #[x,y] }) z TI TO .ellipsis:=QE _ J;refine QD (SF N (by simp) λP u F=>?_);replace u:=u;refine SF u (by simp) λm n C=>?_
 replace n:=n;have p:∀c o,c≠z->d.get? c=some o->m.get? c=some o:=λc o f e=>C.extBut _ _ f<|F.extBut _ _ f<|QE _ e
 have K:=C.extBut _ _ (Rr h)<|F.extBut _ _ (Rr h)<|QV _ rfl;have M:m.objs.size=d.objs.size+1:=by rw[C.1,F.1,RG]
 rw[l]at n K M;refine QF #v[_,rfl,?_];rw[l];exact q m n (p _ _ D.TOz r) (W.at λo e=>p _ o D.i1z e) (V.at λo e=>p _ o D.i2z e) K M λc o f t I H e=>p c o f<|O c o f t I H e
def Ho (hh:A.handled=none)(D:ZipApart z TI TO i1 i2 l1 l2)(hz:IsZip s.heap z TI TO .none)(hTI:IsPair s.heap TI (.ref i1) (.ref i2))(hTO:IsPair s.heap TO a b)
  (h1:G6 b1 s.heap i1 l1 k) (h2:G6 b2 s.heap i2 l2 k) (hl1:T8 b1 s.heap l1 xs) (hl2:T8 b2 s.heap l2 ys) (he:xs[k]? = none\/ys[k]? = none)
  (q:∀h' e,(∀c o,c≠z->c≠TO->c≠i1->c≠i2->s.heap.get? c=some o->h'.get? c=some o)->(∃o,h'.get? e=some o/\o.cls = .type "StopIteration")->E (.ref e) { s with heap:=h' }) :
  XR (model prog w) A (Builtin.«zip.__next__» #v[[.ref z],[]]) Q E s:=by
 show XR _ _ (field (.ref z) 2 >>= _) _ _ _;refine QD<|RF hz rfl rfl ?_;refine QD<|RF hz rfl rfl ?_;refine QD<|So hTI rfl ?_;refine QD ?_;refine QD<|RF hz rfl rfl<|QF ?_;simp only[SA];refine QD<|Th ?_;refine QD<|RF hz rfl rfl ?_;refine QD (SF hz (by simp) λH j s1=>?_);replace j:=j;refine QD ?_;simp only[List.zipIdx_cons];refine QD<|QD<|WY ?_;cases hx:xs[k]? with
 | none =>
  refine QD (yM hh (h1.but s1.extBut D.i1z) (hl1.but s1.extBut D.l1z) hx λm e s2 #v[l,f,g]=>?_);have t:=s2 _ _ D.i1z.symm j;have n:e≠z:=λx=>by subst x;rw[t]at f;cases f;simp at g
  exact SF t (by simp) λB _ d=>q B e (λc o i _ p _ x=>d.extBut _ _ i<|s2 _ _ p<|s1.extBut _ _ i x) #v[l,d.extBut _ _ n f,g]
 | some x =>
  have C:ys[k]? = none:=by rcases he with h | h;rw[hx]at h;cases h;exact h
  refine QD (ky (h1.but s1.extBut D.i1z) (hl1.but s1.extBut D.l1z) hx λm L s2=>QF ?_);have y:=s2.extBut _ _ D.TOi1<|s1.extBut _ _ D.TOz hTO;refine QD<|So y rfl ?_;refine QD (Wo y λB K d=>?_);refine QD<|UR<|QF ?_;refine QD<|QD<|WY ?_;refine QD (yM hh (((h2.but s1.extBut D.i2z).but s2.extBut D.i12.symm).but d.extBut D.TOi2.symm) (((hl2.but s1.extBut D.l2z).but s2.extBut D.l2i1).but d.extBut D.l2TO) C λG e v #v[l,f,g]=>?_);have r:=v _ _ D.i2z.symm<|d.extBut _ _ D.TOz.symm<|s2.extBut _ _ D.i1z.symm j;have n:e≠z:=λx=>by subst x;rw[r]at f;cases f;simp at g
  exact SF r (by simp) λF _ u=>q F e (λc o i J p I x=>u.extBut _ _ i<|v _ _ I<|d.extBut _ _ J<|s2.extBut _ _ p<|s1.extBut _ _ i x) #v[l,u.extBut _ _ n f,g]
def Bc (D:ZipApart z TI TO i1 i2 l1 l2)(hz:IsZip s.heap z TI TO .none)(hTI:IsPair s.heap TI (.ref i1) (.ref i2))(hTO:IsPair s.heap TO a b)
  (h1:G6 b1 s.heap i1 l1 k) (h2:G6 b2 s.heap i2 l2 k) (hl1:T8 b1 s.heap l1 xs) (hl2:T8 b2 s.heap l2 ys) (hx:xs[k]? = some x) (hy:ys[k]? = some y)
  (q:∀h',IsZip h' z TI TO (rawInt s.heap.objs.size)->IsPair h' TO x y->G6 b1 h' i1 l1 (k+1)->G6 b2 h' i2 l2 (k+1)->IsPair h' s.heap.objs.size x y->h'.objs.size=s.heap.objs.size+1 ->
   (∀c o,c≠z->c≠TO->c≠i1->c≠i2->s.heap.get? c=some o->h'.get? c=some o)->Q (some<|.ref s.heap.objs.size) { s with heap:=h' }):XR (model prog w) A (pyNext<|.ref z) Q E s:=by
 have d:s.TypeIs (.ref z) "zip":=#v[_,hz,rfl];exact QD (Uq (Sl d UT (RO UT d PySem.F.entry_zip_next
  (BN D hz hTI hTO h1 h2 hl1 hl2 hx hy λh' l j i h g f e=>QF<|q h' l j i h g f e) (PySem.F.args_zip_next_1 _))))
def FZ (hh:A.handled=none)(D:ZipApart z TI TO i1 i2 l1 l2)(hz:IsZip s.heap z TI TO .none)(hTI:IsPair s.heap TI (.ref i1) (.ref i2))(hTO:IsPair s.heap TO a b)
  (h1:G6 b1 s.heap i1 l1 k) (h2:G6 b2 s.heap i2 l2 k) (hl1:T8 b1 s.heap l1 xs) (hl2:T8 b2 s.heap l2 ys) (he:xs[k]? = none\/ys[k]? = none)
  (q:∀h',(∀c o,c≠z->c≠TO->c≠i1->c≠i2->s.heap.get? c=some o->h'.get? c=some o)->Q none { s with heap:=h' }):XR (model prog w) A (pyNext<|.ref z) Q E s:=by have d:s.TypeIs (.ref z) "zip":=#v[_,hz,rfl];refine QD (Uq<|Sl d UT<|RO UT d PySem.F.entry_zip_next (Ho hh D hz hTI hTO h1 h2 hl1 hl2 he ?_ )<|PySem.F.args_zip_next_1 _);rintro h' e g ⟨o,f,h⟩;exact QD<|Uy #v[o,f,h] WC<|QF<|q _ g
end
end
section
abbrev itO (b:Bool)(l:Xy):XM:={ cls:=.type (if b then "list_iterator" else "tuple_iterator"),data:=.fields #[.ref l,.int 0 0] }
abbrev zg1 (h:XH)(b1:Bool)(l1:Xy):XH:=h.push<|itO b1 l1
abbrev zg2 (h:XH)(b1 b2:Bool)(l1 l2:Xy):XH:=(zg1 h b1 l1).push<|itO b2 l2
abbrev zg3 (h:XH)(b1 b2:Bool)(l1 l2:Xy):XH:=(zg2 h b1 b2 l1 l2).push { cls:=.type "tuple",data:=.seq #[.ref h.objs.size,.ref (zg1 h b1 l1).objs.size] }
abbrev zg4 (h:XH)(b1 b2:Bool)(l1 l2:Xy):XH:=(zg3 h b1 b2 l1 l2).push { cls:=.type "tuple",data:=.seq #[.none,.none] }
abbrev zg5 (h:XH)(b1 b2:Bool)(l1 l2:Xy):XH:=(zg4 h b1 b2 l1 l2).push { cls:=.type "zip",data:=.fields #[.none,.bool false,.bool false,.ref (zg2 h b1 b2 l1 l2).objs.size,.ref (zg3 h b1 b2 l1 l2).objs.size] }
def ER {a2:Nat} (l1:a1<N)(l2:a2<N):ZipApart (N+4) (N+2) (N+3) N (N+1) a1 a2:=by constructor <;> show @Ne Nat _ _ <;> lia
def Itz (b1 b2:Bool)(K:Qf)(a1 a2:Xy):It :=
 #v[λi H=>∃b a x y,SqA b1 K H a1 b/\SqA b2 K H a2 a/\b[i]? = some x/\a[i]? = some y,λi H v c=>∃t x y,v = .ref t/\H t=none/\c=upd H t (.tup [x,y])/\(∀b,SqA b1 K H a1 b->b[i]? = some x)/\∀a,SqA b2 K H a2 a->a[i]? = some y,
  λi H=>∃b a,SqA b1 K H a1 b/\SqA b2 K H a2 a/\(b[i]? = none\/a[i]? = none)]
def wZ {K}(b1 b2) (a1 a2 z TI TO i1 i2):Turn P w K (.Tuple es k pos) (Itz b1 b2 K a1 a2) [z,TI,TO,i1,i2] z
  (λi h=>ZipApart z TI TO i1 i2 a1 a2/\IsZip h z TI TO .none/\IsPair h TI (.ref i1) (.ref i2)/\(∃a b,IsPair h TO a b)/\G6 b1 h i1 a1 i/\G6 b2 h i2 a2 i) where
 mem:=by simp
 obj:=λi h st c V=>by
  obtain⟨_,n,d,⟨a,b,j⟩,m,C⟩:=st;simp only[QQ,Sg,Uo]at V;rcases V with rfl | rfl | rfl | rfl | rfl
  .exact#v[_,n,λv z=>by cases(show Data.fields _=Data.cell v from z)]
  .exact#v[_,d,λv z=>by cases(show Data.seq _ _=Data.cell v from z)]
  .exact#v[_,j,λv z=>by cases(show Data.seq _ _=Data.cell v from z)]
  .exact m.obj
  .exact C.obj
 keep:=λi h h' st Q=>by obtain⟨D,n,d,⟨a,b,j⟩,m,C⟩:=st;exact#v[D,Q z (by simp) _ n,Q TI (by simp) _ d,#v[a,b,Q TO (by simp) _ j],m.at λo e=>Q i1 (by simp) o e,C.at λo e=>Q i2 (by simp) o e]
 item:=by
  intro X hP hw hK L i l s Y H E I hf st hg;subst hP hw hK;obtain⟨D,n,d,⟨a,b,j⟩,m,C⟩:=st;obtain⟨xs,ys,x,y,q,p,hx,W⟩:=hg;obtain⟨B,J,p1⟩:=SqA.get I q;obtain⟨A,G,p2⟩:=SqA.get I p;obtain⟨O,ad,ab⟩:=J.get hx;obtain⟨N,ac,Z⟩:=G.get W;have S:∀c∈[z,TI,TO,i1,i2],c<s.heap.objs.size:=λc V=>by
   simp only[QQ,Sg,Uo]at V;rcases V with rfl | rfl | rfl | rfl | rfl
   .exact QJ n
   .exact QJ d
   .exact QJ j
   .obtain⟨o,e,_⟩:=m.obj;exact QJ e
   .obtain⟨o,e,_⟩:=C.obj;exact QJ e
  refine Bc D n d j m C p1 p2 (by rw[Ui];exact ad) (by rw[Ui];exact ac) λg g1 g2 g3 g4 g5 g6 gk=>?_
  refine#v[_,rfl,wpAny_letOwnedTupleGo_zip g1 λM z2 s2=>?_];have s2:=s2;have zl:=S z (by simp);have am:=I.hok.fresh<|QP _;have I1:Inv X l Y (upd H s.heap.objs.size<|.tup [x,y]) { s with heap:=s.heap.push { cls:=.type "tuple",data:=.seq #[O,N] } }:=by refine I.laid (λb u e=>QE _ e) (QP _) ?_;exact#v[QZ (show 2<=10000 by decide) (by rw[Ry];decide),[O,N],.cons ab<|.cons Z .nil,#v[_,QV _ rfl,rfl,_,rfl]]
  have R:∀c∈[z,TI,TO,i1,i2],bX X l (upd H s.heap.objs.size<|.tup [x,y]) c:=λc t=>by obtain⟨f0,f⟩:=hf c t;exact#v[by rw[f9<|QY<|S c t];exact f0,f]
  have ap:=s2.extBut _ _ (Rr zl) g5;have I2:Inv X l Y (upd H s.heap.objs.size<|.tup [x,y]) { s with heap:=M }:=by
   refine Q2 (s:={ s with heap:=s.heap.push { cls:=.type "tuple",data:=.seq #[O,N] } }) I1 R λc o r F=>?_
   have c1:c≠z:=λz=>r (by simp[z])
   have c2:c≠TO:=λz=>r (by simp[z])
   have c3:c≠i1:=λz=>r (by simp[z])
   have c4:c≠i2:=λz=>r (by simp[z])
   have F:=F;by_cases U:c=s.heap.objs.size
   .subst U;rw[QV _ rfl]at F;rw[ap];exact F
   .have al:c<s.heap.objs.size:=by have m:=QJ F;rw[RG]at m;exact WR (Xc m) U
    exact s2.extBut c o c1<|gk c o c1 c2 c3 c4<|iT al F
  refine#v[.ref s.heap.objs.size,upd H s.heap.objs.size<|.tup [x,y],I2,rfl,#v[_,x,y,rfl,am,rfl,λzs W=>by rw[SqA.inj I q W];exact hx,λzs n=>by rw[SqA.inj I p n];exact W],#v[D,z2,s2.extBut _ _ D.TIz<|gk _ _ D.TIz D.TITO D.TIi1 D.TIi2 d,#v[_,_,s2.extBut _ _ D.TOz g2],g3.but s2.extBut D.i1z,g4.but s2.extBut D.i2z],λc t=>(R c t).1]
 done:=by
  intro X hP hw hK L i l s Y H E I hf st hg;subst hP hw hK;obtain⟨D,n,d,⟨a,b,j⟩,m,C⟩:=st;obtain⟨xs,ys,q,p,T⟩:=hg;obtain⟨B,J,p1⟩:=SqA.get I q;obtain⟨A,G,p2⟩:=SqA.get I p;have an:B.toArray[i]? = none\/A.toArray[i]? = none:=by
   rcases T with T | T
   .left;rw[Ui,SC,<-J.length];exact SC.1 T
   .right;rw[Ui,SC,<-G.length];exact SC.1 T
  refine FZ (I.ok.hd L) D n d j m C p1 p2 an λh' eb=>#v[rfl,Q2 I hf λc o L F=>eb c o (λz=>L<|by simp[z]) (λz=>L<|by simp[z]) (λz=>L<|by simp[z]) (λz=>L<|by simp[z]) F]
 self:=λ_ _ _ _ _ st h=>wpAny_pyIter_zip st.2.1 h
section
variable {K:Qf}
def kB (a b:List My):List My:=List.zipWith (λx y=>.tuple [x,y]) a b
def zh {i:Nat}(h:(kB a b)[i]? = some z):∃x y,a[i]? = some x/\b[i]? = some y/\z = .tuple [x,y]:=by
 unfold kB at h;rw[List.getElem?_zipWith]at h;cases e1:a[i]? with
 | none=>rw[e1]at h;cases h
 | some x =>
  cases e2:b[i]? with
  | none=>rw[e1,e2]at h;cases h
  | some y=>rw[e1,e2]at h;exact#v[x,y,rfl,rfl,(QU h).symm]
def He {es}(h:∀H B,P H B->(SqA b1 K H a1 xs/\a8 K (hid H B) ds xs)/\SqA b2 K H a2 ys/\a8 K (hid H B) es ys):cy K P (Itz b1 b2 K a1 a2) (kB ds es):=λH B q=>by
 obtain⟨⟨b,j⟩,a,g⟩:=h H B q;refine#v[λi d e=>?_,#v[xs,ys,b,a,?_]]
 .obtain⟨x,y,p,o,rfl⟩:=zh e;obtain⟨v,e1,e2⟩:=a8.item j p;obtain⟨u,k,s⟩:=a8.item g o;refine#v[#v[xs,ys,v,u,b,a,e1,k],λA C l=>?_];obtain⟨t,z,w,rfl,ht,rfl,n,m⟩:=l;have f:=n xs b;have c:=m ys a;rw[e1]at f;cases f;rw[k]at c;cases c;exact#v[j9.upd ht,λbk=>P0 bk ht #v[_,_,rfl,e2,_,_,rfl,s,rfl]]
 .have r:(kB ds es).length=min ds.length es.length:=by unfold kB;rw[List.length_zipWith]
  rw[r,SC,SC,j.length,g.length];lia
end
end
end L3
namespace L2
open PySem PySem.Spec PyProof.Rows

section
def Ag (target iter:XG)(ifs:List XG)(it:Xx)(env:XN)(act:Sem Unit)(more:Sem Fin):Sem Fin:=do
 standAt iter.pos
 match <-pyNext it with
 | none=>pure<|.done .next
 | some v =>
  letOwnedTupleGo target it v
  assign target env v
  let mut ok:=true
  for c in ifs do
   if ok then ok <-isTrue c env (eval c env)
  if ok then act
  more
def sq (e:XG)(iter1:XG)(acc:Xx)(env:XN)(k:Sem Fin):Sem Fin:=do
 let x <-eval iter1 env
 standAt iter1.pos
 let x <-XX iter1 env x
 let _ <-runOwn (.compStart e 1 (<-holding [x] (pyIter x)) acc env) env
 k
def wL (elt tg iter tg1 iter1) (ifs ifs1) (scope) (pos) (it acc) (env) :
  compTurn (.ListComp elt [#v[tg,iter,ifs,0],#v[tg1,iter1,ifs1,0]] scope pos) 0 it acc env=rO tg iter ifs it env (sq (.ListComp elt [#v[tg,iter,ifs,0],#v[tg1,iter1,ifs1,0]] scope pos) iter1 acc env) (again<|.compLoop (.ListComp elt [#v[tg,iter,ifs,0],#v[tg1,iter1,ifs1,0]] scope pos) 0 it acc env):=by rfl
def AW (elt tg iter tg1 iter1) (ifs ifs1) (scope) (pos) (it acc) (env) :
  compTurn (.ListComp elt [#v[tg,iter,ifs,0],#v[tg1,iter1,ifs1,0]] scope pos) 1 it acc env=Ag tg1 iter1 ifs1 it env (nH elt acc env) (again<|.compLoop (.ListComp elt [#v[tg,iter,ifs,0],#v[tg1,iter1,ifs1,0]] scope pos) 1 it acc env):=by rfl
section

def IM (I:Nat->Xz->Prop)
  (ht:compTurn (.ListComp elt gens scope pos) d it acc env=Ag target iter ifs it env act (again<|.compLoop (.ListComp elt gens scope pos) d it acc env))
  (turn:∀n s,I n s->XR (model prog w) A (pyNext it) (λr s₁=>match r with
   | none=>R (.ok .next) s₁
   | some v=>XR (model prog w) A (letOwnedTupleGo target it v) (λ_ s₀=>XR (model prog w) A (assign target env v) (λ_ s₂ =>
     XR (model prog w) A (forIn ifs true λc r=>if r=true then do let ok <-isTrue c env (eval c env);pure (ForInStep.yield ok) else pure (ForInStep.yield r)) (λok s₃ =>
      if ok=true then XR (model prog w) A act (λ_ s₅=>∃m,m<n/\I m s₅) (λ_ _=>False) s₃
      else ∃m,m<n/\I m s₃) (λ_ _=>False) s₂) (λ_ _=>False) s₀) (λ_ _=>False) s₁) (λ_ _=>False) s)
  (n) (h:I n s):codeAny (model prog w) A (.compLoop (.ListComp elt gens scope pos) d it acc env) R s:=by
 refine codeAny_loop rfl I (λn s j=>?_) n h;refine wpAny_noted ?_;rw[ht];refine QD (Tg<|QD<|Rj (turn n s j) (λr s₁ e=>?_) λ_ _ a=>a.elim);cases r with
 | none=>exact QF e
 | some v =>
  refine QD (Rj e (λ_ s₀ i=>?_) λ_ _ a=>a.elim);refine QD (Rj i (λ_ s₂ g=>QD<|Rj g (λok s₃ b=>?_) λ_ _ a=>a.elim) λ_ _ a=>a.elim);cases ok with
  | false=>exact QF #v[rfl,b]
  | true=>exact QD (Rj b (λ_ s₅ f=>QF #v[rfl,f]) λ_ _ a=>a.elim)
def wW 
  (h0:codeAny (model prog w) A (.compLoop (.ListComp elt (g0::#v[target,iter,ifs,0]::rest) scope pos) 1 it acc env) R s)
  (h:XR (model prog w) A (pyIter it) (λit' s'=>codeAny (model prog w) A (.compLoop (.ListComp elt (g0::#v[target,iter,ifs,0]::rest) scope pos) 1 it' acc env) R s') (notedBy (model prog w) A env λx s'=>R (.error x) s') s) :
  codeAny (model prog w) A (.compStart (.ListComp elt (g0::#v[target,iter,ifs,0]::rest) scope pos) 1 it acc env) R s:=by
 refine codeAny_of_tree ?_;refine wpAny_notedAt ?_;refine QD<|wpAny_askSetting<|wpAny_ite ?_;split
 .first | exact QD (QF<|QF<|And.intro rfl h0) | exact QF<|And.intro rfl h0
 .first | exact QD (Th<|QD<|Tg<|QD<|Rj h (λit' s' a=>QF<|And.intro rfl a) λ_ _ x=>x) | (refine QD<|Th ?_;exact QD<|Tg<|QD<|Rj h (λit' s' a=>QF<|And.intro rfl a) λ_ _ x=>x)
end
def tIn (wi:TI)(g:TG)(tt:TT)(te:TE)(D:Xy):TM:=λh H Q=>wi h H λJ l =>
 ∃W:Nat->Nat->St->List V->Hp->Prop,(∃m a,l D=some (.lst a)/\W 0 m h a l)/\∀i m c a e,W i m c a e ->
  (J.stop i e/\Q c e) \/
  (J.go i e/\∀x k,J.yld i e x k->g x c k λb n=>tt b n λok f=>if ok=true then te b f λy j=>j D=some (.lst a)/\a.length<XI/\∃d,d<m/\W (i+1) d b (a++[y]) (upd j D<|.lst<|a++[y])
   else f D=some (.lst a)/\∃d,d<m/\W (i+1) d b a f)
def Iv (hx:Y.xe = λ_ _=>False)(hc:Y.calm=true)(hi:PI Y tg1 iter1 wi)(hg:PG Y tg1 g)(ht:PTs Y ifs1 tt)(he:PE Y elt te)
  (hs:∀x,XX iter1 Y.env x=pure x):PM Y (sq (.ListComp elt [#v[tg,iter,ifs,0],#v[tg1,iter1,ifs1,0]] scope pos) iter1 (.ref D) Y.env) (tIn wi g tt te D):=by
 intro j s σ H Q I h k R E hk;have m:∀{a b},Y.xe a b->False:=λ{a b} z=>by rw[hx]at z;exact z
 refine QD (Rj (hi j s σ H _ I h) (λv s1 h1=>QD<|Tg ?_) λ_ _ z=>(m z).elim);rw[hs];refine QD (QF<|QD<|Sq<|Rj h1 (λa6 s2 h2=>?_) λ_ _ z=>(m z).elim);obtain⟨it,Z,tn,J,H2,e,I2,T,S,f2,W,⟨m0,ab,a0,w0⟩,N⟩:=h2;subst e;have B:∀{p},(∀b∈Z,p b=none)->∀b∈Z,bX Y j p b:=λhn b G=>#v[hn b G,(f2 b G).2]
 refine QD<|wpAny_runOwn ?_;have K:codeAny (model Y.prog Y.w) (Y.A.mark none) (.compLoop (.ListComp elt [#v[tg,iter,ifs,0],#v[tg1,iter1,ifs1,0]] scope pos) 1 (.ref it) (.ref D) Y.env) (λr F=>match r with | .ok f=>XR (model Y.prog Y.w) Y.A k R E F | .error e=>cameBackBy (model Y.prog Y.w) Y.A Y.env E e F) s2:=by
  refine IM (λn F=>∃i w c p,Inv Y j w p F/\tn i F.heap/\(∀b∈Z,p b=none)/\p D=some (.lst c)/\W i n w c p) (AW ..) ?_ m0 #v[0,σ,ab,H2,I2,S,λb G=>(f2 b G).1,a0,w0];rintro n s5 ⟨i,t,c,H5,I5,P,V,a7,w5⟩;rcases N i n t c H5 w5 with ⟨O,q⟩ | ⟨go,step⟩
  .refine Rj (T.done Y rfl rfl rfl hc i j s5 t H5 _ I5 (B V) P O) (?_ ) λ_ _ z=>z;rintro r s6 ⟨hr,I6⟩
   subst hr;exact hk s6 t H5 I6 q
  .refine Rj (T.item Y rfl rfl rfl hc i j s5 t H5 _ I5 (B V) P go) (?_ ) λ_ _ z=>z;rintro r s6 ⟨u,hr,h6⟩
   subst hr;refine Rj h6 (?_ ) λ_ _ z=>z;rintro _ s7 ⟨x,H7,I7,r7,y7,L,a1⟩
   have a3:=I7.pinned (B a1)<|T.obj _ _ L;have C:∀{F} {w} {p},Inv Y (j++fk Z s7.heap) w p F->tn (i+1) F.heap/\∀b∈Z,p b=none:=λ{F w p} I'=>by refine#v[T.keep _ _ _ L λb G o e=>(I'.pin (b,o)<|Rp _<|Rp _<|R3 G e).1,λb G=>?_];obtain⟨o,e,d⟩:=T.obj _ _ L b G;exact(I'.pin (b,o)<|Rp _<|Rp _<|R3 G e).2.1
   refine Rj (hg _ s7 t H7 x u _ a3 r7<|step x H7 y7) (?_ ) λ_ _ z=>m z;rintro _ s8 ⟨l,H8,I8,q8⟩
   refine Rj (ht _ s8 l H8 _ I8 q8) (?_ ) λ_ _ z=>m z;rintro ok s9 ⟨H9,I9,q9⟩
   cases ok with
   | false =>have q9:=q9;obtain⟨ap,M,hm,w9⟩:=q9;obtain⟨k1,k2⟩:=C I9;exact#v[M,hm,i+1,l,c,H9,I9.unpinned,k1,k2,ap,w9]
   | true =>refine QD (Rj (he _ s9 l H9 _ I9 q9) (?_ ) λ_ _ z=>m z);rintro yv am ⟨y,ad,a4,an,U,hz,M,hm,al⟩;refine QD (Rj (bS _ am l ad (.ref D) [y] (.ref D) [yv] (λ_ p=>p=upd ad D (.lst<|c++[y])) a4 rfl (.cons an .nil) #v[D,c,y,rfl,rfl,U,hz,rfl]) (λ_ a5 #v[_,a9,ac,_,a2]=>QF ?_) λ_ _ z=>m z);subst a2;obtain⟨k1,k2⟩:=C ac;exact#v[M,hm,i+1,l,c++[y],_,ac.unpinned,k1,k2,i8,al]
 exact wW K<|T.self _ 0 _ _ _ S K
end
section
def vI 
   {σ:St}        {W:Nat->Nat->St->Hp->Prop} 
  (hc:X.calm=true) (hosc:X.env.scope=osc) (hcap:Caps X.N osc N k cap scope)
  (hcl:∀{x} {c},cl.lookup x=some c->X.env.cells.lookup x=some c) (hhas:∀x,(x,Yb.free)∈scope.names->∃c,cl.lookup x=some c)
  (hg:∀cl C ex π s H,PG (cxC X N scope cl C ex π s H) tg g)
  (ht:∀cl C ex π s H,PTs (cxC X N scope cl C ex π s H) ifs tt)
  (he:∀cl C ex π s H,PM (cxC X N scope cl C ex π s H) (sq (.ListComp elt [#v[tg,iter,ifs,0],#v[tg1,iter1,ifs1,0]] scope pos) iter1 (.ref D) (cxC X N scope cl C ex π s H).env) tm)
  (I3:Inv X π σ H3 s3) (T:Turn X.prog X.w X.K tg J fp it tn) (st:tn 0 s3.heap) (f3:∀b∈fp,bX X π H3 b) (w0:W 0 m0 (cF k cap σ) H3)
  (turn:∀i m O' H',W i m O' H'->(J.stop i H'/\Q (.ref D) H') \/
   (J.go i H'/\∀x H2,J.yld i H' x H2->g x O' H2 λσ2 H3=>tt σ2 H3 λok H4=>if ok=true then tm σ2 H4 λσ3 H5=>∃m',m'<m/\W (i+1) m' σ3 H5 else ∃m',m'<m/\W (i+1) m' σ2 H4)) :
  XR (model X.prog X.w) X.A (newFunctionEnv scope X.env.globals cl [] X.env.qual none .none<|some X.env) (λcenv s₄ =>
   codeAny (model X.prog X.w) X.A (.compStart (.ListComp elt [#v[tg,iter,ifs,0],#v[tg1,iter1,ifs1,0]] scope pos) 0 (.ref it) (.ref D) { cenv with scope:=relabel scope X.env }) (compPost (model X.prog X.w) X.A X.xe none (EP X π σ Q) (.ref D) cenv.locals) s₄) X.xe s3:=by
 refine lh (Qs:=Q<|.ref D) (λenv=>wL ..) hc hosc hcap hcl hhas hg ht I3 T st f3 w0 (λl j H5 f B q=>?_) λi m O' H' w=>?_
 .obtain⟨m,n,_⟩:=id f.loc;refine#v[m,n,λF d=>?_];obtain⟨A,z,G,y,v,u⟩:=I3.fpOk (QP _) f.free;exact#v[.ref D,H5,B.turned (λb o r e=>(d.2 b r).trans e) A z y v u,rfl,q]
 .rcases turn i m O' H' w with h | ⟨t,step⟩
  .exact .inl h
  .exact .inr #v[t,_,step,λσ2 H4 h=>h,λa s σ2 H4 I h k R E p=>he _ _ _ _ _ _ _ s σ2 H4 _ I h k R E p]
def Hv (wi:TI)(k:Nat)(cap:List Nat)(g:TG)(tt:TT)(wi1:TI)(g1:TG)(tt1:TT)(te:TE):TE:=λf H Q=>wi f H λJ l=>∀D,l D=none ->
 ∃W:Nat->Nat->St->Hp->Prop,(∃m,W 0 m (cF k cap f)<|upd l D<|.lst [])/\∀i m b d,W i m b d ->
  (J.stop i d/\Q (.ref D) d) \/
  (J.go i d/\∀x j,J.yld i d x j->g x b j λa o=>tt a o λok h=>if ok=true then tIn wi1 g1 tt1 te D a h λe n=>∃c,c<m/\W (i+1) c e n else ∃c,c<m/\W (i+1) c a h)
def EV 
  (hc:X.calm=true) (hosc:X.env.scope=osc) (hcap:Caps X.N osc N k cap scope) (hi:PI X tg iter wi)
  (hg:∀cl C ex π s H,PG (cxC X N scope cl C ex π s H) tg g)
  (ht:∀cl C ex π s H,PTs (cxC X N scope cl C ex π s H) ifs tt)
  (hi1:∀cl C ex π s H,PI (cxC X N scope cl C ex π s H) tg1 iter1 wi1)
  (hg1:∀cl C ex π s H,PG (cxC X N scope cl C ex π s H) tg1 g1)
  (ht1:∀cl C ex π s H,PTs (cxC X N scope cl C ex π s H) ifs1 tt1)
  (he:∀cl C ex π s H,PE (cxC X N scope cl C ex π s H) elt te)
  (hs1:autoParam (∀cl C ex π s H x,XX iter1 (cxC X N scope cl C ex π s H).env x=pure x) oD)
  (hs:autoParam (∀x,XX iter X.env x=pure x) eT) :
  PE X (.ListComp elt [#v[tg,iter,ifs,0],#v[tg1,iter1,ifs1,0]] scope pos) (Hv wi k cap g tt wi1 g1 tt1 te):=by
 intro π s w H Q I h;have i:∀y∈scope.names,y.2 = .free->∃c,X.env.cells.lookup y.1=some c:=λy m n=>I.ok.has y.1 (by show X.env.scope.names.lookup y.1=_\/X.env.scope.names.lookup y.1=_;rw[hosc];exact hcap.free y m n)
 let f:=λx=>(X.env.cells.lookup x).getD 0
 have z:∀y∈scope.names,y.2 = .free->X.env.cells.lookup y.1=some (f y.1):=λy m n=>by obtain⟨c,e⟩:=i y m n;show _=some ((X.env.cells.lookup y.1).getD 0);rw[e];rfl
 have a:=R0 λy m n=>by unfold cellOf;rw[z y m n]
 have p:∀{x} {c},(M9 f scope.names []).lookup x=some c->X.env.cells.lookup x=some c:=λ{x c} e=>by
  rcases U5 _ _ e with ⟨r,u⟩ | r
  .rw[u];exact z (x,.free) r rfl
  .simp at r
 have d:∀x,(x,Yb.free)∈scope.names->∃c,(M9 f scope.names []).lookup x=some c:=λx G=>#v[_,bE _ _<|.inl G]
 generalize M9 f scope.names []=cl at a p d;rw[eval_ListComp];refine Vo rfl hs a hcap.kind hcap.loc ?_;refine thn (hi π s w H _ I h) λv s1 r=>thn r λF s2 u=>?_
 obtain⟨R,K,O,J,M,e,B,T,l,A,E⟩:=u;subst e;obtain⟨W,⟨P,D⟩,j⟩:=E s2.heap.objs.size<|B.hok.fresh<|QP _;refine RI ?_;have L:Inv X π w (upd M s2.heap.objs.size<|.lst []) { s2 with heap:=s2.heap.push { cls:=.type "list",data:=.seq ([]:List Xx).toArray } }:=B.lnew .nil<|Sb _;have t:∀b∈K,b≠s2.heap.objs.size:=λb q=>by obtain⟨o,e,_⟩:=T.obj _ _ l b q;exact QY<|QJ e
 exact vI hc hosc hcap p d hg ht (λcl C ex π s H=>Iv rfl hc (hi1 cl C ex π s H) (hg1 cl C ex π s H) (ht1 cl C ex π s H) (he cl C ex π s H)<|hs1 cl C ex π s H) L T (T.keep _ _ (s2.heap.push { cls:=.type "list",data:=.seq ([]:List Xx).toArray }) l λb _ o e=>QE _ e) (λb q=>#v[by rw[f9<|t b q];exact(A b q).1,(A b q).2]) D j
end
end L2
namespace L3
open PySem PySem.Spec PyProof.Rows L2

section
section
variable {K:Qf}
noncomputable def jV (bd:My->DE->Option DE)(mt:DE->M Bool)(me:DE->M My):List My->DE->M (List My×DE)
 | [],E,F=>some (([],E),F)
 | d::r,E,F=>(bd d E).bind λE1=>(mt E1 F).bind λp=>if p.1=true then(me E1 p.2).bind λy=>(jV bd mt me r E1 y.2).bind λz=>some ((y.1::z.1.1,z.1.2),z.2) else jV bd mt me r E1 p.2
def dM (bd:My->DE->Option DE)(mt:DE->M Bool)(mi1:DE->M (List My))(bd1:My->DE->Option DE)(mt1:DE->M Bool)(me:DE->M My):List My->DE->M (List My)
 | [],_,F=>some ([],F)
 | d::r,E,F=>(bd d E).bind λb=>(mt b F).bind λp=>if p.1=true then(mi1 b p.2).bind λa=>(jV bd1 mt1 me a.1 b a.2).bind λz=>(dM bd mt mi1 bd1 mt1 me r z.1.2 z.2).bind λw=>some (z.1.1++w.1,w.2) else dM bd mt mi1 bd1 mt1 me r b p.2
def uE (mi:DE->M (List My))(k:Nat)(cap:List Nat)(bd:My->DE->Option DE)(mt:DE->M Bool)(mi1:DE->M (List My))(bd1:My->DE->Option DE)(mt1:DE->M Bool)(me:DE->M My):DE->M My:=λE F =>
 (mi E F).bind λp=>(dM bd mt mi1 bd1 mt1 me p.1 (ie k cap E) p.2).bind λz=>if z.1.length<=XI then some (.list z.1,z.2) else none
def Io {mt}(hi:TIs K wi mi)(hg:TGd K g bd)(ht:TTd K tt mt)
  (hi1:TId K wi1 mi1) (hg1:TGd K g1 bd1) (ht1:TTd K tt1 mt1) (he:TEd K te me):TEd K (Hv wi k cap g tt wi1 g1 tt1 te) (uE mi k cap bd mt mi1 bd1 mt1 me):=λG B E F σ H Q d F' I e q=>by
 obtain⟨⟨items,F1⟩,e1,e⟩:=bS9 e;obtain⟨⟨l,F2⟩,e2,e⟩:=bS9 e;split at e
 .rename_i be;cases e;have be:l.length<=XI:=be;refine hi G B E F σ H _ items F1 I e1 λJ H1 k1 f1 ok D hD=>?_
  have I1:SitE K G B E F1 σ H1:=I.step k1 f1;have b0:D ∉ B:=I1.bk.nin hD;have ac:D ∉ n5 K G:=λz=>b0<|I.fB D z
  have X:∀{u:Hp},Kp (n5 K G) H1 u->Kp (n5 K G) H1 u/\j9 (hid H1 B) (hid u (D::B)):=λ{u} k=>#v[k,λb o T=>by
   by_cases hb:b∈B
   .rw[I0 hb]at T;cases T
   .rw[m7 hb]at T;rw[m7 (by
     intro z;rcases QQ.1 z with rfl | z
     .rw[hD]at T;cases T
     .exact hb z)]
    exact k b o T λz=>hb<|I.fB b z]
  obtain⟨W,hW⟩:∃W:Nat->Nat->St->Hp->Prop,W = λi m C u=>m=items.length-i/\i<=items.length/\∃E F done s p,SitE K G (D::B) E F C u/\u D=some (.lst p)/\Kp (n5 K G) H1 u/\(∀(j:Nat) (O:List My),E[j]? = some (some<|DV.own O)->C[j]? ≠ some (some<|V.ref D))/\a8 K (hid u (D::B)) done p/\dM bd mt mi1 bd1 mt1 me (items.drop i) E F=some (s,F2)/\l=done++s:=#v[_,rfl]
  have w0:W 0 items.length (cF k cap σ) (upd H1 D<|.lst []):=by rw[hW];refine#v[by simp,Sb _,ie k cap E,F1,[],l,[],(I1.cap k cap).more hD,i8,Kp.upd hD,λj O ej z=>?_,a8.nil,e2,rfl];obtain⟨v,v1,a,xs,rfl,_,_,ha,_⟩:=(I1.cap k cap).loc j _ ej;rw[v1]at z;cases z;rw[hD]at ha;cases ha
  refine#v[W,#v[_,w0],λi m C u w=>?_];have wn:∀{i m C u},(m=items.length-i/\i<=items.length/\∃E F done s p,SitE K G (D::B) E F C u/\u D=some (.lst p)/\Kp (n5 K G) H1 u/\(∀(j:Nat) (O:List My),E[j]? = some (some<|DV.own O)->C[j]? ≠ some (some<|V.ref D))/\a8 K (hid u (D::B)) done p/\dM bd mt mi1 bd1 mt1 me (items.drop i) E F=some (s,F2)/\l=done++s)->W i m C u:=λh=>by rw[hW];exact h
  rw[hW]at w;clear hW w0;obtain⟨rfl,cc,E',F3,done,s,p,I2,bx,k2,ow,bn,P,ew⟩:=w;by_cases Z:i<items.length
  .refine .inr #v[((ok u (D::B)<|X k2).1 i items[i]<|by simp[Z]).1,λx H2 y=>?_];obtain⟨s2,hx⟩:=((ok u (D::B)<|X k2).1 i items[i]<|by simp[Z]).2 x H2 y;have b4:=hx I2.bk;rw[Rz Z,dM]at P;obtain⟨E4,e4,P⟩:=bS9 P;obtain⟨⟨b,F5⟩,e5,P⟩:=bS9 P;have I3:SitE K G (D::B) E' F3 C H2:=I2.step (Kp.same s2)<|I2.fd.same s2;refine hg G (D::B) E' F3 C H2 x items[i] E4 _ I3 b4 e4 λR I4 fr=>?_
   have a9:∀(j:Nat) (O:List My),E4[j]? = some (some<|DV.own O)->R[j]? ≠ some (some<|V.ref D):=λj O ej=>by
    obtain⟨a1,a2⟩:=fr j λy z=>by rw[ej]at z;cases z
    rw[a2];exact ow j O<|a1▸ej
   refine ht G (D::B) E4 F3 R H2 _ b F5 I4 e5 λH5 k5 f5=>?_
   have al:Kp (n5 K G) H1 H5:=(k2.trans<|Kp.same s2).trans k5;have I5:SitE K G (D::B) E4 F5 R H5:=I4.step k5 f5;have bv:H5 D=some (.lst p):=k5 D _ (s2 D _ bx) ac;have bm:=(bn.same<|(Kp.same s2).hid (fp:=[])<|by simp).same<|k5.hid I4.fB;cases b with
   | false=>exact#v[items.length-(i+1),by lia,wn #v[rfl,Z,E4,F5,done,s,p,I5,bv,al,a9,bm,P,ew]]
   | true =>
    obtain⟨⟨f,F6⟩,e6,P⟩:=bS9 P;obtain⟨⟨⟨zs,Ez⟩,F7⟩,e7,P⟩:=bS9 P;obtain⟨⟨ws,F8⟩,e8,P⟩:=bS9 P;cases P;refine hi1 G (D::B) E4 F5 R H5 _ f F6 I5 e6 λJ1 H6 k6 f6 ap=>?_
    have I6:=I5.step k6 f6;have bt:=k6 D _ bv ac;obtain⟨V5,hV⟩:∃V5:Nat->Nat->St->List V->Hp->Prop,V5 = λj n A c N=>n=f.length-j/\j<=f.length/\∃E F t r,SitE K G (D::B) E F A N/\N D=some (.lst c)/\Kp (n5 K G) H1 N/\j9 (hid H6 (D::B)) (hid N (D::B))/\(∀(j:Nat) (O:List My),E[j]? = some (some<|DV.own O)->A[j]? ≠ some (some<|V.ref D))/\a8 K (hid N (D::B)) t c/\jV bd1 mt1 me (f.drop j) E F=some ((r,Ez),F7)/\l=t++r++ws:=#v[_,rfl]
    have v0:V5 0 f.length R p H6:=by rw[hV];exact#v[by simp,Sb _,E4,F6,done,zs,I6,bt,al.trans k6,λ_ _ z=>z,a9,bm.same<|k6.hid I5.fB,e7,by rw[ew,Ur]]
    refine#v[V5,#v[f.length,p,bt,v0],λj n A c N w=>?_];have vn:∀{j n A c N},(n=f.length-j/\j<=f.length/\∃E F t r,SitE K G (D::B) E F A N/\N D=some (.lst c)/\Kp (n5 K G) H1 N/\j9 (hid H6 (D::B)) (hid N (D::B))/\(∀(j:Nat) (O:List My),E[j]? = some (some<|DV.own O)->A[j]? ≠ some (some<|V.ref D))/\a8 K (hid N (D::B)) t c/\jV bd1 mt1 me (f.drop j) E F=some ((r,Ez),F7)/\l=t++r++ws)->V5 j n A c N:=λh=>by rw[hV];exact h
    rw[hV]at w;obtain⟨rfl,hj,E5,F9,L,am,I7,br,k7,s7,a7,a0,S,ad⟩:=w;by_cases ab:j<f.length
    .refine .inr #v[((ap N (D::B) s7).1 j f[j]<|by simp[ab]).1,λx1 H8 y1=>?_];obtain⟨s8,b3⟩:=((ap N (D::B) s7).1 j f[j]<|by simp[ab]).2 x1 H8 y1;have ba:=b3 I7.bk;rw[Rz ab,jV]at S;obtain⟨Ea,ea,S⟩:=bS9 S;obtain⟨⟨bb,Fb⟩,T,S⟩:=bS9 S;have I8:=I7.step (Kp.same s8)<|I7.fd.same s8;refine hg1 G (D::B) E5 F9 A H8 x1 f[j] Ea _ I8 ba ea λU Ia ca=>?_
     have an:∀(j:Nat) (O:List My),Ea[j]? = some (some<|DV.own O)->U[j]? ≠ some (some<|V.ref D):=λj O ej=>by
      obtain⟨a1,a2⟩:=ca j λy z=>by rw[ej]at z;cases z
      rw[a2];exact a7 j O<|a1▸ej
     refine ht1 G (D::B) Ea F9 U H8 _ bb Fb Ia T λHb kb fb=>?_
     have Y:=(k7.trans<|Kp.same s8).trans kb;have Ib:=Ia.step kb fb;have a3:=kb D _ (s8 D _ br) ac;have a5:j9 (hid N (D::B)) (hid H8 (D::B)):=(Kp.same s8).hid (fp:=[]) (by simp);have a4:=kb.hid Ia.fB;have bi:=(a0.same a5).same a4;have a6:=λb o z=>a4 b o<|a5 b o<|s7 b o z
     cases bb with
     | false=>exact#v[a3,f.length-(j+1),by lia,vn #v[rfl,ab,Ea,Fb,L,am,Ib,a3,Y,a6,an,bi,S,ad]]
     | true =>
      obtain⟨⟨yd,Fc⟩,ec,S⟩:=bS9 S;obtain⟨⟨⟨b1,cd⟩,Fd⟩,ed,S⟩:=bS9 S;cases S;refine he G (D::B) Ea Fb U Hb _ yd Fc Ib ec λv Hc kc fc hc=>?_
      have bp:=kc D _ a3 ac;have Ic:=Ib.step kc fc;have b9:=bi.same<|kc.hid Ib.fB;have bg:c.length<XI:=by have h1:=a0.length;have h2:=Sn List.length ad;simp only[RW,QM]at h2;lia
      refine#v[bp,bg,f.length-(j+1),by lia,vn #v[rfl,ab,Ea,Fc,L++[yd],b1,Ic.wr ac an bp,i8,λb o T nb=>?_,?_,an,?_,ed,by rw[ad];simp]]
      .have:=kc b o (Y b o T nb) nb;rw[f9];exact this;intro z;subst z;rw[hD]at T;cases T
      .rw[av QN];exact λb o z=>kc.hid Ib.fB b o<|a6 b o z
      .rw[av QN];exact b9.snoc hc
    .have b5:j=f.length:=by lia
     subst b5;rw[Vd,jV]at S;cases S;rw[Sd]at ad;exact .inl #v[(ap N (D::B) s7).2,items.length-(i+1),by lia,wn #v[rfl,Z,_,_,L,ws,c,I7,br,k7,a7,a0,e8,ad]]
  .have b6:i=items.length:=by lia
   subst b6;rw[Vd,dM]at P;cases P;rw[Sd]at ew;subst ew;exact .inl #v[(ok u (D::B)<|X k2).2,q _ u (k1.trans k2) I2.fd<|b8.lst (by rw[m7 b0];exact bx)<|bn.same<|bD λb hb=>QG _ hb]
 .cases e
def xi (osc) (N){mt}
  (hi:Eib K X tg iter wi mi)
  (hg:∀{cl C ex π s H},Eg K (cxC X N scope cl C ex π s H) tg g bd)
  (ht:∀{cl C ex π s H},Ets K (cxC X N scope cl C ex π s H) ifs tt mt)
  (hi1:∀{cl C ex π s H},Ei K (cxC X N scope cl C ex π s H) tg1 iter1 wi1 mi1)
  (hg1:∀{cl C ex π s H},Eg K (cxC X N scope cl C ex π s H) tg1 g1 bd1)
  (ht1:∀{cl C ex π s H},Ets K (cxC X N scope cl C ex π s H) ifs1 tt1 mt1)
  (he:∀{cl C ex π s H},Ev K (cxC X N scope cl C ex π s H) elt te me)
  (hc:autoParam (X.calm=true) eH) (hosc:autoParam (X.env.scope=osc) eH) (hcap:autoParam (Caps X.N osc N k cap scope) kS)
  (hs1:autoParam (∀cl C ex π s H x,XX iter1 (cxC X N scope cl C ex π s H).env x=pure x) oD)
  (hs:autoParam (∀x,XX iter X.env x=pure x) eT) :
  Ev K X (.ListComp elt [#v[tg,iter,ifs,0],#v[tg1,iter1,ifs1,0]] scope pos) (Hv wi k cap g tt wi1 g1 tt1 te) (uE mi k cap bd mt mi1 bd1 mt1 me) :=
 #v[EV hc hosc hcap hi.pi (λ_ _ _ _ _ _=>hg.pg) (λ_ _ _ _ _ _=>ht.pts) (λ_ _ _ _ _ _=>hi1.pi) (λ_ _ _ _ _ _=>hg1.pg) (λ_ _ _ _ _ _=>ht1.pts) (λ_ _ _ _ _ _=>he.pe) hs1 hs,
  Io hi.ok (@hg [] 0 [] [] X.s₀ X.H₀).ok (@ht [] 0 [] [] X.s₀ X.H₀).ok (@hi1 [] 0 [] [] X.s₀ X.H₀).ok (@hg1 [] 0 [] [] X.s₀ X.H₀).ok (@ht1 [] 0 [] [] X.s₀ X.H₀).ok (@he [] 0 [] [] X.s₀ X.H₀).ok]
end
end
end L3
namespace L3
open PySem PySem.Spec PyProof.Rows L2 PySem.SeqAt
def EA (A:XC)(s:Xz)(y x:Xx)(r:Bool):Prop:=∀P w E Q,Q (.bool r) s->XR (model P w) A (richCompare .Lt y x) Q E s
def mR (l b) (xs ys) (n k) (dd de) (sl sm) (T:Nat->Prop)(r) :
  Meets (Builtin.«tuple.__lt__» #v[[.ref l,.ref b],[]])
   (λA R s=>s.heap.get? l=some #v[.type "tuple",dd,.seq xs n,sl]/\s.heap.get? b=some #v[.type "tuple",de,.seq ys k,sm]/\T 0 /\
    (∀j h1 (h2:j<ys.size),T j->∃e,EqAt A.in1 s xs[j] ys[j] e/\(e=true->T (j+1))/\(e=false->EA A.in1 s xs[j] ys[j] r)) /\
    (∀j,T j->min xs.size ys.size<=j->r=decide (xs.size<ys.size))/\R (.ok<|.ret<|.bool r) s) :=
 .of_wp λP w A R s h=>by
  obtain⟨u,g,B,o,t⟩:=s;obtain⟨hl,I,J,st,L,h⟩:=h;have V:=UA;have C:(xs.toList.zip ys.toList).length=min xs.size ys.size:=by simp
  wp_walk using AutoSeq1.wpAny_loadPart' hl,AutoSeq1.wpAny_loadPart' I,VY _ (λa z p=>z.1=none/\p=#v[u,g,B,o,t]/\∃i,a=(xs.toList.zip ys.toList).drop i/\T i) _;case turn =>
   rintro ⟨y,x⟩ a z p ⟨c,rfl,i,f,v⟩
   have lt:i<(xs.toList.zip ys.toList).length:=by
    rcases UU i (xs.toList.zip ys.toList).length with q | q
    .exact q
    .rw[TX q]at f;cases f
   have F:i<xs.size:=by lia
   have D:i<ys.size:=by lia
   rw[Rz lt]at f
   injection f with m d
   obtain rfl:=by simpa using Sn Prod.fst m
   obtain rfl:=by simpa using Sn Prod.snd m
   obtain⟨e,H,O,N⟩:=st i F D v
   refine QD<|H P w _ _ ?_
   cases e with
   | true =>
    wp_walk
    exact#v[rfl,rfl,i+1,d,O rfl]
   | false =>
    have G:=λ{E Q} z=>N rfl P w E Q z
    wp_walk using G
    exact#v[_,rfl,h]
  case fin =>
   rintro ⟨U,S⟩ p ⟨c,rfl,i,f,v⟩
   simp only at c
   subst c
   have K:min xs.size ys.size<=i:=by
    rcases UU i (xs.toList.zip ys.toList).length with q | q
    .rw[Rz q]at f;cases f
    .exact C▸q
   have M:=L i v K
   wp_walk
   exact#v[_,rfl,by rw[M]at h;simpa [Builtin.Tuple.tupleCompareSizes] using h]
  case h =>
   exact#v[rfl,rfl,0,rfl,J]
theorem P3 {vs}{xs}{as}(z:ReadsAll h vs xs as):vs.length=xs.length:=by cases z with
 | nil=>rfl
 | cons _ r=>rw[QM,QM,P3 r]
theorem T6 {vs}{xs}{as}(z:ReadsAll h vs xs as)(j h1)(h2:j<xs.length):∃bs,Reads h vs[j] xs[j] bs:=by cases z with
 | nil=>exact absurd h1<|UL _
 | cons r rs=>cases j with
  | zero=>exact#v[_,r]
  | succ j=>exact T6 rs j (Nat.lt_of_succ_lt_succ h1)<|Nat.lt_of_succ_lt_succ h2
theorem iP:∀{xs},My.canLayAll0 xs=true->∀x∈xs,x.canLay0=true/\x.depth<=My.depthAll xs
 | [],_,x,c=>by cases c
 | y::ys,h,x,c=>by
  have d:y.canLay0=true/\My.canLayAll0 ys=true:=by simpa [My.canLayAll0] using h
  rcases QQ.1 c with rfl | c
  .exact#v[d.1,Nat.le_max_left _ _]
  .obtain⟨a,b⟩:=iP d.2 x c;exact#v[a,QZ b<|Nat.le_max_right _ _]
end L3
namespace L3
open PySem PySem.Spec PyProof.Rows L2
section
def vd (l1 l2) (xs ys) :
  Meets (Builtin.«zip.__new__» #v[[.type "zip",.ref l1,.ref l2],[]]) (λ_ R s=>s.heap.IsTuple l1 xs/\s.heap.IsTuple l2 ys /\
   R (.ok<|.ret<|.ref (zg4 s.heap false false l1 l2).objs.size) { s with heap:=zg5 s.heap false false l1 l2 }) :=
 .of_wp λe w A R s h=>by
  obtain⟨j,g,d,c,f⟩:=s;obtain⟨l,k,h⟩:=h;have i:=sub_zip;have b:=l;have a:XH.IsTuple (Xz.heap #v[j.push { cls:=.type "tuple_iterator",data:=.fields #[.ref l1,.int 0 0] },g,d,c,f]) l2 ys:=by obtain⟨o,m,r⟩:=k;exact#v[o,QE _ m,r]
  wp_walk using SU b,SU a;exact#v[_,rfl,h]
section
variable {s:Xz}
def xW (m1:s.heap.IsTuple l1 xs)(m2:s.heap.IsTuple l2 ys)
  (h:∀h',IsZip h' (s.heap.objs.size+4) (s.heap.objs.size+2) (s.heap.objs.size+3) .none->IsPair h' (s.heap.objs.size+2) (.ref s.heap.objs.size) (.ref<|s.heap.objs.size+1) ->
   IsPair h' (s.heap.objs.size+3) .none .none->G6 false h' s.heap.objs.size l1 0->G6 false h' (s.heap.objs.size+1) l2 0->(∀c o,s.heap.get? c=some o->h'.get? c=some o)->Q (.ref<|s.heap.objs.size+4) { s with heap:=h' }) :
  XR (model prog w) A (call (.type "zip") [.ref l1,.ref l2]) Q E s:=by
 refine callType_new PySem.F.called_zip (by decide) (PySem.F.typeCall_zip_2 _ _) (PySem.F.newCall_zip_2 _ _) (λobj=>PySem.F.args_object_init_3 obj _ _) PySem.F.entry_zip_new (vd l1 l2 xs ys) #v[m1,m2,?_];have d:(zg1 s.heap false l1).objs.size=s.heap.objs.size+1:=RG ..;have b:(zg2 s.heap false false l1 l2).objs.size=s.heap.objs.size+2:=by rw[RG,d]
 have a:(zg3 s.heap false false l1 l2).objs.size=s.heap.objs.size+3:=by rw[RG,b]
 have f:(zg4 s.heap false false l1 l2).objs.size=s.heap.objs.size+4:=by rw[RG,a]
 have e:(zg5 s.heap false false l1 l2).get? (zg4 s.heap false false l1 l2).objs.size=some _:=QV _ rfl;have g:(zg5 s.heap false false l1 l2).get? (zg3 s.heap false false l1 l2).objs.size=some _:=QE _<|QV _ rfl;have i:(zg5 s.heap false false l1 l2).get? (zg2 s.heap false false l1 l2).objs.size=some _:=QE _<|QE _<|QV _ rfl;have j:(zg5 s.heap false false l1 l2).get? (zg1 s.heap false l1).objs.size=some _:=QE _<|QE _<|QE _<|QV _ rfl;have k:(zg5 s.heap false false l1 l2).get? s.heap.objs.size=some _:=QE _<|QE _<|QE _<|QE _<|QV _ rfl;rw[b,a,f]at e;rw[d,b]at i;rw[a]at g;rw[d]at j;rw[f];exact#v[#v[_,e,rfl],h _ e i g (#v[_,k,rfl,rfl]) (#v[_,j,rfl,rfl]) λc o x =>
  QE _ (QE _<|QE _<|QE _<|QE _ x)]
end
section
variable {K:Qf}
noncomputable def tI (a b:DE->M My):DE->M (List My):=λE F=>(a E F).bind λp=>(b E p.2).bind λr=>match p.1,r.1 with
 | .tuple xs,.tuple ys=>some (kB xs ys,r.2)
 | _,_=>none
def Du (K:Qf)(tl:TA):TI:=λd H R=>tl d H λg c=>∃b a,g=[.ref b,.ref a]/\∃f e,SqA false K c b f/\SqA false K c a e/\R (Itz false false K b a) c
def CD (hK:X.K=K)(hg:Gl X "zip")(hm:X.mg "zip" = none)(ha:PA X [l1,l2] tl)(hs:autoParam (XJ [l1,l2] X.env=(false,eval l1 X.env)::XJ [l2] X.env) eH)(hp:autoParam ((XO pos<|XJ [l2] X.env).any (·.1)=false) eH):PI X (.Tuple es tk tp) (.Call (.Name "zip" p) [l1,l2] [] pos) (Du K tl):=by
 subst hK;intro a s x H R I h;refine Call_ (aK I hg hm boot_zip<|Ta (thn (ha pos a s x H _ I h) ?_ ) hs hp);rintro us s1 ⟨T,C,j,G,L⟩;obtain⟨i,g,e,S,Q,n,m,q⟩:=L;subst e;cases G with
 | cons r l =>
  cases l with
  | cons J l =>
   cases l;cases r;cases J;obtain⟨d,F,A⟩:=SqA.get j n;obtain⟨b,E,y⟩:=SqA.get j m;have l1:i<s1.heap.objs.size:=by obtain⟨o,z,_⟩:=(A);exact QJ z
   have l2:g<s1.heap.objs.size:=by obtain⟨o,z,_⟩:=(y);exact QJ z
   refine xW (A) (y) λO B w v u t M=>?_
   have P:Inv X a x C { s1 with heap:=O }:=j.kept M;have D:ZipApart (s1.heap.objs.size+4) (s1.heap.objs.size+2) (s1.heap.objs.size+3) s1.heap.objs.size (s1.heap.objs.size+1) i g:=by generalize s1.heap.objs.size=N at l1 l2;exact ER l1 l2
   refine wpAny_pyIter_zip B #v[s1.heap.objs.size+4,[s1.heap.objs.size+4,s1.heap.objs.size+2,s1.heap.objs.size+3,s1.heap.objs.size,s1.heap.objs.size+1],_,_,C,rfl,P,wZ false false i g _ _ _ _ _,#v[D,B,w,#v[_,_,v],u,t],λc k=>?_,q];have f:s1.heap.objs.size<=c:=by simp only[QQ,Sg]at k;generalize s1.heap.objs.size=N at k;have k:=k;lia
   exact j.fpOk f<|j.hok.fresh f
def BB (h1:Ev K X e1 te1 m1)(h2:Ev K X e2 te2 m2)(hm:X.mg "zip" = none)(hK:autoParam (X.K=K) eH)(hg:autoParam (Gl X "zip") eH)(hs:autoParam (XJ [e1,e2] X.env=(false,eval e1 X.env)::XJ [e2] X.env) eH)(hs2:autoParam (XJ [e2] X.env=[(false,eval e2 X.env)]) eH)(hp:autoParam ((XO pos<|XJ [e2] X.env).any (·.1)=false) eH) :
  Ei K X (.Tuple es tk tp) (.Call (.Name "zip" p) [e1,e2] [] pos) (Du K<|J8 te1<|J8 te2 az) (tI m1 m2):=#v[CD hK hg hm (A1 h1.pe (A1 h2.pe K5 hs2) hs) hs hp,λG B E F g H R J M I e q=>by
 obtain⟨⟨y,l⟩,e1,e⟩:=bS9 e;obtain⟨⟨z,A⟩,e2,e⟩:=bS9 e;refine h1.ok G B E F g H _ y l I e1 λv x j r c=>?_
 refine h2.ok G B E l g x _ z A (I.step j r) e2 λu w i o h=>?_
 have c:=c.same<|i.hid I.fB;cases y with
 | tuple D =>
  cases z with
  | tuple C =>cases e;simp only[b8]at c h;obtain⟨a,m,rfl,k,n⟩:=c;obtain⟨t,d,rfl,b,f⟩:=h;exact#v[a,t,rfl,m,d,k.same f7,b.same f7,q _ w (j.trans i) o<|He λL N s=>#v[#v[(k.same s).same f7,n.same s],(b.same s).same f7,f.same s]]
  | _=>cases e
 | _=>cases e]
end
end
end L3
namespace L3
open PySem PySem.Spec PyProof.Rows L2 PySem.SeqAt
mutual
def ltW:My->My->Option Bool
 | .int i,.int j=>some<|decide (i<j)
 | .bool a,.bool b=>some (!a&&b)
 | .tuple xs,.tuple ys=>ltM xs ys
 | _,_=>none
def ltM:List My->List My->Option Bool
 | [],[]=>some false
 | [],_::_=>some true
 | _::_,[]=>some false
 | x::xs,y::ys=>if My.eqv x y=true then ltM xs ys else ltW x y
end
def Il (q:Q (.bool (!a&&b)) s):XR (model P w) A (richCompare .Lt (.bool a)<|.bool b) Q E s:=by
 refine lt_bool ?_;have e:decide (b2i a<b2i b)=(!a&&b):=by cases a <;> cases b <;> rfl
 rw[e];exact q
def bQ:∀m da db A s a b as bs r,sizeOf da<m->Reads s.heap a da as->Reads s.heap b db bs->da.canLay0=true->db.canLay0=true ->
  A.units+min da.depth db.depth<XZ->ltW da db=some r->EA A s a b r
 | 0,_,_,_,_,_,_,_,_,_,hm,_,_,_,_,_,_=>absurd hm<|UL _
 | m+1,da,db,A,s,a,b,as,bs,r,hm,ra,rb,ha,hb,hu,hr=>by
  cases ra with
  | int i t =>
   cases rb with
   | int j u =>rw[ltW]at hr;cases hr;exact λP w E Q q=>lt_int q
   | _=>simp[ltW]at hr
  | bool a1 =>
   cases rb with
   | bool b1 =>rw[ltW]at hr;cases hr;exact λP w E Q q=>Il q
   | _=>simp[ltW]at hr
  | tuple U T S I =>
   rename_i la oa B na c;cases rb with
   | tuple R O N D =>
    rename_i lb ob y nb d;rw[ltW]at hr;obtain⟨oc,od,dt,G⟩:=oa;obtain⟨ab,H,ad,k⟩:=ob;subst T S O N;have lx:=P3 I;have ly:=P3 D;rw[RS]at lx ly;have v:=ha;have p:=hb;have o:=hu;intro P w E Q q;refine richCompare_meets_room #v[_,U,rfl] #v[_,R,rfl] F.slot_tuple_lt F.entry_tuple_lt (F.args_tuple_lt_2 _ _)
     (mR la lb B y na nb od H G k (λj=>j<=min B.size y.size/\ltM (c.drop j) (d.drop j)=some r) r)
     #v[U,R,#v[Sb _,hr],λj Y X K=>?_,λj K hj=>?_,#v[(λz=>nomatch z),q]] (room_here hu)
    .have n:j<c.length:=by lia
     have g:j<d.length:=by lia
     have e:=K.2;rw[Rz n,Rz g,ltM]at e;have W:=eqAt_readsAll c d A.in1 s B.toList y.toList _ _ I D v p (room_in o) j (by simpa using Y) (by simpa using X);have ep:pairEq c d j=My.eqv c[j] d[j]:=by simp[pairEq,n,g]
     rw[ep]at W;refine#v[_,by simpa using W,λz=>#v[by lia,?_],λz=>?_]
     .rw[QH z]at e;exact e
     .rw[QK (by rw[z];decide)]at e;obtain⟨M,r1⟩:=T6 I j (by simpa using Y) n;obtain⟨L,Z⟩:=T6 D j (by simpa using X) g;obtain⟨c1,d1⟩:=iP v c[j]<|SI n;obtain⟨c2,d2⟩:=iP p d[j]<|SI g;have ac:=Wc<|SI n;have V:sizeOf (My.tuple c)=1+sizeOf c:=by simp
      have J:A.in1.units+min c[j].depth d[j].depth<XZ:=by have:=room_in o;have C:A.in1.units=A.units+1:=rfl;lia
      have:=bQ m c[j] d[j] A.in1 s _ _ M L r (by lia) (by simpa using r1) (by simpa using Z) c1 c2 J e;simpa using this
    .obtain⟨t1,f⟩:=K;rcases UU B.size y.size with z | z
     .have C:c.drop j=[]:=TX (by lia);have g:j<d.length:=by lia
      rw[C,Rz g,ltM]at f;cases f;exact(Rg z).symm
     .have C:d.drop j=[]:=TX (by lia);rw[C]at f;have er:r=false:=by
       cases h:c.drop j with
       | nil=>rw[h,ltM]at f;cases f;rfl
       | cons x l=>rw[h,ltM]at f;cases f;rfl
      rw[er];exact(Rk<|by lia).symm
   | _=>simp[ltW]at hr
  | _=>simp[ltW]at hr
end L3
namespace L3
open PySem PySem.Spec PyProof.Rows L2 PySem.SeqAt PySem.W

section
section
variable {s:Xz}
def vN (l:EA A s p q r)(h:Q r s):XR (model prog w) A (oneLt' false p q) Q E s :=
 kat_one p q (l prog w E _ h)
def om :∀xs ys us vs as bs i fin,ReadsAll s.heap us xs as->ReadsAll s.heap vs ys bs->My.canLayAll0 xs=true->My.canLayAll0 ys=true ->
  A.units+min (My.depthAll xs) (My.depthAll ys)<XZ->ltM xs ys=some r->fin=decide (us.length<vs.length)->Q r s->KatLex prog w A false fin Q (us.zip vs) i s
 | [],[],us,vs,_,_,i,fin,b,a,_,_,_,hr,hf,q=>by
  cases b;cases a;rw[ltM]at hr;cases hr;subst hf;exact kat_nil (by simpa using q)
 | [],y::ys,us,vs,_,_,i,fin,b,a,_,_,_,hr,hf,q=>by
  cases b;cases a;rw[ltM]at hr;cases hr;subst hf;exact kat_nil (by simpa using q)
 | x::xs,[],us,vs,_,_,i,fin,b,a,_,_,_,hr,hf,q=>by
  cases b;cases a;rw[ltM]at hr;cases hr;subst hf;exact kat_nil (by simpa using q)
 | x::xs,y::ys,us,vs,_,_,i,fin,b,a,ha,hb,hu,hr,hf,q=>by
  cases b with
  | cons j b =>
   cases a with
   | cons h a =>
    have d:x.canLay0=true/\My.canLayAll0 xs=true:=by simpa [My.canLayAll0] using ha
    have c:y.canLay0=true/\My.canLayAll0 ys=true:=by simpa [My.canLayAll0] using hb
    have l:My.depthAll (x::xs)=max x.depth (My.depthAll xs):=rfl;have k:My.depthAll (y::ys)=max y.depth (My.depthAll ys):=rfl;rw[l,k]at hu;have f:A.units+min x.depth y.depth<XZ:=by lia
    have g:A.units+min (My.depthAll xs) (My.depthAll ys)<XZ:=by lia
    rw[ltM]at hr;rw[UK];refine kat_cons<|(eqAt_reads x y A s _ _ _ _ j h d.1 c.1 f) _ _ _ _ ?_;refine kat_go (λe=>kat_yes ?_) (λe=>kat_no ?_)
    .rw[QH e]at hr;exact om xs ys _ _ _ _ (i+1) fin b a d.2 c.2 g hr (by simpa using hf) q
    .rw[QK (by rw[e];decide)]at hr;exact vN (bQ _ x y A s _ _ _ _ r (Sx _) j h d.1 c.1 f hr) q
def pX (ra:Reads s.heap u (.tuple xs) as)(rb:Reads s.heap v (.tuple ys) bs)(ha:My.canLayAll0 xs=true)(hb:My.canLayAll0 ys=true)
  (hu:A.units+min (My.depthAll xs) (My.depthAll ys)<XZ) (hr:ltM xs ys=some r) (q:Q r s):XR (model prog w) A (keyLt' (tuples' false) u v) Q E s:=by
 cases ra with
 | tuple f h e d =>
  cases rb with
  | tuple c g b a =>refine kat_lt f e c b<|om xs ys _ _ _ _ 0 _ d a ha hb hu hr ?_ q;simp
def lC (ra:Reads s.heap u (.tuple xs) as)(rb:Reads s.heap v (.tuple ys) bs)(ha':My.canLayAll0 xs=true)(hb':My.canLayAll0 ys=true)
  (hu1:A.units+min (My.depthAll xs+1) (My.depthAll ys+1)<XZ) (hr:ltM xs ys=some r) (q:Q (.bool r) s):XR (model prog w) A (call (.builtin "tuple.__lt__") [u,v]) Q E s:=by
 cases ra with
 | tuple I H G o =>
  rename_i Z T f V;cases rb with
  | tuple O D C k =>
   rename_i Y S e U;obtain⟨oc,P,dt,m⟩:=T;obtain⟨R,n,ab,d⟩:=S;subst H G D C;have X:=P3 o;have W:=P3 k;rw[RS]at X W;refine UZ F.slot_tuple_lt #v[_,I,rfl] F.entry_tuple_lt (F.args_tuple_lt_2 _ _)
    (mR Z Y f e V U P n m d (λj=>j<=min f.size e.size/\ltM (xs.drop j) (ys.drop j)=some r) r)
    #v[I,O,#v[Sb _,hr],λj L K t=>?_,λj t hj=>?_,q]
   .have g:j<xs.length:=by lia
    have c:j<ys.length:=by lia
    have a:=t.2;rw[Rz g,Rz c,ltM]at a;have J:=eqAt_readsAll xs ys A.in1 s f.toList e.toList _ _ o k ha' hb' (room_in hu1) j (by simpa using L) (by simpa using K);have ep:pairEq xs ys j=My.eqv xs[j] ys[j]:=by simp[pairEq,g,c]
    rw[ep]at J;refine#v[_,by simpa using J,λz=>#v[by lia,?_],λz=>?_]
    .rw[QH z]at a;exact a
    .rw[QK (by rw[z];decide)]at a;obtain⟨B,N⟩:=T6 o j (by simpa using L) g;obtain⟨y,M⟩:=T6 k j (by simpa using K) c;obtain⟨c1,d1⟩:=iP ha' xs[j]<|SI g;obtain⟨c2,d2⟩:=iP hb' ys[j]<|SI c;have p:A.in1.units+min xs[j].depth ys[j].depth<XZ:=by have:=room_in hu1;have i:A.in1.units=A.units+1:=rfl;lia
     have:=bQ _ xs[j] ys[j] A.in1 s _ _ B y r (Sx _) (by simpa using N) (by simpa using M) c1 c2 p a;simpa using this
   .obtain⟨t1,b⟩:=t;rcases UU f.size e.size with z | z
    .have i:xs.drop j=[]:=TX (by lia);have c:j<ys.length:=by lia
     rw[i,Rz c,ltM]at b;cases b;exact(Rg z).symm
    .have i:ys.drop j=[]:=TX (by lia);rw[i]at b;have er:r=false:=by
      cases h:xs.drop j with
      | nil=>rw[h,ltM]at b;cases b;rfl
      | cons x l=>rw[h,ltM]at b;cases b;rfl
     rw[er];exact(Rk<|by lia).symm
def yZ (ra:Reads s.heap u (.tuple xs) as):s.TypeIs u "tuple":=by
 cases ra with
 | tuple b a d c=>exact#v[_,b,a]
def ub (ra:Reads s.heap u (.tuple xs) as)(rb:Reads s.heap v (.tuple ys) bs)(ha:My.canLayAll0 xs=true)(hb:My.canLayAll0 ys=true)
  (hu:A.units+min (My.depthAll xs+1) (My.depthAll ys+1)<XZ) (hr:ltM xs ys=some r) (q:Q r s):XR (model prog w) A (keyLt' oneType' u v) Q E s:=by rw[keyLt'_oneType,oneLt'_eq];simp only[SA];refine QD (wpAny_cRoomFor_or (.inr<|by lia) ?_);refine QD<|wpAny_callSpecialIfBound?_slot (yZ ra) F.slot_tuple_lt<|lC ra rb ha hb hu hr ?_;exact SD q
def uy (ra:Reads s.heap u (.tuple xs) as)(rb:Reads s.heap v (.tuple ys) bs)(ha:My.canLayAll0 xs=true)(hb:My.canLayAll0 ys=true)
  (hu:A.units+min (My.depthAll xs+1) (My.depthAll ys+1)<XZ) (hr:ltM xs ys=some r) (q:Q r s):XR (model prog w) A (keyLt' general' u v) Q E s :=
 vN (bQ _ (.tuple xs) (.tuple ys) A s _ _ _ _ r (Sx _) ra rb ha hb hu (by rw[ltW];exact hr)) q
end
end
section
def aC (h:XH):List Xx->List (Option Xx)->Prop
 | [],[]=>True
 | v::vs,f::fs=>(∃a o b n,v = .ref a/\h.get? a=some o/\o.cls = .type "tuple" /\ o.data = .seq b n/\b[0]? = f)/\aC h vs fs
 | _,_=>False
theorem aC.len :∀{vs} {fs},aC h vs fs->vs.length=fs.length
 | [],[],_=>rfl
 | [],_::_,t=>t.elim
 | _::_,[],t=>t.elim
 | _::_,_::_,t=>by rw[QM,QM,aC.len t.2]
section
variable {M:Model}{s:Xz}
theorem mG:∀vs fs {Q},aC s.heap vs fs->Q fs s->XR M A (vs.mapM firstOfTuple') Q E s
 | [],[],_,_,h=>by rw[List.mapM_nil];exact QF h
 | [],_::_,_,t,_=>t.elim
 | _::_,[],_,t,_=>t.elim
 | v::vs,f::fs,Q,t,h=>by obtain⟨⟨a,o,i,n,rfl,b,g,e,d⟩,t⟩:=t;rw[List.mapM_cons];refine QD ?_;rw[kas_first_eq];refine QD (Looks.here ((Vu b).andThen .now) ?_);rw[g,QK (by first | decide | simp)];refine QD<|listItems_at b e<|QF ?_;rw[d];exact QD (mG vs fs t<|QF h)
theorem jq:∀{vs} {fs},aC s.heap vs fs->∀v∈vs,Looks M s.heap (typeOf v) (.type "tuple")
 | [],[],_,v,hv=>by cases hv
 | [],_::_,t,_,_=>t.elim
 | _::_,[],t,_,_=>t.elim
 | v::vs,f::fs,t,u,b=>by
  rcases QQ.1 b with rfl | b
  .obtain⟨⟨a,o,e,n,rfl,c,d,h,g⟩,_⟩:=t;rw[<-d];exact(Vu c).andThen .now
  .exact jq t.2 u b
def rL (fs:List (Option Xx)):SortKind:=if fs.all (·.isSome) then tuples' false else if (fs.head?.bind id).isSome then general' else oneType'
def FH (t:aC s.heap vs fs)(hne:0<fs.length)(hT:∀f,some f∈fs->Looks M s.heap (typeOf f) (.type "tuple"))(h:Q (rL fs) s):XR M A (keyKind' vs.toArray) Q E s:=by
 unfold rL at h;rw[kat_kind_eq,Xd,Xi];refine QD<|QD<|mG vs _ t<|QF ?_;by_cases b:fs.all (·.isSome)=true
 .rw[QH b]at h;rw[QH<|by simpa using b];refine QD<|Th ?_;obtain⟨d,rfl⟩:∃d:List Xx,fs=d.map some:=by
   refine#v[fs.filterMap id,?_];clear h t hT hne;induction fs with
   | nil=>rfl
   | cons f fs m =>rw[WW,TL]at b;obtain⟨g,rfl⟩:=Su.1 b.1;simp only[List.filterMap_cons_some (f:=id) (a:=some g) rfl,QL];rw[<-m b.2]
  have j:((d.map some).toArray.filterMap id)=d.toArray:=by simp
  rw[j,oneTypeOnly'_eq,Xd,Xi];refine QD (QD<|QD<|kas_mapM _ (λv e o i=>(hT v<|Vi e).here i)<|QF ?_);have c:((List.map (λ_=>Xx.type "tuple") d).toArray.all λx=>x == Xx.type "tuple")=true:=by simp only[List.all_toArray,Xg,UB];intro _ _;rfl
  rw[QI]at hne;have k:(List.map (λ_=>Xx.type "tuple") d).toArray[0]? = some (.type "tuple"):=by
   match d,hne with
   | g::d,_=>simp
  rw[k];simp only[c];exact QF<|QF h
 .rw[QK b]at h;rw[QK<|by simpa using b];have n:fs.toArray[0]? = fs.head?:=by cases fs <;> simp
  rw[n];by_cases l:(fs.head?.bind id).isSome=true
  .rw[QH l]at h ⊢;exact QF h
  .rw[QK l]at h ⊢;have hl:=t.len;rw[oneTypeOnly'_eq,Xd,Xi];refine QD (QD<|QD<|kas_mapM _ (λv e o i=>(jq t v e).here i)<|QF ?_);have c:((List.map (λ_=>Xx.type "tuple") vs).toArray.all λx=>x == Xx.type "tuple")=true:=by simp only[List.all_toArray,Xg,UB];intro _ _;rfl
   have k:(List.map (λ_=>Xx.type "tuple") vs).toArray[0]? = some (.type "tuple"):=by
    match vs,(show 0<vs.length by simp[*] ) with
    | g::d,_=>simp
   rw[k];simp only[c];exact QF<|QF h
end
end
section
def hJ (d:List My):Prop:=My.canLayAll0 d=true/\My.depthAll d<=20/\∀x,d.head? = some x->∃e,x = .tuple e
def StK (κ:Nat->Int)(xs ys:List V):Prop:=ys.length=xs.length/\∃p,SoS κ p xs.length/\∀i,i<xs.length->ys[i]? = xs[p i]?
def hZ :∀{vs} {ds:List (List My)},vs.length=ds.length->(∀(i:Nat) v d,vs[i]? = some v->ds[i]? = some d->∃as,Reads h v (.tuple d) as)->(∀d∈ds,hJ d) ->
  ∃fs,aC h vs fs/\∀M f,some f∈fs->Looks M h (typeOf f) (.type "tuple")
 | [],[],_,_,_=>#v[[],True.intro,λ_ f b=>by cases b]
 | [],_::_,hl,_,_=>by simp at hl
 | _::_,[],hl,_,_=>by simp at hl
 | v::vs,d::ds,hl,hr,hg=>by
  obtain⟨fs,t,w⟩:=hZ (by simpa using hl) (λi v d y x=>hr (i+1) v d (by simpa using y)<|by simpa using x) λd u=>hg d<|QG _ u
  obtain⟨as,r⟩:=hr 0 v d rfl rfl;cases r with
  | tuple s q p j =>
   rename_i a o c n;refine#v[c[0]? :: fs,#v[#v[a,o,c,n,rfl,s,q,p,rfl],t],λM f b=>?_];rcases QQ.1 b with e | b
   .have g:=(hg d QN).2.2;rw[<-Tt]at e;generalize c.toList=us at j e;cases j with
    | nil=>simp at e
    | cons k A =>
     simp at e;subst e;obtain⟨z,rfl⟩:=g _ rfl;cases k with
     | tuple m l C B =>rw[<-l];exact(Vu m).andThen .now
   .exact w M f b
end
end L3
namespace L3
open PySem PySem.Spec PyProof.Rows L2
section
def W2 (c:Nat)(ps:List (My×My))(d:My):Option My:=(ps.find? λp=>decide (P8 c p.1=P8 c d)).map (·.2)
def N3 (c:Nat)(ps:List (My×My))(d e:My):List (My×My):=if (W2 c ps d).isSome then ps.map (λp=>if P8 c p.1=P8 c d then(p.1,e) else p) else ps++[(d,e)]
section
variable {K:Qf}
theorem kA :∀{c} {k},P8 c d=some k->b8 K H d v->∃b,v = .ref b/\(J5 c).At K H k b
 | 0,_,e,h=>rN e h
 | 1,_,e,h=>Ad e h
 | _+2,_,e,h=>nE e h
theorem wY:∀c,(J5 c).dp<=8
 | 0=>by decide
 | 1=>by decide
 | _+2=>by show Z3.dp<=8;decide
theorem zP:∀{ps} {xs},KVs K H c ps xs->xs.length=ps.length
 | [],_,h=>by cases h;rfl
 | _::_,_,#v[k,b,v,r,e,h1,h2,h3,h4]=>by rw[e,QM,QM,zP h4]
theorem gc:∀{ps} {xs},KVs K H c ps xs->∀x∈xs,(J5 c).At K H x.1 x.2.1
 | [],_,h,x,a=>by cases h;cases a
 | _::_,_,#v[k,b,v,r,e,h1,h2,h3,h4],x,a=>by
  rw[e]at a;rcases QQ.1 a with rfl | a
  .obtain⟨g,f,d⟩:=kA h1 h2;cases f;exact d
  .exact gc h4 x a
theorem pL (hk:P8 c d=some k):∀{ps} {xs},KVs K H c ps xs->(∃e v,W2 c ps d=some e/\lq xs k=some v/\b8 K H e v)\/(W2 c ps d=none/\lq xs k=none)
 | [],_,h=>by cases h;exact .inr #v[rfl,rfl]
 | p::ps,_,#v[k',b,v,r,e,h1,h2,h3,h4]=>by
  subst e;unfold W2 lq;by_cases a:k'=k
  .subst a;refine .inl #v[p.2,v,?_,?_,h3]
   .rw[Rv (by rw[h1,hk];exact Rg rfl)];rfl
   .rw[Rv (p:=λx:(J5 c).K×Xy×V=>decide (x.1=k'))<|Rg rfl];rfl
  .rw[Rw (by rw[h1,hk];exact λz=>a<|QU<|Rh z),Rw (p:=λx:(J5 c).K×Xy×V=>decide (x.1=k))<|λz=>a<|Rh z];exact pL hk h4
def oP (hk:P8 c d=some k)(he:b8 K H e v):∀{ps} {xs},KVs K H c ps xs ->
  KVs K H c (ps.map λp=>if P8 c p.1=P8 c d then(p.1,e) else p) (xs.map λx=>if x.1=k then(x.1,x.2.1,v) else x)
 | [],_,h=>by cases h;rfl
 | p::ps,_,#v[k',b,v',r,ex,h1,h2,h3,h4]=>by
  subst ex;rw[QL,QL];by_cases a:k'=k
  .rw[QH (by rw[h1,hk,a]),QH a];exact#v[k',b,v,_,rfl,h1,h2,he,oP hk he h4]
  .rw[QK (by rw[h1,hk];exact λz=>a<|QU z),QK a];exact#v[k',b,v',_,rfl,h1,h2,h3,oP hk he h4]
theorem tH (hk:P8 c d=some k)(hd:b8 K H d (.ref b))(he:b8 K H e v):∀{ps} {xs},KVs K H c ps xs->KVs K H c (ps++[(d,e)]) (xs++[(k,b,v)])
 | [],_,h=>by cases h;exact#v[k,b,v,[],rfl,hk,hd,he,rfl]
 | p::ps,_,#v[k',b',v',r,ex,h1,h2,h3,h4]=>by subst ex;exact#v[k',b',v',_,rfl,h1,h2,h3,tH hk hd he h4]
def zg (h:KVs K H c ps xs)(hk:P8 c d=some k)(hd:b8 K H d (.ref b))(he:b8 K H e v):KVs K H c (N3 c ps d e) (iU xs k b v):=by
 unfold N3 iU;rcases pL hk h with ⟨i,g,f,a,_⟩ | ⟨f,a⟩
 .rw[f,a,QH (show(some i).isSome=true from rfl),QH<|show(some g).isSome=true from rfl];exact oP hk he h
 .rw[f,a,QK (nofun),QK<|nofun];exact tH hk hd he h
theorem xH:∀{ps} {xs},KVs K H c ps xs->a8 K H (ps.map (·.1)) (xs.map λx=>.ref x.2.1)
 | [],_,h=>by cases h;exact a8.nil
 | _::_,_,#v[k,b,v,r,e,h1,h2,h3,h4]=>by subst e;exact a8.cons h2<|xH h4
end
section
variable {K:Qf}
def FAt.dict {x:Nat}{o} (h:FAt K G H F)(hf:a ∉ n5 K G)(ha:H a=some (.ext φ))(hs:ji a φ):FAt K G (upd H a o) F:=by
 refine#v[?_,λt ht=>?_]
 .have b:=h.1;cases G with
  | none=>trivial
  | some q =>obtain⟨d,E⟩:=q;exact Feeds.congr b (f9 λz=>hf (by rw[<-z];simp[n5])) (f9 λz=>hf (by rw[<-z];simp[n5]))
 .obtain⟨l,b,n,m⟩:=h.2 t ht;refine#v[l,?_,n,λpos u q=>?_]
  .rw[f9 λz=>by rw[z,ha]at b;cases b];exact b
  .obtain⟨v,k,c⟩:=m pos u q;refine#v[v,k,?_];rw[f9 λz=>?_]
   .exact c
   .rw[z,ha]at c;have e:φ = λh=>h.CodeRec (.ref a) (Jj t.1):=by have:=QU c;injection this
    obtain⟨B,f,y,C,D,p,s⟩:=hs;rw[e]at f;obtain⟨I,A,j,w,r,g,i,_⟩:=f;cases r;rw[p]at g;cases g;rw[s]at i;cases i
def Sit.writeD {i}(S:Sit K G B0 H0 E F σ H)(s:∀b∈B0,b∈B)(sn:∀b∈B,b∈B0\/H0 b=none)(I:SitE K G B E F σ H)
  (ei:E[i]? = some (some<|DV.dic true c ps)) (si:σ[i]? = some (some<|V.ref x)) (hs:ji x φ') (hd:iG K (hid H B) c ps' x φ') :
  Sit K G B0 H0 (E.set i<|some<|.dic true c ps') F σ (upd H x<|.ext φ'):=by
 have hl:=(QR.1 ei).1;obtain⟨v,X,x',xs,rfl,hB,hf,Z,hn,_⟩:=I.loc i _ ei;rw[si]at X;cases X;have J:hid (upd H x<|.ext φ') B=hid H B:=av hB;obtain⟨⟨n1,n2⟩,n3⟩:=S.dic i c ps x ei si;refine#v[#v[B,s,sn,#v[I.fd.dict (x:=0) hf Z hn,I.fB,λb hb=>?_,by rw[Se];exact I.ln,λj y a=>?_]],S.fB,λb o R nb=>?_,λj D g a C=>?_,λj k D O g a A C L=>?_,λj c' ab g a C=>?_]
 .by_cases h:b=x
  .subst h;exact#v[_,i8]
  .rw[f9 h];exact I.bk b hb
 .by_cases e:i=j
  .subst e;rw[QW hl]at a;cases a;exact#v[.ref x,si,x,φ',rfl,hB,hf,i8,hs,by rw[J];exact hd]
  .rw[QS e]at a;obtain⟨w,W,u⟩:=I.loc j y a;refine#v[w,W,?_];cases y with
   | dat d=>show b8 K (hid (upd H x _) B) d w;rw[J];exact u
   | feed=>exact u
   | fn _=>exact u
   | adr _=>exact u
   | own D =>
    obtain⟨g,m,rfl,t,p,f,r⟩:=u;have n:g≠x:=λz=>by rw[z,Z]at f;cases f
    exact#v[g,m,rfl,t,p,by rw[f9 n];exact f,by rw[J];exact r]
   | dic w9 c9 M =>
    obtain⟨g,m,rfl,t,p,f,N,r⟩:=u;have n:g≠x:=λz=>e<|n3 j w9 c9 M a<|z▸W
    exact#v[g,m,rfl,t,p,by rw[f9 n];exact f,N,by rw[J];exact r]
 .rw[f9]
  .exact S.kp b o R nb
  .intro z;subst z;rw[n1]at R;cases R
 .by_cases e:i=j
  .subst e;rw[QW hl]at a;cases a
  .rw[QS e]at a;exact S.own j D g a C
 .by_cases e:i=j
  .subst e;rw[QW hl]at a;cases a
  .by_cases hk:i=k
   .subst hk;rw[QW hl]at A;cases A
   .rw[QS e]at a;rw[QS hk]at A;exact S.inj j k D O g a A C L
 .have l:∀j w T q,(E.set i<|some<|.dic true c ps')[j]? = some (some<|DV.dic w T q)->∃q,E[j]? = some (some<|DV.dic w T q):=λj w T q a=>by
   by_cases e:i=j
   .subst e;rw[QW hl]at a;cases a;exact#v[ps,ei]
   .rw[QS e]at a;exact#v[q,a]
  obtain⟨q1,Q⟩:=l j _ _ _ a;obtain⟨h1,h2⟩:=S.dic j c' q1 g Q C;refine#v[h1,λk w' U Y A L=>?_];obtain⟨q2,P⟩:=l k _ _ _ A;exact h2 k w' U q2 P L
def fD (i c:Nat):DE->M Out:=λE F=>if i<E.length then some (.nx<|E.set i<|some<|.dic true c [],F) else none
def Bi (i c)(hN:X.N.Nodup)(h9:autoParam (c≠9) eL)(hi:autoParam (X.N[i]? = some x) eH)(hx:autoParam (Loc X.env.scope x) eM)(hs:autoParam (XT (.Dict [] [] p) (some<|.Name x pos') pos.line X.env=pure false) eH)(hf:autoParam (X.fn x=true\/X.env.scope.names.lookup x=some .local) eM) :
  Ss K X (.Assign [.Name x pos'] (.Dict [] [] p) pos) (aa (DR<|J5 c)<|M6 i) (fD i c) :=
 #v[M3 hN hi hx CP hs hf,λG l j E F h H D r k S e q=>by
  unfold fD at e;split at e
  .rename_i hl;cases e;obtain⟨B,s,f,I⟩:=S.ex;intro a b d;have g:Kp (n5 K G) H (upd H a<|.ext<|NDi (J5 c) a []):=Kp.upd b;have r:tT K B H (upd H a<|.ext<|NDi (J5 c) a []) (.dic true c []) (.ref a):=#v[rfl,a,_,rfl,b,i8,let #v[_,z]:=d;z.n,.inl #v[h9,[],rfl,rfl]];exact q _ _ (S.putC s f I g (I.fd.same<|j9.upd b) r hl).1
  .cases e]
def S9 (E:DE)(i:Nat):Option (Bool×Nat×List (My×My)):=match E[i]? with
 | some (some<|.dic w c ps)=>some (w,c,ps)
 | _=>none
def N8 {i}(h:S9 E i=some (w,c,ps)):E[i]? = some (some<|DV.dic w c ps):=by
 unfold S9 at h;split at h
 .rename_i e;cases h;exact e
 .cases h
noncomputable def rM (i c:Nat)(v k:DE->M My):DE->M Out:=λE F=>(v E F).bind λp=>(k E p.2).bind λq=>(S9 E i).bind λd=>if d.1=true/\d.2.1=c/\(P8 c q.1).isSome=true/\d.2.2.length<XI then some (.nx<|E.set i<|some<|.dic true c<|N3 c d.2.2 q.1 p.1,q.2) else none
def Cc (i c)(hu:X.A.units+9<XZ)(hv:Ev K X value te m)(hk:Ev K X e ty mb)(hK:X.K=K)(h9:autoParam (c≠9) eL)(hN:autoParam (X.N[i]? = some x) eH)(hvis:autoParam (Vis X.env.scope x) eN)(hd:autoParam (nDb x) eL)(hcd:autoParam (nCd x) eL)
  (hs:autoParam (XT value (some<|.Subscript (.Name x px) e pos') pos.line X.env=pure false) eH) :
  Ss K X (.Assign [.Subscript (.Name x px) e pos'] value pos) (DN (J5 c) K (Z0 i) ty te) (rM i c m mb):=by
 subst hK;refine#v[Dg hu (wY c) (P5 hN hvis hd hcd) hk.pe hv.pe hs,λG B0 H0 E F l H D r F' S e q=>?_];obtain⟨⟨d,Z⟩,e1,e⟩:=bS9 e;obtain⟨⟨n,F2⟩,V,e⟩:=bS9 e;obtain⟨⟨w,W,ps⟩,e4,e⟩:=bS9 e;split at e;case isFalse=>cases e
 rename_i hc;obtain⟨rfl,rfl,p,j⟩:=hc;cases e;obtain⟨B,s,sn,I⟩:=S.ex;have T:=N8 e4;refine hv.ok G B E F l H _ d Z I e1 λv H1 P f1 h1=>?_
 have L:=I.step P f1;obtain⟨u,N,a,φ,rfl,hB,hf,o,hn,C⟩:=L.loc i _ T;obtain⟨g,rfl,A⟩:=C.not9 h9;refine#v[_,N,hk.ok G B E Z l H1 _ n _ L V λy Y h R Q=>?_];have I2:=L.step h R;have S2:=S.step (P.trans h) R;have f:=A.same<|h.hid I.fB;obtain⟨k,U⟩:=Su.1 p;obtain⟨b,rfl,hb⟩:=kA U Q;have O:∀J g,SqT X.K (hid Y B) J g->SqT X.K Y J g:=λJ g z=>z.same f7
 refine#v[a,_,rfl,#v[g,k,b,h a _ o hf,λx o=>(J5 W).keeps (gc f x o) O,rfl,(J5 W).keeps hb O,by rw[zP f];exact j,rfl],λt=>?_];exact q l _ (S2.writeD s sn I2 T N (let #v[_,z]:=t _ i8;z.n)<|.inl #v[h9,_,rfl,zg f U Q<|h1.same<|h.hid I.fB])
noncomputable def ig (i c:Nat)(k:DE->M My):DE->M My:=λE F=>(k E F).bind λq=>(S9 E i).bind λd=>if d.2.1=c/\(P8 c q.1).isSome=true then(W2 c d.2.2 q.1).bind λz=>some (z,q.2) else none
def rQ (i c)(hu:X.A.units+9<XZ)(hk:Ev K X e ty mb)(hK:X.K=K)(hsl:Ff e)(h9:autoParam (c≠9) eL)(hN:autoParam (X.N[i]? = some x) eH)(hvis:autoParam (Vis X.env.scope x) eN)(hd:autoParam (nDb x) eL)(hcd:autoParam (nCd x) eL) :
  Ev K X (.Subscript (.Name x px) e pos) (Ej (J5 c) K (Z0 i) ty) (ig i c mb):=by
 subst hK;refine#v[Ao hu (wY c) (P5 hN hvis hd hcd) hk.pe hsl,λG B E F J H Q r F' I e q=>?_];obtain⟨⟨n,F2⟩,Y,e⟩:=bS9 e;obtain⟨⟨w,C,ps⟩,W,e⟩:=bS9 e;split at e;case isFalse=>cases e
 rename_i O;obtain⟨rfl,l⟩:=O;obtain⟨z,g,e⟩:=bS9 e;cases e;have V:=N8 W;obtain⟨u,L,a,Z,rfl,hB,N,j,hn,o⟩:=I.loc i _ V;obtain⟨d,rfl,m⟩:=o.not9 h9;refine#v[_,L,hk.ok G B E F J H _ n _ I Y λy D h U R=>?_];have f:=m.same<|h.hid I.fB;obtain⟨k,A⟩:=Su.1 l;obtain⟨b,rfl,P⟩:=kA A R;have t:∀s d,SqT X.K (hid D B) s d->SqT X.K D s d:=λs d z=>z.same f7
 rcases pL A f with ⟨z',v,p,T,S⟩ | ⟨p,_⟩
 .rw[p]at g;cases g;exact#v[a,v,rfl,#v[d,k,b,h a _ j N,λx j=>(J5 C).keeps (gc f x j) t,rfl,(J5 C).keeps P t,T.symm],q _ _ h U S]
 .rw[p]at g;cases g
def iL (i c:Nat):DE->M My:=λE F=>(S9 E i).bind λd=>if d.2.1=c then some (.list (d.2.2.map (·.1)),F) else none
end
end
variable {ts:List (List My)}{κ:Nat->Int}
section
def ui (d:List My):List (List My)->List (List My)
 | []=>[d]
 | e::r=>if ltM e d=some true then e::ui d r else d::e::r
def fy:List (List My)->List (List My)
 | []=>[]
 | d::r=>ui d<|fy r
def kq (ts:List (List My))(κ:Nat->Int):Prop:=ts.length<64/\(∀d∈ts,hJ d)/\∀i j b a,i≠j->ts[i]? = some b->ts[j]? = some a->ltM b a=some (decide (κ i < κ j))
def iz:List My->List (List My)
 | []=>[]
 | .tuple d::r=>d::iz r
 | _::r=>iz r
theorem cu:∀ts,iz (ts.map .tuple)=ts
 | []=>rfl
 | d::r=>by rw[QL,iz,cu r]
open Classical in
def dD:List My->Option My
 | [.list ds]=>if ∃ts κ,ds=ts.map .tuple/\kq ts κ then some (.list<|(fy<|iz ds).map .tuple) else none
 | _=>none
def BJ (h:kq ts κ):dD [.list<|ts.map .tuple]=some (.list<|(fy ts).map .tuple):=by unfold dD;dsimp only;rw[QH #v[ts,κ,rfl,h],cu]
theorem su :∀{l},(∀q∈l,ltM q.2 p.2=some (decide (q.1<p.1)))->(cx p l).map Prod.snd=ui p.2 (l.map Prod.snd)
 | [],_=>rfl
 | q::r,h=>by
  have b:=h q QN;rw[cx,QL,ui];by_cases a:p.1<=q.1
  .rw[QH a,QK (by rw[b];intro z;have:=Rh<|QU z;lia)];rfl
  .rw[QK a,QH (by rw[b,Rg<|by lia]),QL,su λq c=>h q<|QG _ c]
theorem rB:∀{l},l.Pairwise (λp q=>ltM q.2 p.2=some (decide (q.1<p.1)))->(O8 l).map Prod.snd=fy (l.map Prod.snd)
 | [],_=>rfl
 | p::r,h=>by rw[Tu]at h;rw[O8,QL,fy,<-rB h.2];exact su λq a=>h.1 q<|(W9 r).mem_iff.mp a
def tN (h:kq ts κ):(O8<|((List.range ts.length).map κ).zip<|ts.map My.tuple).map Prod.snd=(fy ts).map .tuple:=by
 have e:((List.range ts.length).map κ).zip (ts.map My.tuple)=(((List.range ts.length).map κ).zip ts).map λq=>(q.1,My.tuple q.2):=by rw[List.zip_map_right];rfl
 rw[e,cB My.tuple,Rq];have d:(((List.range ts.length).map κ).zip ts).map Prod.snd=ts:=by refine List.map_snd_zip ?_;simp
 rw[show(Prod.snd ∘ λq:Int×List My=>(q.1,My.tuple q.2))=My.tuple ∘ Prod.snd from rfl,<-Rq,rB,d];rw[Uv];intro i j f b c;have a:j<ts.length:=by simpa using b
 simp only[List.getElem_zip,TN,Vq];exact h.2.2 j i _ _ (by lia) (QT a) (QT<|by lia)
theorem nj {K}:∀{ts:List (List My)} {zs},a8 K H (ts.map .tuple) zs->∀(i:Nat) z d,zs[i]? = some z->ts[i]? = some d->b8 K H (.tuple d) z
 | [],zs,h,i,z,d,_,e=>by simp at e
 | t::ts,zs,h,i,z,d,e1,e2=>by
  rw[QL]at h;simp only[a8]at h;obtain⟨x,r,rfl,b,a⟩:=h;cases i with
  | zero=>cases e1;cases e2;exact b
  | succ i=>exact nj a i z d (by simpa using e1) (by simpa using e2)
end
end L3
namespace L3
open PySem PySem.W PySem.Spec PyProof.Rows L2

section
abbrev vMro :List Xx:=[.type "ValueError",.type "Exception",.type "BaseException",.type "object"]
structure ECls (K:Frag) Wt C f:Prop where
 obj:∃nm q N bs hdct sn sub ab col dd k0 k1 k2 k3 k5,K.lookup C=some (excClassObj nm q C N bs (.ref Wt::vMro) hdct sn sub ab col dd k0 k1 k2 k3 k5 "ValueError.__new__")
 top:∃c0 dd cd sl,K.lookup Wt=some { cls:=c0,dict:=dd,data:=.cls cd,slots:=sl }/\nsOkIn K cd.ns=true/\nsIn K cd.ns "__init__" = some none
 init:findIn K (.ref C) "__init__" = some (some<|.ref f)
 fn:typeIn K (.ref f)=some (.type "function")
 call:specialIn K (.ref C) "__call__" = some (some<|.builtin "type.__call__")
 typ:instIn K (.ref C) (.type "type")=some true
 kp:keepIn K (.ref C)=true
 dict:(clsIn K C).any (·.hasDict)=true
 sa:findIn K (.ref C) "__setattr__" = some (some<|.builtin "object.__setattr__")
abbrev aJ (C t:Xy)(dx:Option Xy):XM:={ cls:=.ref C,dict:=dx,data:=.fields #[.ref t,.none,.none,.none,.bool false,.none] }
section
variable {K:Frag}{os:OsState}
def ECls.tail (c:ECls K Wt C f)(X:K.In h):OwnTail h vMro (.ref Wt::vMro):=by obtain⟨g,dd,e,d,l,a,b⟩:=c.top;exact .own (X _ _ l) (.of_isNs<|isNs_of_in X a) (nsMap_none_of_in X a b) .base
def wK (c:ECls K Wt C f)(X:K.In h)(hz:rest.length<=XI)
  (hq:codeAny (model prog w) (A.under<|.builtin "type.__call__" #v[.ref C::rest,[]]) (.call (.ref f) #v[.ref (h.objs.size+1)::rest,[]]) (InitBack (h.objs.size+1) R)
   #v[(h.push { cls:=.type "tuple",data:=.seq rest.toArray }).push<|aJ C h.objs.size none,g,d,t,os]) :
  codeAny (model prog w) A (.call (.ref C) #v[rest,[]]) R #v[h,g,d,t,os]:=by
 obtain⟨S,q,N,bs,x,O,B,ab,H,dd,Z,Y,W,V,U,lk⟩:=c.obj;have j:=X _ _ lk;have T:=c.tail X;have call:=looks_specialIn (M:=model prog w) X c.call;have l:=looks_instIn (M:=model prog w) X c.typ;have hi:=Vv (M:=model prog w) X c.init;have p:=PySem.F.excBase_ValueError;refine codeAny_of_tree ?_;show XR _ _ (callAny (.ref C) _) _ _ _;refine nd_load j ?_;show XR _ _ (callAny.viaDunder (.ref C) _) _ _ _;unfold callAny.viaDunder;refine QD<|call.at ?_;dsimp only;rw[tc_bind];refine QD<|QF<|QD<|QF ?_;refine QF (a:=Fin.again<|.call (.builtin "type.__call__") #v[.ref C::rest,[]]) #v[rfl,?_];refine codeAny_call_builtin_at (Code.quiet_builtin _<|by decide +kernel) entry_typeCall<|check_slot tc_kind tc_split l (tc_args _ _ _) ?_;unfold Builtin.«type.__call__»;have hm:Looks (model prog w) h (mroOf<|.ref C) (.ref C :: .ref Wt::vMro):=((Vu (part:=none) j).andThen .now).andThen .now;have u:Looks (model prog w) h (Bind.madeBy<|.ref C) (some "ValueError.__new__"):=λA Q E s k q=>by obtain⟨m,gg,G,L,P⟩:=s;exact wpAny_madeBy_exc (k _ _ j) q
 repeat (first | simp only[List.isEmpty_cons,Ro,RU] | with_reducible refine UY ?_ | lk)
 refine codeAny_call_builtin_code (Code.quiet_builtin _ p.quiet)<|wpAny_check_new_subT p T j ?_;refine codeAny_exc_new_subT p T j ?_ hz;generalize m:(h.push { cls:=.type "tuple",data:=.seq rest.toArray }).push (aJ C h.objs.size none)=h1 at hq ⊢;have y:∀b o,h.get? b=some o->h1.get? b=some o:=λb o z=>by rw[<-m];exact QE _<|QE _ z
 have i:h1.get? (h.objs.size+1)=some (aJ C h.objs.size none):=by rw[<-m];heap_get
 have n:K.In h1:=X.keeps y;have J:Looks (model prog w) h1 (typeOf<|.ref<|h.objs.size+1) (.ref C):=(Vu i).andThen .now;have D:mroIn K C (.ref C)=some true:=by unfold mroIn clsIn;rw[lk];simp
 have own:=looks_mroIn (M:=model prog w) n D;have F:=Vv (M:=model prog w) n c.init;have I:=bind_fn (M:=model prog w) n (.ref<|h.objs.size+1) c.fn;repeat (first | with_reducible refine UY ?_ | lk)
 refine Wf hq λr s2 z=>?_
 rcases r with e | (v | _ | _ | _) <;> first | exact z | exact z.elim | skip
 obtain⟨rfl,z⟩:=z;exact QF<|QF z
end
end

section
open Builtin Builtin.ObjectAttr
section
variable {K:Frag}{os:OsState}
def ECls.cls (c:ECls K Wt C f):∃cd,clsIn K C=some cd/\cd.mro = .ref C :: .ref Wt::vMro/\cd.hasDict=true:=by obtain⟨i,q,N,bs,b,h,d,o,g,dd,n,m,l,k,j,lk⟩:=c.obj;obtain⟨cd,a,e⟩:=any_some c.dict;refine#v[cd,a,?_,e];unfold clsIn at a;rw[lk]at a;cases a;rfl
def Gb (h h':XH)(e:Xy):Prop :=
 (∀b o,b≠e->(∀a c,h.get? e=some a->a.dict=some c->b≠c)->h.get? b=some o->h'.get? b=some o) /\
 ∀a,h.get? e=some a->∃d c,h'.get? e=some d/\d.cls=a.cls/\d.data=a.data/\d.slots=a.slots/\d.dict=some c/\(a.dict=some c\/(a.dict=none/\c=h.objs.size))
def Cj (c:ECls K Wt C f)(X:K.In h)(na:findIn K (.ref C) name=some none)(I:h.Inst e C mA)(hw:Within mA ns)(hl:ns.length<=1000)
  (hq:∀h' tk',h'.Inst e C (λy=>if y=name then some v else mA y)->Gb h h' e->R (.ok<|.ret .none) #v[h',g,d,tk',os]) :
  codeAny (model prog w) A (.call (.builtin "object.__setattr__") #v[[.ref e,.str name tk,v],[]]) R #v[h,g,d,t,os]:=by
 have u:=PySem.F.store_object;have SV:=PySem.F.store_ValueError;obtain⟨cd,O,j,n⟩:=c.cls;obtain⟨⟨cl,ab,dat,G⟩,a,s,m,W⟩:=I;subst s;have E:Looks (model prog w) h (typeOf<|.ref e) (.ref C):=(Vu a).andThen .now;have mr:mroIn K C (.type "object")=some true:=by unfold mroIn;rw[O,QX,j];rfl
 have F:Looks (model prog w) h (isInstance (.ref e)<|.type "object") true:=E.andThen<|looks_mroIn X mr;have hm:Looks (model prog w) h (mroOf<|.ref C) cd.mro:=(looks_clsIn X O).andThen .now;have H:=Vv (M:=model prog w) X na;refine Wp u.slot.plain u.entry<|@check_slot (model prog w) _ _ #v[h,g,d,t,os] "object.__setattr__" "object" "__setattr__" (.ref e) [.str name tk,v] [] _ u.kind u.split F (u.args (.ref e) (.str name tk) v) ?_;rw[osa_eq,refuse_eq];refine QD<|QD<|E.here<|QD<|hm.here ?_;rw[j,refuseLoop_ref,refuseLoop_ref,SV.passes];refine QF<|QD<|E.here<|QD<|H.here<|QD<|QF ?_;have U:=looks_clsIn (M:=model prog w) X O;refine QD<|QF<|QD<|QD<|wpAny_loadPart a<|QD<|U.here ?_;rw[n];simp only[Ro];rcases W with ⟨rfl,L⟩ | ⟨B,rfl,l,J⟩
 .rw[QK<|by simp[typeHasDict]];have N:=QJ a;have i:=QY N;refine QD<|wpAny_alloc'<|QD<|wpAny_update' (QE _ a)<|QF ?_;generalize hh1:(h.push { cls:=.type "dict",data:=.dict #[] }).update e (λo=>{ cls:=o.cls,dict:=some h.objs.size,data:=o.data,slots:=o.slots })=h1;have gd:h1.get? h.objs.size=some { cls:=.type "dict",data:=.dict #[] }:=by rw[<-hh1];exact(Sv _ _ _ _ i.symm).trans<|XH.get?_push_at rfl rfl
  have Y:h1.get? e=some { cls:=.ref C,dict:=some h.objs.size,data:=dat,slots:=G }:=by rw[<-hh1];refine RR _ (QE _ a) ?_;have fr:=(WQ.1 a).2;cases dat <;> first | rfl | exact fr
  have D:∀b o,b≠e->h.get? b=some o->h1.get? b=some o:=λb o x z=>by rw[<-hh1];exact(Sv _ _ _ _ x).trans<|QE _ z
  have e0:h1.Ns h.objs.size (λ_=>none):=#v[_,#[],_,gd,rfl,λz hz=>absurd hz (by simp),λ_=>rfl];refine QD (QF<|QD<|wpAny_nsSet1 (XH.Ns1.of_empty e0) λQ r s2=>?_);obtain⟨Z,S,T,k,p,q⟩:=r.count<|Within.cons name v Within.nil;refine QD (wpAny_lookBehind k (by rw[p];exact pastItsLine_dict<|QZ q<|by simp[Ry]) ?_);refine QF (hq Q _ #v[_,(s2.2 e i).trans Y,rfl,m,.inr #v[h.objs.size,rfl,i.symm,?_]] #v[λb o x _ z=>(s2.2 b<|QY<|QJ z).trans<|D b o x z,λV z=>?_])
  .have ef:(λy=>if y=name then some v else mA y) = λy=>if y=name then some v else none:=by funext y;rw[L y]
   rw[ef];exact r
  .rw[a]at z;cases z;exact#v[_,_,(s2.2 e i).trans Y,rfl,rfl,rfl,rfl,.inr #v[rfl,rfl]]
 .refine QF ?_;refine QD (QF<|QD<|wpAny_nsSet1 J λQ r s2=>?_);obtain⟨Z,S,T,k,p,q⟩:=r.count<|Within.cons name v hw;refine QD (wpAny_lookBehind k (by rw[p];exact pastItsLine_dict<|QZ q (by rw[QM,Ry];lia)) ?_);refine QF (hq Q _ #v[_,(s2.2 e l.symm).trans a,rfl,m,.inr #v[B,rfl,l,r]] #v[λb o x P z=>(s2.2 b<|P _ B a rfl).trans z,λV z=>#v[V,B,(s2.2 e l.symm).trans z,rfl,rfl,rfl,by rw[a]at z;cases z;rfl,.inl (by rw[a]at z;cases z;rfl)]])
end
end
section
open Builtin Builtin.ObjectAttr
section
variable {K:Frag}{os:OsState}
def ou (c:ECls K Wt C f)(X:K.In h)(na:findIn K (.ref C) name=some none)(I:h.Inst e C mA)(hw:Within mA ns)(hl:ns.length<=1000)
  (hq:∀h' tk',h'.Inst e C (λy=>if y=name then some v else mA y)->Gb h h' e->Q () #v[h',g,d,tk',os]) :
  XR (model prog w) A (setAttr (.ref e) name v) Q E #v[h,g,d,t,os]:=by
 have p:=PySem.F.store_object;obtain⟨⟨r,o,dat,k⟩,m,a,b,n⟩:=id I;subst a;have j:Looks (model prog w) h (typeOf<|.ref e) (.ref C):=(Vu m).andThen .now;have l:=Vv (M:=model prog w) X c.sa;have i:=p.slot.bind<|.ref e;refine QD<|wpAny_mkText ?_;refine QD<|QD<|QD<|j.here<|l.here<|Sq ?_;rw[i];refine QD<|QF<|QD<|UY ?_;refine Cj c X na I hw hl λh' tk' q L=>?_
 exact QF<|QF<|hq h' tk' q L
end
end

section
inductive InitBody:List Str->List XF->Prop
 | nil:InitBody [] []
 | pass {pos:Pos}:InitBody [] [.Pass pos]
 | cons {p:Str} {ps:List Str} {b:List XF} {x y z pos:Pos}:InitBody ps b->InitBody (p::ps) (.Assign [.Attribute (.Name "self" x) p y] (.Name p z) pos::b)
def gP (m:Str->Option Xx):List Str->(Str->Option Xx)->Str->Option Xx
 | [],M=>M
 | p::ps,M=>gP m ps λy=>if y=p then m p else M y
structure ISt (hb:XH) L e C t m mA ns (h:XH):Prop where
 keep:∀b o,hb.get? b=some o->b≠e->h.get? b=some o
 fr:h.Ns L m
 obj:∃dct,h.get? e=some (aJ C t dct)/\((dct=none/\∀n,mA n=none)\/∃dx,dct=some dx/\dx≠e/\dx≠L/\hb.objs.size<=dx/\h.Ns1 dx mA)
 wi:Within mA ns
 sz:hb.objs.size<=h.objs.size
section
variable {K:Frag}{e L:Xy}{os:OsState}
def ISt.inst (I:ISt hb L e C t0 m mA ns h):h.Inst e C mA:=by
 obtain⟨f,b,z⟩:=I.obj;refine#v[_,b,rfl,λc q=>(nomatch q),?_];rcases z with z | ⟨d,rfl,a,_,_,n⟩
 .exact .inl z
 .exact .inr #v[d,rfl,a,n]
def ISt.put (I:ISt hb L e C t0 m mA ns h)(he:e<hb.objs.size)(hL:hb.objs.size<=L)(J:h'.Inst e C (λy=>if y=name then some v else mA y))(lf:Gb h h' e) :
  ISt hb L e C t0 m (λy=>if y=name then some v else mA y) (name::ns) h':=by
 obtain⟨O,u,z⟩:=I.obj;obtain⟨K,k,A,F,E,s1,p,N⟩:=lf.2 _ u;have t:=I.fr.lt;have s:=QJ u;have j:k≠e/\k≠L/\hb.objs.size<=k:=by
  rcases N with q | ⟨q,rfl⟩
  .rcases z with ⟨z,_⟩ | ⟨d,z,G,x,w,_⟩
   .rw[z]at q;cases q
   .rw[z]at q;cases q;exact#v[G,x,w]
  .exact#v[Rr s,Rr t,I.sz]
 have i:∀f d,h.get? e=some f->f.dict=some d->d≠L/\hb.objs.size<=d:=λf d g a=>by
  rw[u]at g;cases g;rcases z with ⟨z,_⟩ | ⟨Q,z,G,x,w,_⟩
  .rw[z]at a;cases a
  .rw[z]at a;cases a;exact#v[x,w]
 have M:h'.Ns1 k (λy=>if y=name then some v else mA y):=by
  obtain⟨o,g,_,_,a⟩:=J;rw[A]at g;cases g;rcases a with ⟨a,_⟩ | ⟨d,a,_,H⟩
  .rw[p]at a;cases a
  .rw[p]at a;cases a;exact H
 refine#v[λb o g a=>lf.1 b o a (λf d n l=>QY<|QO (QJ g) (i f d n l).2)<|I.keep b o g a,?_,#v[some k,?_,.inr #v[k,rfl,j.1,j.2.1,j.2.2,M]],Within.cons name v I.wi,?_]
 .obtain⟨o,B,D,q,r⟩:=I.fr;exact#v[o,B,D,lf.1 L o (Rr<|QO he hL) (λf d n l=>(i f d n l).1.symm) q,r]
 .obtain⟨c,dd,R,P⟩:=K;subst F E s1 p;exact A
 .have:L<h'.objs.size:=by obtain⟨o,B,D,q,r⟩:=I.fr;exact QJ (lf.1 L o (Rr<|QO he hL) (λf d n l=>(i f d n l).1.symm) q)
  exact RJ<|Ra hL this
def nN (c:ECls K Wt C f)(X:K.In hb)(he:e<hb.objs.size)(hKe:K.lookup e=none)(hL:hb.objs.size<=L)(hk:env.scope.kind = .function)(hl:env.locals=L)(hself:m "self" = some (.ref e)/\env.kindOf "self" = some .local) :
  ∀ps body mA ns h tk,InitBody ps body->ISt hb L e C t0 m mA ns h->ns.length+ps.length<=1000 ->
  (∀p∈ps,findIn K (.ref C) p=some none/\nDb p/\env.kindOf p=some .local/\∃v,m p=some v) ->
  (∀h' tk' ns',ISt hb L e C t0 m (gP m ps mA) ns' h'->Q .next #v[h',g,d,tk',os])->XR (model prog w) A (execs body env) Q E #v[h,g,d,tk,os]
 | [],_,mA,ns,h,tk,.nil,I,_,_,q=>Tw<|q h tk ns I
 | [],_,mA,ns,h,tk,.pass,I,_,_,q=>VU<|wpAny_Pass<|Tw<|q h tk ns I
 | p::ps,_,mA,ns,h,tk,.cons B,I,hz,hp,q=>by
  obtain⟨n,l,kp,v,j⟩:=hp p QN;rw[QM]at hz;have XK:=λb o z=>I.keep b o (X b o z) λy=>by rw[y,hKe]at z;cases z
  have k:h.Ns env.locals m:=by rw[hl];exact I.fr
  refine VU<|plainObj_wpAny_Assign_Attribute<|wpAny_Name (UX hk kp k j<|wpAny_Name<|UX hk hself.2 k hself.1 ?_) l;refine ou c XK n I.inst I.wi (by lia) λh' tk' J r=>?_
  refine nN c X he hKe hL hk hl hself ps _ _ (p::ns) h' tk' B (I.put he hL J r) (by rw[QM];lia) (λx s=>hp x<|QG _ s) λt a i u=>q t a i ?_
  rw[gP];rw[j];exact u
end
end
section
structure EIni K C f ps:Prop where
 fn:∃(qual:Str) (params:Arguments) (body:List XF) (scope:XD) (oc:Xx) (od:Option Xy) (kV doc pm:Xx) (an:Option Xy) (dr ct:Xx) (osl:Array (Option Xx)),
  K.lookup f=some #v[oc,od,.func<|fnOf "__init__" qual params body scope .none kV doc pm an dr ct,osl]/\codeIn K dr qual=true/\FnScope (("self":Str)::ps) (("self":Str)::ps) scope/\(∀p∈("self":Str)::ps,scope.names.lookup p=some .local)/\InitBody ps body /\
  ∀us,us.length=ps.length+1->bindArgs (fnOf "__init__" qual params body scope .none kV doc pm an dr ct) #v[us,[]]=pure ((("self":Str)::ps).zip us)
 na:∀p∈ps,findIn K (.ref C) p=some none/\nDb p
 few:ps.length<=100
structure EMade (h h':XH) (e C:Xy) mF:Prop where
 keeps:∀b o,h.get? b=some o->h'.get? b=some o
 new:h.objs.size<=e
 obj:∃t dct,h'.get? e=some (aJ C t dct)/\((dct=none/\∀n,mF n=none)\/∃dx,dct=some dx/\dx≠e/\h.objs.size<=dx/\h'.Ns1 dx mF)
def bf:List Str->List Xx->Str->Option Xx
 | p::ps,v::vs,y=>if y=p then some v else bf ps vs y
 | _,_,_=>none
theorem mJ (m):∀ps M y,gP m ps M y=if y∈ps then m y else M y
 | [],M,y=>by simp[gP]
 | p::ps,M,y=>by
  rw[gP,mJ m ps];by_cases h:y∈ps
  .simp[h]
  .by_cases a:y=p
   .subst a;simp[h]
   .simp[h,a]
theorem mT:∀{ps} {vs} {i:Nat} {p} {v},ps.Nodup->ps[i]? = some p->vs[i]? = some v->bf ps vs p=some v
 | [],_,_,_,_,_,h,_=>by simp at h
 | _::_,[],_,_,_,_,_,h=>by simp at h
 | q::ps,w::vs,0,p,v,nd,a,c=>by
  cases a;cases c;simp[bf]
 | q::ps,w::vs,i+1,p,v,nd,a,c=>by
  have b:=Tx.1 nd;have a:=a;have c:=c;have d:p≠q:=λz=>b.1 (by rw[<-z];exact RA a)
  rw[bf,QK d];exact mT b.2 a c
theorem lX:∀{ps} {vs} {y},y ∉ ps->bf ps vs y=none
 | [],_,_,_=>by simp[bf]
 | _::_,[],_,_=>by simp[bf]
 | q::ps,w::vs,y,h=>by rw[bf,QK<|λz=>h<|by simp[z]];exact lX λz=>h<|QG _ z
section
variable {K:Frag}{os:OsState}
def xk (c:ECls K Wt C f)(i:EIni K C f ps)(X:K.In h)(lim:h.NoLimit)(hr:Room 2 A)(hl:us.length=ps.length)
  (hq:∀h' tk' e,EMade h h' e C (bf ps us)->Q (.ref e) #v[h',g,d,tk',os]):XR (model prog w) A (call (.ref C) us) Q E #v[h,g,d,tk,os]:=by
 have V:=i.few;refine UY (wK c X (by rw[Ry];lia) ?_);obtain⟨k,G,D,a,oc,od,kV,ad,pm,an,l,ct,ab,lk,T,S,r,IB,bd⟩:=i.fn;generalize hh:(h.push { cls:=.type "tuple",data:=.seq us.toArray }).push (aJ C h.objs.size none)=hb;have J:∀b o,h.get? b=some o->hb.get? b=some o:=λb o z=>by rw[<-hh];exact QE _<|QE _ z
 have u:hb.get? (h.objs.size+1)=some (aJ C h.objs.size none):=by rw[<-hh];heap_get
 have s:hb.objs.size=h.objs.size+2:=by rw[<-hh,RG,RG]
 have Y:=X.keeps J;have U:K.lookup (h.objs.size+1)=none:=by
  cases q:K.lookup (h.objs.size+1) with
  | none=>rfl
  | some o=>exact absurd (QJ<|X _ _ q)<|Va.2<|Vg _
 have P:(Xx.ref (h.objs.size+1)::us).length=ps.length+1:=by simp[hl]
 have O:=hr.make C us [];refine codeAny_call_function O.depth (Y _ _ lk) rfl S.co S.gen rfl (codeRec_of Y T)<|BindsTo.of_eq (bd _ P) _ _ _ _ ?_;refine wpAny_newFunctionEnv_cells S.kind (λy n=>.inl<|r y.1 (Wg n).1) λenv he s1 x=>?_
 subst he;refine#v[lim.keeps λb o z=>x.toInCall.keep b o<|J b o z,codeAny_func ?_];obtain⟨B,M,rfl,R⟩:=x.done;have Z:=x.toInCall.ns;have nd:=Tx.1 S.nd;have N:∀p∈("self":Str)::ps,(envOfC k a hb.objs.size f l).kindOf p=some .local:=λp m=>r p m
 have bg:∀{i} {p} {v},(("self":Str)::ps)[i]? = some p->(Xx.ref (h.objs.size+1)::us)[i]? = some v->bindL (envOfC k a hb.objs.size f l).kindOf ((("self":Str)::ps).zip (Xx.ref (h.objs.size+1)::us)) (λ_=>none) p=some v :=
  λB h2=>eB S.nd B h2<|N _<|RA B
 have F:∀p∈ps,∃v,bf ps us p=some v/\bindL (envOfC k a hb.objs.size f l).kindOf ((("self":Str)::ps).zip (Xx.ref (h.objs.size+1)::us)) (λ_=>none) p=some v:=λp m=>by
  obtain⟨j,hj,e⟩:=List.mem_iff_getElem.1 m;have e1:ps[j]? = some p:=by rw[QT hj,e]
  have e2:us[j]? = some (us[j]'(by simp[*] )):=QT _;exact#v[_,mT nd.2 e1 e2,bg (i:=j+1) e1 e2]
 have t:=R;refine nN c Y (by rw[s];exact Sx _) U (QP _) S.kind rfl #v[bg (i:=0) rfl rfl,N _ QN] ps D (λ_=>none) [] B M IB
  #v[λb o z _=>t b o z,Z,#v[none,t _ _ u,.inl #v[rfl,λ_=>rfl]],Within.nil,RJ Z.lt] (by rw[RV,Rx];exact QZ V<|by decide) (λp m=>#v[(i.na p m).1,(i.na p m).2,N p<|QG _ m,let #v[v,_,z]:=F p m;#v[v,z]]) λh' tk' ac I'=>?_
 refine#v[rfl,hq h' tk' _ #v[λb o z=>I'.keep b o (J b o z)<|QY<|SK<|QJ z,Vg _,?_]];have em:gP (bindL (envOfC k a hb.objs.size f l).kindOf ((("self":Str)::ps).zip (Xx.ref (h.objs.size+1)::us))<|λ_=>none) ps (λ_=>none)=bf ps us:=by
  funext y;rw[mJ];by_cases n:y∈ps
  .obtain⟨v,I,H⟩:=F y n;rw[QH n,I,H]
  .rw[QK n,lX n]
 obtain⟨W,ge,z⟩:=I'.obj;rw[em]at z;refine#v[_,W,ge,?_];rcases z with z | ⟨dx,I,H,_,z4,z5⟩
 .exact .inl z
 .exact .inr #v[dx,I,H,QZ (by rw[s];exact Nat.le_add_right _ 2) z4,z5]
end
end

section
section
variable {M:Model}{K:Frag}
def vm (c:ECls K Wt C f)(hh:A.handled=none)
  (h:XR M A x (λv s1=>∃e t dct,v = .ref e/\K.In s1.heap/\s1.heap.get? e=some (aJ C t dct)/\E (.ref e) s1) E s) :
  XR M A (raiseStmt env (some x) none) Q E s:=by
 refine QD (Rj h (λv s1 k=>?_) λ_ _ z=>z);obtain⟨e,t,dct,rfl,X,l,q⟩:=k;obtain⟨u,p,N,bs,b,o,j,H,m,dd,F,D,B,y,w,lk⟩:=c.obj;have i:=X _ _ lk;have a:(Xx.ref C :: .ref Wt::vMro).contains (.type "BaseException")=true:=rfl;obtain⟨G,g,d,n,r⟩:=s1;repeat (first | with_reducible refine wpAny_loadPart_at l ?_ | with_reducible refine wpAny_loadPart_at i ?_ | (with_reducible refine wpAny_isSubtype_exc i ?_;rw[a]) | wp_step)
 exact wpAny_raiseNew_none hh q
end
section

def wD (W:List V->Hp->Prop)(ps:List Str)(t:TA):TS:=λ_ b H=>t b H λa c=>a.length=ps.length/\W a c
def HC (X:Cx)(C:Xy)(ps:List Str)(W:List V->Hp->Prop):Prop:=∀a (d:St) H s e c f us b,
 Inv X a d H s->s0 b us->EMade s.heap c e C (bf ps us)->W b H->X.xe (.ref e) { s with heap:=c,toks:=f }
def vW (c:ECls X.K Wt C f)(i:EIni X.K C f ps)(hr:Room 2 X.A)(hg:Gl X x)(hm:X.mg x=some (.ref C))(hA:HC X C ps W)(ha:PA X (a::es) t)
  (hdb:autoParam (nDb x) eL) (he:autoParam (XJ (a::es) X.env=(false,eval a X.env)::XJ es X.env) eH) (hpl:autoParam ((XO cp<|XJ es X.env).any (·.1)=false) eH) :
  PS X (.Raise (some<|.Call (.Name x p) (a::es) [] cp) none pos) (wD W ps t):=by
 intro b s m H D I h;rw[arm_exec_Raise];refine QD<|Tg<|vm c hr.hd ?_;refine QD (Rj ?_ (λv s2 q=>QD<|Tg<|QF q) λ_ _ z=>z);refine Ub<|bH I hg hm ?_ hdb;refine PySem.W.callWith_K I.ok.mod.kin c.kp (thn (ha cp b s m H _ I h) λus s1 #v[n,y,j,r,q]=>#v[j.kIn,?_]) he hpl;obtain⟨E,g,d,A,B⟩:=s1;refine xk c i j.kIn j.nolimit hr (by show us.length=_;rw[<-r.length];exact q.1) λu k e M=>?_
 obtain⟨o,l,w,z⟩:=M.obj;exact#v[e,o,l,rfl,j.kIn.keeps M.keeps,w,hA b m y _ e u k us n j r M q.2]
end
end

section
def Err (h:XH)(e C:Xy)(dct:Option Xy)(tb:Xx):Prop:=∃a,h.get? e=some { cls:=.ref C,dict:=dct,data:=.fields a }/\a[1]? = some tb
def Tbk (h:XH)(T:Xy)(fl:Xx):Prop:=∃o a,h.get? T=some o/\o.data = .fields a/\a[3]? = some fl
structure Turned (fr S:List Xy) (h h':XH):Prop where
 keep:∀b o,b ∉ fr->b ∉ S->h.get? b=some o->h'.get? b=some o
 slot:∀b o,b ∉ S->h.get? b=some o->∃sl,h'.get? b=some { o with slots:=sl }
 size:h.objs.size<=h'.objs.size
def Turned.trans (a:Turned fr S h h1)(b:Turned fr S' h1 h2):Turned fr (S++S') h h2 where
 keep:=λc o f e z=>b.keep c o f (λq=>e<|Rp _ q) (a.keep c o f (λq=>e<|SX _ q) z)
 slot:=λc o n z=>by obtain⟨j,i⟩:=a.slot c o (λq=>n<|SX _ q) z;obtain⟨d,g⟩:=b.slot c _ (λq=>n<|Rp _ q) i;exact#v[d,g]
 size:=QZ a.size b.size
def jb :Turned fr [a] h (h.update a g) where
 keep:=λb o _ n z=>(Sv _ _ _ _<|by simpa using n).trans z
 slot:=λb o n z=>#v[o.slots,(Sv _ _ _ _<|by simpa using n).trans z]
 size:=Nat.le_of_eq (VX _ _ _).symm
section
variable {M:Model}{s:Xz}
def jn (hfr:A.frames=some (env::outer))(hl:s.heap.FunFrames base (env::outer))(hf:env.frame=some L)(he:Err s.heap e C dct tb)
  (q:∀h' T,s.heap.objs.size<=T->Err h' e C dct (.ref T)->Tbk h' T (rawInt L)->Turned (frs (env::outer)) [e] s.heap h'->Q () { s with heap:=h' }) :
  XR M A (do let a <-frameOf env;let pl <-entryPlaceOf L hadNext;let b <-EntryCells.newEntry head a .none (rawInt L) .none pl;setField (.ref e) 1 b) Q E s:=by
 obtain⟨d,t,G⟩:=he;have g:=(Ve.1 G).1;have k:e ∉ frs (env::outer):=λz=>by obtain⟨_,o,r,B⟩:=hl.mem z;rw[t]at r;cases r;exact B d rfl
 refine QD (wpAny_frameOf_fun hfr hl hf λc #v[v,p,u]=>QD<|wpAny_entryPlaceOf λpl h=>?_);refine QD<|RI ?_<|h.sizeOk5 _ _ _ _ _;have j:=(p e k).trans t;generalize hts:([head,Xx.ref L,Xx.none,rawInt L,Xx.none]++(if pl.isEmpty then List.replicate 6 Xx.none else pl)).toArray=ts;have w:ts[3]? = some (rawInt L):=by rw[<-hts];first | (simp;done) | (rcases h with rfl | ⟨_,_,_,_,_,_,_,rfl⟩ <;> simp)
 generalize hO:({ cls:=Xx.type "traceback",dict:=none,data:=Data.fields ts }:XM)=O;have i:=QE O j;refine Ux i rfl g ?_;have m:=Rr<|QJ j;have f:=v;refine q _ c.objs.size (Nat.le_of_eq f.symm) #v[d.setIfInBounds 1<|.ref c.objs.size,?_,by simp[g]] #v[O,ts,?_,by rw[<-hO],w] #v[λb o F D z=>?_,λb o n z=>?_,?_]
 .exact RR (XM.mapFields (·.setIfInBounds 1 (Xx.ref c.objs.size))) i rfl
 .refine(Sv _ _ _ _ m).trans<|QV c ?_;rw[<-hO];rfl
 .have l:b≠e:=by simpa using D
  exact(Sv _ _ _ _ l).trans<|QE O<|(p b F).trans z
 .have l:b≠e:=by simpa using n
  obtain⟨x,y⟩:=u b o z;exact#v[x,(Sv _ _ _ _ l).trans<|QE O y]
 .rw[VX,RG,f];exact Vg _
def pM (hfr:A.frames=some (env::outer))(hl:s.heap.FunFrames base (env::outer))(hf:env.frame=some L)(he:Err s.heap e C dct .none)
  (q:∀h' T,s.heap.objs.size<=T->Err h' e C dct (.ref T)->Tbk h' T (rawInt L)->Turned (frs (env::outer)) [e] s.heap h'->Q () { s with heap:=h' }):XR M A (noteFrame (.ref e) env) Q E s:=by obtain⟨c,a,b⟩:=id he;unfold noteFrame;simp only[hf];refine QD<|RF a rfl b ?_;rw[QK<|show ¬((Xx.none != Xx.none)=true) by decide];exact jn hfr hl hf he q
def eD (hfr:A.frames=some (env::outer))(hl:s.heap.FunFrames base (env::outer))(hf:env.frame=some L)(he:Err s.heap e C dct (.ref T))(ht:Tbk s.heap T .none)(hTe:T≠e)
  (q:∀h' T',s.heap.objs.size<=T'->Err h' e C dct (.ref T')->Tbk h' T' (rawInt L)->Turned (frs (env::outer)) [T,e] s.heap h'->Q () { s with heap:=h' }):XR M A (noteFrame (.ref e) env) Q E s:=by
 obtain⟨m,g,h⟩:=id he;obtain⟨r,n,a,c,f⟩:=ht;unfold noteFrame;simp only[hf];refine QD<|RF g rfl h ?_;rw[QH<|show(Xx.ref T != Xx.none)=true by simp];refine QD<|RF a c f ?_;rw[QK<|show ¬((Xx.none == rawInt L)=true) by simp[rawInt]];refine QD<|Ux a c (Ve.1 f).1 ?_;have d:Turned (frs (env::outer)) [T] s.heap (s.heap.update T (XM.mapFields (·.setIfInBounds 3 Xx.none))):=jb;refine jn hfr (hl.of_keeps λb o z p=>?_) hf #v[m,(Sv _ _ _ _ hTe.symm).trans g,h] λh' T' l k j i=>q h' T' (QZ d.size l) k j<|d.trans i
 refine#v[o,(Sv _ _ _ _ λy=>?_).trans z,rfl];rw[y,a]at z;cases z;exact p n c
def Q3 (he:Err s.heap e C dct (.ref T))(ht:Tbk s.heap T fl)(hTe:T≠e)
  (q:∀h',Err h' e C dct (.ref T)->Tbk h' T .none->Turned [] [T] s.heap h'->Q () { s with heap:=h' }):XR M A (setFlight (.ref e) none) Q E s:=by obtain⟨g,d,f⟩:=he;obtain⟨j,h,c,a,i⟩:=ht;have b:=(Ve.1 i).1;refine QD<|RF d rfl f ?_;rw[QH<|show(Xx.ref T != Xx.none)=true by simp];refine Ux c a b (q _ #v[g,(Sv _ _ _ _ hTe.symm).trans d,f] #v[_,h.setIfInBounds 3 .none,RR _ c<|Wb<|Uc a _,Uc a _,by simp[b]] jb)
end
end

section
section
variable {M:Model}{s:Xz}
def Turned.off (a:Turned fr S h h1)(b:Turned [] [T] h1 h2)(hT:h.objs.size<=T):Turned fr S h h2 where
 keep:=λc o g f z=>b.keep c o (by simp) (by simpa using QY (QO (QJ z) hT))<|a.keep c o g f z
 slot:=λc o n z=>by obtain⟨e,d⟩:=a.slot c o n z;exact#v[e,b.keep c _ (by simp) (by simpa using QY (QO (QJ z) hT)) d]
 size:=QZ a.size b.size
def sS (h:XH)(e C:Xy)(dct:Option Xy)(S:List Xy):Prop:=(Err h e C dct .none/\S=[e])\/∃T,Err h e C dct (.ref T)/\Tbk h T .none/\T≠e/\S=[T,e]
def sS.lt (a:sS h e C dct S):e<h.objs.size:=by rcases a with ⟨⟨b,g,_⟩,_⟩ | ⟨T,⟨b,g,_⟩,_⟩ <;> exact QJ g
def uQ (hfr:A.frames=some (env::outer))(hl:s.heap.FunFrames base (env::outer))(hf:env.frame=some L)(ha:sS s.heap e C dct S)
  (q:∀h' T,s.heap.objs.size<=T->T≠e->Err h' e C dct (.ref T)->Tbk h' T .none->Turned (frs (env::outer)) S s.heap h'->Q () { s with heap:=h' }):XR M A (leaving env<|.ref e) Q E s:=by
 have c:=ha.lt;rcases ha with ⟨k,rfl⟩ | ⟨T,k,ht,l,rfl⟩
 .refine QD (pM hfr hl hf k λn T b g f d=>?_);have a:=Rr<|QO c b;exact Q3 g f a λm j i h=>q m T b a j i<|d.off h b
 .refine QD (eD hfr hl hf k ht l λn o b g f d=>?_);have a:=Rr<|QO c b;exact Q3 g f a λm j i h=>q m o b a j i<|d.off h b
end
def iq (ok:HOk P w H h)(t:Turned fr S h h')(n1:∀b∈fr,H b=none)(n2:∀b∈S,H b=none):HOk P w H h':=λb u z=>by
 refine(ok b u z).stay (λc v a q=>t.keep c v (λy=>?_) (λy=>?_) q) (λ_ q=>q) λ_ _ q=>q
 .rcases a with rfl | a
  .rw[n1 _ y]at z;cases z
  .rw[n1 _ y]at a;cases a
 .rcases a with rfl | a
  .rw[n2 _ y]at z;cases z
  .rw[n2 _ y]at a;cases a
def HF (lo:Nat)(dct:Option Xy)(mF:Str->Option Xx)(S:List Xy)(H:Hp)(h:XH):Prop :=
 (dct=none/\∀n,mF n=none)\/∃a,dct=some a/\a ∉ S/\lo<=a/\H a=none/\h.Ns1 a mF
def Fly (lo:Nat)(e C:Xy)(mF:Str->Option Xx)(H:Hp)(h:XH):Prop :=
 ∃dct T,Err h e C dct (.ref T)/\Tbk h T .none/\T≠e/\lo<=e/\lo<=T/\H e=none/\H T=none/\HF lo dct mF [T,e] H h
def CXe (P:XA)(w:XB):CXT:=λouter H s E f a=>∃(e:Xy) (b:Hp) (C:Xy) (d:List Str) (us:List Xx) (c:List V),f = .ref e/\a.os=s.os/\AllBare a.gens/\Un (frs outer) [] H b s.heap a.heap/\HOk P w b a.heap /\
 s0 c us/\Fly s.heap.objs.size e C (bf d us) b a.heap/\E (.ref C) (some e) (upd b e<|.xd<|d.zip c)
structure Goes (X:Cx) E:Prop where
 stk:X.stack=X.env::X.outer
 fr:X.env.frame=some X.env.locals
 ex:X.ex=[]
 xe:∀e s',XR (model X.prog X.w) X.A (leaving X.env e) (λ_ s''=>CXe X.prog X.w X.outer X.H₀ X.s₀ E e s'') (λe' s''=>CXe X.prog X.w X.outer X.H₀ X.s₀ E e' s'') s'->X.xe e s'
def U6 {K:Frag} :
  Goes (P4 (CXe P w) P w K mg base N qual scope f cd A outer s H E) E:=#v[rfl,rfl,rfl,λ_ _ h=>h]
section
variable {σ:St}
def Hf (G:Goes X E)(I:Inv X π σ H s)(ha:sS s.heap e C dct S)(hS:∀b∈S,X.s₀.heap.objs.size<=b/\H b=none/\b ∉ frs X.stack)
  (hF:HF X.s₀.heap.objs.size dct (bf ps us) S H s.heap) (hd:∀dx,dct=some dx->dx ∉ frs X.stack) (r:s0 vs us) (q:E (.ref C) (some e) (upd H e<|.xd<|ps.zip vs)):X.xe (.ref e) s:=by
 refine G.xe _ _ ?_;have h:=I.ok.frames;have hl:=I.stack;have a:=I.stkFree;rw[G.stk]at h hl a hd hS;have d:e∈S:=by rcases ha with ⟨_,rfl⟩ | ⟨T,_,_,_,rfl⟩ <;> simp
 have F:=ha;refine uQ h hl G.fr ha λK T i w v u g=>?_
 have c:∀b o,X.s₀.heap.get? b=some o->b ∉ S:=λb o y z=>absurd (QJ y)<|Va.2 (hS b z).1
 have A:∀b o,X.s₀.heap.get? b=some o->b ∉ X.fs->b ∉ frs (X.env::X.outer):=λb o y n z=>by
  unfold frs at z;rw[TK,G.fr]at z;rcases QQ.1 z with rfl | z
  .exact absurd (QJ y)<|Va.2 I.ok.above
  .exact n z
 have bs:=I.base;rw[G.ex]at bs;refine#v[e,H,C,ps,us,vs,rfl,I.os,I.bare,#v[λb o y n f _=>g.keep b o (A b o y f) (c b o y)<|bs.keep b o y n f<|by simp,λb o y n f _=>?_,λb o y n _=>bs.free b o y n (by simp),λb o y _=>?_,bs.tups,bs.frzs,bs.tbls],iq I.hok g a λb f=>(hS b f).2.1,r,
  #v[dct,T,v,u,w,(hS e d).1,QZ I.sz i,(hS e d).2.1,I.hok.fresh i,?_],q]
 .obtain⟨x,k⟩:=bs.slot b o y n f (by simp);obtain⟨l,j⟩:=g.slot b _ (c b o y) k;exact#v[l,j]
 .obtain⟨J,k⟩:=bs.there b o y (by simp);obtain⟨x,j⟩:=g.slot b _ (c b o y) k;exact#v[_,j]
 .rcases hF with hF | ⟨dx,rfl,t,D,B,p⟩
  .exact .inl hF
  .have m:=p.ns.lt;refine .inr #v[dx,rfl,λz=>?_,D,B,p.at λo y=>g.keep dx o (hd dx rfl) t y];simp only[QQ,Sg,Uo]at z;rcases z with z | z
   .exact absurd m (by rw[z];exact Va.2 i)
   .exact t (by rw[z];exact d)
def AF (G:Goes X E):HC X C ps λvs H=>∀e,H e=none->E (.ref C) (some e) (upd H e<|.xd<|ps.zip vs):=λπ σ H s e n k us vs I r M w=>by
 obtain⟨t,dct,p,z⟩:=M.obj;have q:Inv X π σ H { s with heap:=n,toks:=k }:=I.kept M.keeps;have c:∀b,s.heap.objs.size<=b->b ∉ frs X.stack:=λb g m=>by obtain⟨_,o,l,_⟩:=I.stack.mem m;exact absurd (QJ l)<|Va.2 g
 refine Hf G q (.inl #v[#v[_,p,rfl],rfl]) (λb g=>?_) ?_ (λj a=>?_) r<|w e<|I.hok.fresh M.new
 .rw[Rn.1 g];exact#v[QZ I.sz M.new,I.hok.fresh M.new,c e M.new]
 .rcases z with z | ⟨j,f,i,d,h⟩
  .exact .inl z
  .exact .inr #v[j,f,by simpa using i,QZ I.sz d,I.hok.fresh d,h]
 .rcases z with z | ⟨u,f,i,d,h⟩
  .rw[z.1]at a;cases a
  .rw[f]at a;cases a;exact c _ d
end
end
section
open Builtin Builtin.ObjectAttr
structure ECat K C:Prop where
 ga:findIn K (.ref C) "__getattribute__" = some (some<|.builtin "BaseException.__getattribute__")
 gn:findIn K (.ref C) "__getattr__" = some none
 mb:mroIn K C (.type "BaseException")=some true
 mo:mroIn K C (.type "object")=some true
 ca:findIn K (.ref C) "__class__" = some (some<|.builtin "object.__class__")
 cg:specialIn K (.builtin "object.__class__") "__get__" = some (some<|.builtin "getset_descriptor.__get__")
 ct:takesIn K (.builtin "object.__class__")=some true
section
variable {A:XC}{K:Frag}{s:Xz}{tk:Tok}
def qb (c:ECat K C)(X:K.In s.heap)(I:InstAt s.heap e oe C od)(hf:findObj K C od name=some r)(hr:r ≠ .missing)
  (h:∀A',XR (model prog w) A' (match r with | .value v=>ret v | .bind g a=>bindTo g a (.ref e) (.ref C) | .missing=>ret .none) (λfin s'=>match fin with | .done z=>R (.ok z) s' | _=>False) (λx s'=>R (.error x) s') s) :
  codeAny (model prog w) A (.call (.builtin "BaseException.__getattribute__") #v[[.ref e,.str name tk],[]]) R s:=by
 obtain⟨o,g,d,t,p⟩:=s;have B:=WS;have m:=I.type (M:=model prog w);have y:=looks_find (M:=model prog w) X I hf;have u:=looks_mroIn (M:=model prog w) X c.mb;refine Wp B.ga.plain PySem.F.entry_bexc_ga ?_;have q:builtinKind "BaseException.__getattribute__" = some .slot:=by decide +kernel
 have j:splitId "BaseException.__getattribute__" = some ("BaseException","__getattribute__"):=by decide +kernel
 have l:=PySem.F.args_bexc_ga (.ref e)<|.str name tk;have inst:Looks (model prog w) o (isInstance (.ref e)<|.type "BaseException") true:=m.andThen u;simp only[checkBuiltinCall,q,j];refine QD<|inst.at ?_;simp only[To];unfold argsOk at l;generalize Manifest.signature? "BaseException.__getattribute__" = sg at l ⊢;suffices i:XR (model prog w) A.in1 (Builtin.«object.__getattribute__» { pos:=[Xx.ref e,Xx.str name tk] }) (λfin s'=>match fin with | .done f=>R (.ok f) s' | .again c'=>c'.quiet=true/\codeAny (model prog w) A c' R s') (λe s'=>R (.error e) s') #v[o,g,d,t,p] by
  cases sg with
  | none=>exact QF i
  | some b =>have k:Bind.checkArgs "BaseException.__getattribute__" b { pos:=[Xx.ref e,Xx.str name tk] }=pure ():=l;show XR _ _ (Bind.checkArgs "BaseException.__getattribute__" b { pos:=[Xx.ref e,Xx.str name tk] }) _ _ _;rw[k];exact QF i
 refine QD<|QF<|QD<|QF<|QD<|m.at<|QD<|y.at ?_;have n:=h A.in1;cases r with
 | value v =>
  refine Rj n (λfin s' z=>?_) λ_ _ z=>z
  cases fin <;> first | exact z | exact z.elim
 | bind g a =>
  refine Rj n (λfin s' z=>?_) λ_ _ z=>z
  cases fin <;> first | exact z | exact z.elim
 | missing=>exact absurd rfl hr
def FQ {fill}(c:ECat K C)(X:K.In s.heap)(I:InstAt s.heap e oe C od)(hf:findObj K C od name=some r)(hr:r ≠ .missing)
  (h:∀A',XR (model prog w) A' (match r with | .value v=>ret v | .bind g a=>bindTo g a (.ref e) (.ref C) | .missing=>ret .none) (λfin s'=>match fin with | .done (.ret z)=>handedIn z=true/\Q z s' | _=>False) (λ_ _=>False) s) :
  XR (model prog w) A (getAttrBy (.ref e) (.str name tk) fill expr) Q E s:=by
 obtain⟨k,g,d,t,j⟩:=s;have o:=WS;have i:=I.type (M:=model prog w);have n:=Vv (M:=model prog w) X c.ga;have m:=Vv (M:=model prog w) X c.gn;have l:=o.ga.bind<|.ref e;refine Sq<|QD<|i.at<|QD<|n.at ?_;unfold getAttrByItsOwn hookBefore callGetattribute;refine QD<|m.at<|QD<|Uq<|Sq ?_;rw[QK (show ¬((expr&&onTheHeap (Xx.builtin "BaseException.__getattribute__"))=true) by cases expr <;> decide)];unfold boundAndCalled;rw[l];refine QD<|QF<|UY ?_;refine qb c X I hf hr λA'=>Rj (h A') (λfin s' z=>?_) λ_ _ z=>z.elim
 cases fin with
 | again _=>exact z.elim
 | done f =>
  cases f with
  | ret b =>show XR _ _ (handedOut b) _ _ _;rw[handedOut_of z.1];exact QF z.2
  | _=>exact z.elim
def uJ (c:ECat K C)(X:K.In s.heap)(I:InstAt s.heap e oe C od)(hf:findObj K C od name=some (.value v))(hv:handedIn v=true)(h:∀tk,Q v { s with toks:=tk }) :
  XR (model prog w) A (getAttr (.ref e) name expr) Q E s:=by refine QD<|wpAny_mkText ?_;exact FQ c X I hf (by simp) λa=>QF #v[hv,h _]
end
end
section
structure Has (X:Cx) e C (fs:List (Str×V)):Prop where
 ob:∃oe od,(e,oe)∈X.pn/\oe.cls = .ref C/\notCls oe=true /\
  ((oe.dict=none/\od=none/\∀n,fs.lookup n=none)\/∃dx o,oe.dict=some dx/\od=some o/\(dx,o)∈X.pn/\∀n v,fs.lookup n=some v->∃u,m6 v u/\lookIn n o=some (some u))
 cat:ECat X.K C
 hd:hasDictIn X.K C=true
def qL {σ:St}(I:Inv X π σ H s)(h:p∈X.pn):s.heap.get? p.1=some p.2:=(I.pin p<|SX _ h).1
def yh (r:m6 v u):handedIn u=true:=by cases v <;> first | (cases(r);rfl) | (obtain⟨t,z⟩:=r;rw[z];rfl)
section
variable {σ:St}
def Has.inst (h:Has X e C fs)(I:Inv X π σ H s):∃oe od,InstAt s.heap e oe C od/\∀n v,fs.lookup n=some v->findIn X.K (.ref C) n=some none->∃u,m6 v u/\findObj X.K C od n=some (.value u):=by
 obtain⟨oe,od,l,k,j,d⟩:=h.ob;refine#v[oe,od,#v[qL I l,k,j,?_],λn v z i=>?_]
 .rcases d with ⟨c,a,_⟩ | ⟨p,o,c,a,b,_⟩
  .rw[c,a];trivial
  .rw[c,a];exact qL I b
 .rcases d with ⟨_,_,b⟩ | ⟨p,o,c,a,b,f⟩
  .rw[b]at z;cases z
  .obtain⟨u,g,m⟩:=f n v z;rw[a];exact#v[u,g,findObj_own h.hd i rfl m]
def JL (K:Frag)(C:Xy)(fs:List (Str×V))(e:Xy)(i:Nat)(f:Str):TE:=λσ H Q=>σ[i]? = some (some<|.ref e)/\findIn K (.ref C) f=some none/\∃v,fs.lookup f=some v/\Q v H
def Fm (h:Has X e C fs)(hN:X.N[i]? = some x)(hv:Vis X.env.scope x)(hb:autoParam (XU (.Name x px) f X.env (eval (.Name x px) X.env)=eval (.Name x px) X.env) eH)
  (hd:autoParam (nDb x) eL) (hcd:autoParam (nCd x) eL):PE X (.Attribute (.Name x px) f pos) (JL X.K C fs e i f):=by intro π s σ H Q I j;obtain⟨m,g,v,l,q⟩:=j;refine Dh hb (thn (P5 hN hv hd hcd π s σ H (λy t=>y = .ref e/\t=H) I #v[_,m,rfl,rfl]) ?_ );rintro u s1 ⟨y,r,a,d,o,p⟩;subst o p;cases(d);obtain⟨z,A,J,k⟩:=h.inst a;obtain⟨w,b,n⟩:=k f v l g;exact uJ h.cat a.kIn J n (yh b) λc=>#v[v,r,a.tok c,b,q]
end
end
variable {tsu:Xy->Xy->List (Str×V)->TS}
section
section
variable {σ:St}
def bC (I:Inv X π σ H s)(t:Turned (frs X.stack) S s.heap h')
  (hS:∀b∈S,H b=none/\(b∈X.ex\/X.s₀.heap.objs.size<=b)/\b≠X.env.locals/\(∀x c,X.env.cells.lookup x=some c->c≠b)/\∀p∈X.pn++π,p.1≠b):Inv X π σ H { s with heap:=h' } :=
 I.call' rfl #v[λb o z n a d=>t.keep b o a d z,λb o z n a d=>t.slot b o d z,λ_ _ _ n _=>n,λb o z d=>(let #v[e,q]:=t.slot b o d z;#v[_,q]),λ_ _ z=>z,λ_ _ _ z=>z,λb f z=>#v[#[],by simp[z]]]
  (iq I.hok t I.stkFree λb a=>(hS b a).1) I.bare λb a=>(hS b a).2
abbrev Z9 (X:Cx)(pn:List (Xy×XM))(xe:Xx->Xz->Prop):Cx:={ X with pn:=pn,xe:=xe }
abbrev B4 (X:Cx)(e:Xy)(pn:List (Xy×XM))(xe:Xx->Xz->Prop):Cx:={ X with A:=X.A.mark<|some<|.ref e,calm:=false,pn:=pn,xe:=xe }
def Gj (k:X.Ok):(Z9 X pn xe).Ok:=#v[k.mod,k.kind,k.glob,k.blt,k.above,k.inj,k.has,k.cab,k.hd,k.frames,k.stk,k.exf,k.bs,k.bsz,k.noex,k.exfs,k.funs,k.frf]
def xm (k:X.Ok):(B4 X e pn xe).Ok:=#v[k.mod,k.kind,k.glob,k.blt,k.above,k.inj,k.has,k.cab,(λz=>nomatch z),k.frames,k.stk,k.exf,k.bs,k.bsz,k.noex,k.exfs,k.funs,k.frf]
def rV (I:Inv X π σ H s)(hp:∀p∈pn++pins',s.heap.get? p.1=some p.2/\H p.1=none/\p.1≠X.env.locals/\p.1 ∉ X.fs/\∀v,p.2.data ≠ .cell v):Inv (Z9 X pn xe) pins' σ H s :=
 #v[Gj I.ok,I.os,I.bare,I.base,I.loc,I.cell,I.free,I.freeC,hp,I.hok,I.len]
def K3 (k:X.Ok)(I:Inv (Z9 X pn xe) pins' σ H s)(hp:∀p∈X.pn++π,p∈pn):Inv X π σ H s :=
 #v[k,I.os,I.bare,I.base,I.loc,I.cell,I.free,I.freeC,λp z=>I.pin p<|SX _<|hp p z,I.hok,I.len]
def bU (I:Inv X π σ H s)(hp:∀p∈pn++pins',s.heap.get? p.1=some p.2/\H p.1=none/\p.1≠X.env.locals/\p.1 ∉ X.fs/\∀v,p.2.data ≠ .cell v):Inv (B4 X e pn xe) pins' σ H s :=
 #v[xm I.ok,I.os,I.bare,I.base,I.loc,I.cell,I.free,I.freeC,hp,I.hok,I.len]
def fu (k:X.Ok)(I:Inv (B4 X e pn xe) pins' σ H s)(hp:∀p∈X.pn++π,p∈pn):Inv X π σ H s :=
 #v[k,I.os,I.bare,I.base,I.loc,I.cell,I.free,I.freeC,λp z=>I.pin p<|SX _<|hp p z,I.hok,I.len]
def uM {M}(I:Inv X π σ H s)(hN:X.N.Nodup)(hi:X.N[i]? = some x)(hx:X.env.scope.names.lookup x=some .local)
  (h:∀s',Inv X π (σ.set i none) H s'->Q () s'):XR M A (do bindName X.env x .none;unbindBehindTheSuite X.env x pos) Q E s:=by
 obtain⟨m,B,hl⟩:=id I.loc;have d:(X.env.scope.kind == .class||(X.env.scope.kind == .module&&X.env.locals != X.env.globals))=false:=by rw[I.ok.kind];rfl
 refine wpAny_nameGoes_keeps hx B d λU v g same=>h _ ?_
 have a:∀b o,X.s₀.heap.get? b=some o->b≠X.env.locals:=λb o z=>QY<|QO (QJ z) I.ok.above
 obtain⟨T,_,_,R,_⟩:=id B;refine#v[I.ok,I.os,I.bare,#v[λb o z n t hx=>(same.2 b<|a b o z).trans<|I.base.keep b o z n t hx,λb o z n t hx=>?_,I.base.free,λb o z hx=>?_,I.base.tups,I.base.frzs,I.base.tbls],
  #v[_,g,λj y D C f S=>?_],λy c z=>?_,I.free,I.freeC,λp P=>?_,λb K z=>?_,by simpa using I.len]
 .obtain⟨G,q⟩:=I.base.slot b o z n t hx;exact#v[G,(same.2 b<|a b o z).trans q]
 .obtain⟨L,q⟩:=I.base.there b o z hx;exact#v[L,(same.2 b<|a b o z).trans q]
 .by_cases r:j=i
  .subst r;have l:j < σ.length:=by rw[I.len];exact(QR.1 hi).1
   rw[QW l]at f;cases f
  .rw[QS<|RM r]at f;obtain⟨F,J,q⟩:=hl j y D C f S;refine#v[F,J,?_];rcases q with ⟨k,q⟩ | ⟨k,c,q,z⟩
   .have O:y≠x:=λz=>r<|gQ hN C<|z▸hi
    exact .inl #v[k,by simp[O,q]]
   .exact .inr #v[k,c,q,z.sameBut same<|I.cne y c q]
 .obtain⟨u,q⟩:=I.cell y c z;exact#v[u,q.sameBut same<|I.cne y c z]
 .obtain⟨q,n,w,N,dd⟩:=I.pin p P;exact#v[(same.2 p.1 w).trans q,n,w,N,dd]
 .refine(I.hok b K z).stay (λc u e q=>(same.2 c ?_).trans q) (λ_ q=>q) λ_ _ q=>q
  rintro rfl;rcases e with rfl | e
  .rw[I.free]at z;cases z
  .rw[I.free]at e;cases e
theorem pP:∀{ps} {vs} {us} {n} {v},s0 vs us->(ps.zip vs).lookup n=some v->∃u,m6 v u/\bf ps us n=some u
 | [],_,_,_,_,_,h=>by simp at h
 | _::_,[],_,_,_,_,h=>by simp at h
 | p::ps,w::vs,_,n,v,.cons r t,h=>by
  rw[UK,RN]at h;by_cases a:n=p
  .subst a;rw[beq_self_eq_true n]at h;cases h;exact#v[_,r,by simp[bf]]
  .rw[SL.2 a]at h;obtain⟨u,b,c⟩:=pP t h;exact#v[u,b,by rw[bf,QK a];exact c]
variable {ok:Xy->Prop}
def ES (hstk:X.stack=X.env::X.outer)(hfr:X.env.frame=some X.env.locals)(hN:X.N.Nodup)(hi:X.N[i]? = some x)(hx:X.env.scope.names.lookup x=some .local)
  (hg:Gl X wt) (hW:X.mg wt=some (.ref Wt)) (hwd:nDb wt) (hok:∀C,ok C->ECat X.K C/\hasDictIn X.K C=true/\exmOne X.K (.ref C) (.ref Wt)=some true)
  (hsuite:∀e C fs pn xe,ok C->Has (B4 X e pn xe) e C fs->PSs (B4 X e pn xe) (b₀::suite) (tsu e C fs))
  (hE:∀C e fs H',E (.ref C) (some e) (upd H' e<|.xd fs)->H' e=none->ok C/\tsu e C fs { nx:=λO' H'=>D.nx (O'.set i none) H',rt:=λ_ _=>False } (σ.set i<|some<|.ref e) H')
  (I:Inv X π σ H s) (z:CXe X.prog X.w X.stack H s E ev s') :
  XR (model X.prog X.w) X.A (noteFrame ev X.env) (λ_ s2=>XR (model X.prog X.w) X.A (setFlight ev none) (λ_ s3=>XR (model X.prog X.w) X.A (handleBy ev X.env [.ExceptHandler (some<|.Name wt pw) (some x) (b₀::suite) hpos]) (SP X π D) X.xe s3) X.xe s2) X.xe s':=by
 obtain⟨e,H',C,ps,us,vs,rfl,os,U,un,N,r,⟨dct,T,y1,y2,y3,Y,y5,y6,y7,y8⟩,q⟩:=z;have V:Inv X π σ H' s':=I.call' (ch:=[]) os un N U λb k=>absurd k (by simp)
 obtain⟨K,ts⟩:=hE C e _ H' q y6;obtain⟨S,P,hm⟩:=hok C K;have hl:=V.stack;have O:=V.ok.frames;rw[hstk]at hl O;have d:∀b,s.heap.objs.size<=b->(b∈X.ex\/X.s₀.heap.objs.size<=b)/\b≠X.env.locals/\(∀x c,X.env.cells.lookup x=some c->c≠b)/\∀p∈X.pn++π,p.1≠b:=λb k =>
  #v[.inr<|QZ I.sz k,Rr<|QO I.lt k,λy c hc=>by obtain⟨v,o,ho,_⟩:=I.cell y c hc;exact QY<|QO (QJ ho) k,λp j=>QY<|QO (QJ (I.pin p j).1) k]
 have big:s.heap.objs.size<=s'.heap.objs.size:=QZ Y (RJ (by obtain⟨_,g,_⟩:=y1;exact QJ g));refine eD (base:=X.base) O hl hfr y1 y2 y3 λh1 T1 W z2 z3 z4=>?_
 rw[<-hstk]at z4;have Q:T1≠e:=Rr (QO (by obtain⟨_,g,_⟩:=y1;exact QJ g) W);have I1:Inv X π σ H' { s' with heap:=h1 }:=bC V z4 λb k=>by
  simp only[QQ,Sg,Uo]at k;rcases k with rfl | rfl
  .exact#v[y7,d _ y5]
  .exact#v[y6,d _ Y]
 have ac:H' T1=none:=V.hok.fresh W;have t:∀{Z k:XH},Inv X π σ H' { s' with heap:=Z }->Turned [] [T1] Z k->Inv X π σ H' { s' with heap:=k }:=λ{Z k} Ia tu=>bC (s:={ s' with heap:=Z }) Ia #v[λb o _ L zz=>tu.keep b o (by simp) L zz,tu.slot,tu.size] λb k=>by rw[Rn.1 k];exact#v[ac,d _<|QZ big W]
 refine Q3 (s:={ s' with heap:=h1 }) z2 z3 Q λh2 w1 w2 w3=>?_
 have I2:=t I1 w3;refine wpAny_handleBy_cons (codeAny_handlers_test ?_) (by intro q;cases q);have J2:Inv (B4 X e [] λ_ _=>False) [] σ H' { s' with heap:=h2 }:=bU I2 (by simp);refine bH J2 hg hW ?_ hwd;have LT:Looks (model X.prog X.w) h2 (typeOf<|.ref e) (.ref C):=by obtain⟨_,g,_⟩:=w1;exact(Vu g).andThen .now
 refine(exm_one I2.kIn LT hm).at ?_;refine codeAny_handlers_suite_as (Q3 w1 w2 Q λB v1 v2 v3=>?_);have I3:=t I2 v3;obtain⟨fv,ge,g1⟩:=v1;have pinned:=I3.pin;have w:B.get? e=some { cls:=.ref C,dict:=dct,data:=.fields fv }/\H' e=none/\e≠X.env.locals/\e ∉ X.fs/\∀v,(Data.fields fv) ≠ .cell v:=#v[ge,y6,(d e Y).2.1,I.nofs Y,λ_ z=>nomatch z];have go:∀pn,(∀p∈X.pn++π,p∈pn)->(∀p∈pn++[],B.get? p.1=some p.2/\H' p.1=none/\p.1≠X.env.locals/\p.1 ∉ X.fs/\∀v,p.2.data ≠ .cell v)->Has (B4 X e pn λ_ _=>False) e C (ps.zip vs) ->
   XR (model X.prog X.w) (X.A.mark<|some<|.ref e) (storeName X.env x<|.ref e) (λ_ J=>XR (model X.prog X.w) (X.A.mark<|some<|.ref e) (execs (b₀::suite) X.env) (λf G=>XR (model X.prog X.w) X.A (do bindName X.env x .none;unbindBehindTheSuite X.env x hpos) (λ_ F=>SP X π D f F) X.xe G) (λ_ _=>False) J) (λ_ _=>False) { s' with heap:=B }:=λpn am al ap=>by
  have I4:Inv (B4 X e pn λ_ _=>False) [] σ H' { s' with heap:=B }:=bU I3 al;refine V7 (X:=B4 X e pn λ_ _=>False) (v:=.ref e) I4 hN hi (.inl hx) rfl (λs4 I5=>?_)<|.inr hx;refine Rj (hsuite e C _ pn (λ_ _=>False) K ap [] s4 _ H' _ I5 ts) (λf s5 m=>?_) λ_ _ z=>z
  cases f with
  | next =>obtain⟨O',H2,I6,q2⟩:=m;exact uM (fu V.ok I6 am) hN hi hx λs6 I7=>#v[_,H2,I7,q2]
  | ret v=>obtain⟨_,_,_,_,_,m⟩:=m;exact m.elim
  | brk=>obtain⟨_,_,_,m⟩:=m;exact m.elim
  | cont=>obtain⟨_,_,_,m⟩:=m;exact m.elim
 suffices hs:∃pn,(∀p∈X.pn++π,p∈pn)/\(∀p∈pn++[],B.get? p.1=some p.2/\H' p.1=none/\p.1≠X.env.locals/\p.1 ∉ X.fs/\∀v,p.2.data ≠ .cell v)/\Has (B4 X e pn λ_ _=>False) e C (ps.zip vs) by obtain⟨pn,a,b,c⟩:=hs;exact Rj (go pn a b c) (λ_ _ z=>Rj z (λ_ _ z=>z) λ_ _ z=>z.elim) λ_ _ z=>z.elim
 rcases y8 with ⟨rfl,y8⟩ | ⟨l,rfl,n1,L,n3,n4⟩
 .refine#v[(e,{ cls:=.ref C,dict:=none,data:=.fields fv })::(X.pn++π),(λp j=>QG _ j),(λp j=>?_),#v[#v[_,none,QN,rfl,rfl,.inl #v[rfl,rfl,λn=>?_]],S,P]]
  .rw[Sd]at j;rcases QQ.1 j with rfl | j
   .exact w
   .exact pinned p j
  .cases q3:(ps.zip vs).lookup n with
   | none=>rfl
   | some v =>
    obtain⟨u,_,z⟩:=pP r q3
    rw[y8]at z;cases z
 .obtain⟨A,R,ad⟩:=jM n4;have an:=n4.ns.lt;have nT:=QY<|QO an W;have ab:l ∉ frs X.stack:=λhm=>by obtain⟨_,o,ho,_⟩:=I.stack.mem hm;exact absurd (QJ ho)<|Va.2 L
  have g3:=v3.keep l A (by simp) (by simpa using nT) (w3.keep l A (by simp) (by simpa using nT)<|z4.keep l A ab n1 R);have a0:∀v,A.data ≠ .cell v:=λv z=>by obtain⟨o',es,ep,g',d',_⟩:=n4;rw[R]at g';cases g';rw[d']at z;cases z
  refine#v[(e,{ cls:=.ref C,dict:=some l,data:=.fields fv })::(l,A)::(X.pn++π),(λp j=>QG _<|QG _ j),(λp j=>?_),#v[#v[_,some A,QN,rfl,rfl,.inr #v[l,A,rfl,rfl,QG _ QN,λn v z=>?_]],S,P]]
  .rw[Sd]at j;rcases QQ.1 j with rfl | j
   .exact w
   .rcases QQ.1 j with rfl | j
    .exact#v[g3,n3,(d l L).2.1,I.nofs L,a0]
    .exact pinned p j
  .obtain⟨u,ru,zu⟩:=pP r z;exact#v[u,ru,by rw[ad,zu]]
end
end
section
def bZ (nm:Str)(fs:List My):My:=.dict [(.str nm,.tuple fs)]
def W4:My->Option (Str×List My)
 | .dict [(.str nm,.tuple fs)]=>some (nm,fs)
 | _=>none
def qk (h:W4 d=some (nm,fs)):d=bZ nm fs:=by
 unfold W4 at h;split at h
 .cases h;rfl
 .cases h
def AI :W4 (bZ nm fs)=some (nm,fs):=rfl
def psT (nm:Str):List Str:=if nm = "NoPaper" then["word","number"] else if nm = "NoRest" then["word"] else if nm = "TooMany" then["word"] else if nm = "NoHouse" then["word"] else if nm = "NoComer" then["number"] else[]
def WE (mg:Str->Option Xx)(E:XK):Str->List V->Hp->Prop:=λa b H=>∀C,mg a=some (.ref C)->∀e,H e=none->E (.ref C) (some e) (upd H e<|.xd<|(psT a).zip b)
section
def xE (K:Frag)(W:Str->List V->Hp->Prop)(G:GF)(B0:List Xy)(H0:Hp)(F:FS)(D:Ends):Out->Prop
 | .rt d=>sR K G B0 H0 F D (.rt d)/\∀b fs,W4 d=some (b,fs)->∀a H,Kp (n5 K G) H0 H->FAt K G H F->a8 K (hid H B0) fs a->W b a H
 | o=>sR K G B0 H0 F D o
def zf (K:Frag)(W:Str->List V->Hp->Prop)(ts:TS)(m:DE->M Out):Prop:=∀G d b E F a H D r c,Sit K G d b E F a H->m E F=some (r,c)->xE K W G d b c D r->ts D a H
structure SsX K W X st ts m:Prop where
 ps:PS X st ts
 ok:zf K W ts m
structure SssX K W X sts ts m:Prop where
 ps:PSs X sts ts
 ok:zf K W ts m
variable {K:Frag}{st:XF}{mt:DE->M Out}
def zp (h:xE K W G B0 H0 F D o):sR K G B0 H0 F D o:=by cases o <;> first | exact h | exact h.1
def vX (h:TSd K t mt):zf K W t mt:=λG d b E F a H D r c S e q=>h G d b E F a H D r c S e<|zp q
def PS.nox (h:PS X.nox st t):PS X st t:=λπ s d H D I e=>by
 refine Rj (h π s d H D (I.wish _) e) (λf g z=>?_) λ_ _ z=>z.elim
 cases f with
 | next=>obtain⟨a,c,b,q⟩:=z;exact#v[a,c,Inv.unwish b,q]
 | brk=>obtain⟨a,c,b,q⟩:=z;exact#v[a,c,Inv.unwish b,q]
 | cont=>obtain⟨a,c,b,q⟩:=z;exact#v[a,c,Inv.unwish b,q]
 | ret v=>obtain⟨x,c,a,b,r,q⟩:=z;exact#v[x,c,a,Inv.unwish b,r,q]
def nh (h:Ss K X.nox st t mt):SsX K W X st t mt:=#v[PS.nox h.ps,vX h.ok]
def Q8 (h:Sss K X.nox sts t mt):SssX K W X sts t mt:=#v[h.ps.nox,vX h.ok]
def G0 (h1:SsX K W X st t mt)(h2:SssX K W X rest u mu):SssX K W X (st::rest) (qF t u) (mSq mt mu):=#v[D5 h1.ps h2.ps,λG g c E F h H D r l S e q=>by
 obtain⟨⟨o,f⟩,i,e⟩:=bS9 e;refine h1.ok G g c E F h H _ o f S i ?_;cases o with
 | nx b=>exact λa k j=>h2.ok G g c b f a k D r l j e q
 | rt d=>cases e;exact q
 | bk b=>cases e;exact q
 | ct b=>cases e;exact q]
def R5 (h1:SsX K W X st t mt):SssX K W X [st] t mt:=#v[R4 h1.ps,h1.ok]
def cV (hc:Et K X.nox c tt mc)(ha:SssX K W X x t mt)(hb:SssX K W X y u mu):SsX K W X (.If c x y pos) (Bp tt t u) (mIf mc mt mu):=#v[mK hc.pt.nox ha.ps hb.ps,λG k i E F a H D r j S e q=>by
 obtain⟨⟨b,d⟩,l,e⟩:=bS9 e;obtain⟨B,s,m,I⟩:=S.ex;refine hc.ok G B E F a H _ b d I l λh f g=>?_
 cases b with
 | true=>exact ha.ok G k i E d a h D r j (S.step f g) e q
 | false=>exact hb.ok G k i E d a h D r j (S.step f g) e q]
def O5 (nm:Str)(ms:DE->M (List My)):DE->M Out:=λE F=>(ms E F).bind λp=>if p.1.length=(psT nm).length then some (.rt<|bZ nm p.1,p.2) else none
def PA.nox {t} (h:PA X.nox es t):PA X es t:=λd π s a H Q I c=>by
 refine Rj (h d π s a H Q (I.wish _) c) (λg i z=>?_) λ_ _ z=>z.elim
 obtain⟨b,f,e,r,q⟩:=z;exact#v[b,f,Inv.unwish e,r,q]
def O7 (nm)(G:Goes X E)(cl:ECls X.K Wt C f)(ini:EIni X.K C f (psT nm))(hr:Room 2 X.A)(hm:X.mg nm=some (.ref C))(ha:Ea K X.nox (a::es) ta ms)(hg:autoParam (Gl X nm) eH)
  (hdb:autoParam (nDb nm) eL) (he:autoParam (XJ (a::es) X.env=(false,eval a X.env)::XJ es X.env) eH) (hpl:autoParam ((XO cp<|XJ es X.env).any (·.1)=false) eH) :
  SsX K (WE X.mg E) X (.Raise (some<|.Call (.Name nm p) (a::es) [] cp) none pos) (wD (λvs H=>∀e,H e=none->E (.ref C) (some e) (upd H e<|.xd<|(psT nm).zip vs)) (psT nm) ta) (O5 nm ms) :=
 #v[vW cl ini hr hg hm (AF G) (PA.nox ha.pa) hdb he hpl,λG o m E F d H D r n S e q=>by
  obtain⟨⟨c,k⟩,i,e⟩:=bS9 e;obtain⟨B,s,l,I⟩:=S.ex;split at e
  .rename_i hl;cases e;refine ha.ok G B E F d H _ c k I i λvs j g h b=>#v[?_,?_]
   .rw[b.length];exact hl
   .exact q.2 nm c AI vs j (S.kp.trans g) h (b.same<|bD s) C hm
  .cases e]
end
end
section
section
def spX (K:Frag)(mg:Str->Option Xx)(n:Nat)(f:List DV->M My):Sp:=λe H Q E=>∃G B F c d g,e.length=n/\(∀b∈n5 K G,b∈B)/\BOk H B/\FAt K G H F/\lT K G B H c e/\f c F=some (d,g) /\
 (∀v a,Kp (n5 K G) H a->FAt K G a g->b8 K (hid a B) d v->Q v a) /\
 ∀h fs,W4 d=some (h,fs)->∀e a,Kp (n5 K G) H a->FAt K G a g->a8 K (hid a B) fs e->WE mg E h e a
def CalleeX (P:XA)(w:XB)(K:Frag)(mg:Str->Option Xx)(base:XH)(x:Str)(k:Nat)(ps:List Str)(sp:Sp):Prop :=
 ∃f a,FnOk P w K mg base (CXe P w) k f a ps sp/\mg x=some (.ref f)/\keepIn K (.ref f)=true/\cQ K a ps []
variable {K:Frag}{st:XF}
def gv (Fn:Fun K x qual st f fd)(S:FnScope N ps (defScope st))
  (hbody:∀dr A outer s H E,Room k (A.deeper<|envOfC qual (defScope st) s.heap.objs.size f dr) ->
   ∃ts,SssX K (WE mg E) (P4 (CXe P w) P w K mg base N qual (defScope st) f dr A outer s H E) (defBody st) ts m):FnOk P w K mg base (CXe P w) (k+1) f fd ps (spX K mg ps.length<|G1 N m):=by
 obtain⟨Z,Y,kV,U,X,an,dr,ct,y,rfl,lk,j⟩:=Fn.ex;refine DX lk j S (λg H Q E h=>?_) λA outer s H g Q E C h=>?_
 .obtain⟨G,B,F,a,d,W,hl,_⟩:=h;exact hl
 .obtain⟨G,B,F,a,d,W,hl,O,bk,L,J,D,q,u⟩:=h;obtain⟨ts,b⟩:=hbody dr A outer s H E C;refine#v[ts,b.ps,?_];obtain⟨⟨o,V⟩,T,e⟩:=bS9 D;refine b.ok G B H (G3 N a) F (L2.W6 N g) H _ o V (jt O bk L J) T ?_;cases o with
  | rt d'=>cases e;exact#v[λv c i n l=>q v c i n l,λz fs R g c i n l=>u z fs R g c i n l]
  | nx r=>cases e;exact λt c p=>q _ c p.kp (by obtain⟨B,_,_,I⟩:=p.ex;exact I.fd) b8.non
  | bk r=>cases e
  | ct r=>cases e

def tAt (σ0:St)(t:TE):TE:=λa H Q=>a = σ0/\t a H Q
def nr {σ0:St}(C:CalleeX X.prog X.w X.K X.mg X.base x k ps sp)(hr:Room k X.A)(hg:Gl X x)(hx:∀π H s ev s',Inv X π σ0 H s->CXe X.prog X.w X.stack H s E ev s'->X.xe ev s')(ha:PA X (e::es) tl)
  (hdb:nDb x) (he:XJ (e::es) X.env=(false,eval e X.env)::XJ es X.env) (hpl:(XO pos<|XJ es X.env).any (·.1)=false) :
  PE X (.Call (.Name x p) (e::es) [] pos) (tAt σ0<|aQ sp [] E tl):=by
 obtain⟨f,t,G,m,kp,b⟩:=C;intro π s j H Q I #v[c,h];subst c;refine Ub<|bH I hg m ?_ hdb;refine callWith_K I.ok.mod.kin kp (thn (ha pos π s j H _ I h) λus s1 #v[l,i,a,r,q]=>#v[a.kIn,?_]) he hpl;have g:=r.append .nil;have hl:(us++[]).length=ps.length:=by rw[<-g.length];exact G.len _ _ _ _ q
 refine UY (Wf (G.run X.A X.stack s1 i #v[us,[]] _ _ Q E hr a.env0 (b s1 us a.kIn hl) g q) λn s' d=>?_);cases n with
 | error ev=>exact hx π i s1 ev s' a d
 | ok o =>
  cases o with
  | ret u=>exact a.after d
  | _=>exact d.elim
def jH (h:b8 K H d v)(e:W4 d=some z):False:=by obtain⟨a,fs⟩:=z;rw[qk e]at h;simp only[bZ,b8]at h
end
end
section
section
variable {tb:XK->St->TS}
def By (i:Nat)(ok:Xy->Prop)(tsu:Xy->Xy->List (Str×V)->TS)(D:Ends)(σ:St):XK:=λf c d=>∃C e fs a,f = .ref C/\c=some e/\d=upd a e (.xd fs)/\a e=none/\ok C /\
 tsu e C fs { nx:=λb a=>D.nx (b.set i none) a,rt:=λ_ _=>False } (σ.set i<|some<|.ref e) a
def Ak (h:By i ok tsu D σ (.ref C) (some e) (upd H' e<|.xd fs))(he:H' e=none):ok C/\tsu e C fs { nx:=λO' H'=>D.nx (O'.set i none) H',rt:=λ_ _=>False } (σ.set i<|some<|.ref e) H':=by
 obtain⟨q,p,c,o,n,m,d,l,k,j⟩:=h;cases n;cases m;have g:fs=c:=by have z:=congrFun d e;rw[i8,i8]at z;cases z;rfl
 have f:H'=o:=funext λb=>by
  by_cases a:b=e
  .rw[a,he,l]
  .have z:=congrFun d b;rwa [f9 a,f9 a]at z
 subst g f;exact#v[k,j]
def ED (hstk:X.stack=X.env::X.outer)(hfr:X.env.frame=some X.env.locals)(hN:X.N.Nodup)(hi:X.N[i]? = some x)(hx:X.env.scope.names.lookup x=some .local)
  (hg:Gl X wt) (hW:X.mg wt=some (.ref Wt)) (hwd:nDb wt) (hok:∀C,ok C->ECat X.K C/\hasDictIn X.K C=true/\exmOne X.K (.ref C) (.ref Wt)=some true)
  (hsuite:∀e C fs pn xe,ok C->Has (B4 X e pn xe) e C fs->PSs (B4 X e pn xe) (b₀::suite) (tsu e C fs))
  (hbody:∀E (σ0:St) pn xe,(∀pins' H s ev s',Inv (Z9 X pn xe) pins' σ0 H s->CXe X.prog X.w X.stack H s E ev s'->xe ev s')->PSs (Z9 X pn xe) body (tb E σ0)) :
  PS X (.Try body [.ExceptHandler (some<|.Name wt pw) (some x) (b₀::suite) hpos] [] [] pos) (λD σ H=>tb (By i ok tsu D σ) σ D σ H):=by
 intro π s σ H D I h;refine wpAny_Try_except ?_;refine Rj (hbody (By i ok tsu D σ) σ (X.pn++π) _ (λpins' d s1 ev s' J z=>ES hstk hfr hN hi hx hg hW hwd hok hsuite (λC e fs c=>Ak) (K3 I.ok J λp b=>b) z) [] s σ H D (rV I<|by simpa using I.pin) h) (λf s1 z=>?_) (λ_ _ z=>z);cases f with
 | next=>obtain⟨a,c,J,q⟩:=z;exact Tw #v[a,c,K3 I.ok J λp b=>b,q]
 | brk=>obtain⟨a,c,J,q⟩:=z;exact#v[a,c,K3 I.ok J λp b=>b,q]
 | cont=>obtain⟨a,c,J,q⟩:=z;exact#v[a,c,K3 I.ok J λp b=>b,q]
 | ret v=>obtain⟨y,c,a,J,r,q⟩:=z;exact#v[y,c,a,K3 I.ok J λp b=>b,r,q]
end
end
section
section
variable {K:Frag}
def SitE.hole (I:SitE K G B E F σ H)(h:E[i]? = some none)(v):SitE K G B E F (σ.set i v) H :=
 #v[I.fd,I.fB,I.bk,by rw[Se];exact I.ln,λj x e=>by
  have a:i≠j:=λz=>by rw[<-z,h]at e;cases e
  rw[QS a];exact I.loc j x e]
def Sit.hole (S:Sit K G B0 H0 E F σ H)(h:E[i]? = some none)(v):Sit K G B0 H0 E F (σ.set i v) H:=by
 obtain⟨B,s,o,I⟩:=S.ex;refine#v[#v[B,s,o,I.hole h v],S.fB,S.kp,λj g a e z=>?_,λj k g es a f d m l=>?_,S.dic.of λj w c q n=>#v[rfl,by rw[QS λy=>by rw[<-y,h]at n;cases n]]]
 .have b:i≠j:=λy=>by rw[<-y,h]at e;cases e
  rw[QS b]at z;exact S.own j g a e z
 .have b:i≠j:=λy=>by rw[<-y,h]at f;cases f
  have p:i≠k:=λy=>by rw[<-y,h]at d;cases d
  rw[QS b]at m;rw[QS p]at l;exact S.inj j k g es a f d m l
def SuD (K:Frag)(mg:Str->Option Xx)(ok:Xy->Prop)(i:Nat)(tsu:Xy->Xy->List (Str×V)->TS)(hd:Str->List My->DE->Option DE):Prop :=
 ∀G B B0 H0 E F σ H (D:Ends) d C fs f h e,Sit K G B0 H0 E F σ H->(∀b∈B0,b∈B)->(∀b∈B,b∈B0\/H0 b=none)->SitE K G B E F σ H ->
  mg d=some (.ref C)->a8 K (hid H B) fs f->hd d fs E=some h->H e=none->(∀a g,Sit K G B0 H0 h F a g->D.nx a g) ->
  ok C/\tsu e C ((psT d).zip f) { nx:=λc j=>D.nx (c.set i none) j,rt:=λ_ _=>False } (σ.set i<|some<|.ref e) H
noncomputable def vL (fi:Nat)(told:Str)(g:List DV->M My)(ms:DE->M (List DV))(hd:Str->List My->DE->Option DE):DE->M Out:=λE F=>(ms E F).bind λp=>(g p.1 p.2).bind λq=>match W4 q.1 with
 | some z=>(hd z.1 z.2 E).bind λE1=>some (.nx E1,q.2)
 | none=>(bN fi (.tuple [.str told,q.1]) E).bind λE1=>some (.nx E1,q.2)
variable {k0}
def xh (fi i) (C:CalleeX X.prog X.w X.K X.mg X.base gn k ps (spX K X.mg n g))(hr:Room k X.A)(ha:∀pn xe,Evs K (Z9 X pn xe) (a::es) tl ms)(hn:∀E F args F',ms E F=some (args,F')->args.length=n)
  (hsd:SuD K X.mg ok i tsu hd) (hsuite:∀e C fs pn xe,ok C->Has (B4 X e pn xe) e C fs->PSs (B4 X e pn xe) (b₀::suite) (tsu e C fs))
  (hok:∀C,ok C->ECat X.K C/\hasDictIn X.K C=true/\exmOne X.K (.ref C) (.ref Wt)=some true) (hW:X.mg wt=some (.ref Wt)) (hN:X.N.Nodup)
  (hstk:autoParam (X.stack=X.env::X.outer) eH) (hfr:autoParam (X.env.frame=some X.env.locals) eH) (hi:autoParam (X.N[i]? = some x) eH) (hx:autoParam (X.env.scope.names.lookup x=some .local) eH) (hfi:autoParam (X.N[fi]? = some y) eH) (hy:autoParam (X.env.scope.names.lookup y=some .local) eH)
  (hg:autoParam (Gl X wt) eH) (hwd:autoParam (nDb wt) eL) (hgg:autoParam (Gl X gn) eH) (hgd:autoParam (nDb gn) eL)
  (he:autoParam (XJ (a::es) X.env=(false,eval a X.env)::XJ es X.env) eH) (hpl:autoParam ((XO p3<|XJ es X.env).any (·.1)=false) eH)
  (hs:autoParam (XT (.Tuple [.Constant (.str told) j1 p1,.Call (.Name gn p2) (a::es) [] p3] k0 p4) (some<|.Name y p6) p5.line X.env=pure false) eH) :
  Ss K X (.Try [.Assign [.Name y p6] (.Tuple [.Constant (.str told) j1 p1,.Call (.Name gn p2) (a::es) [] p3] k0 p4) p5] [.ExceptHandler (some<|.Name wt pw) (some x) (b₀::suite) hpos] [] [] pos)
   (λD σ H=>aa (ur<|J8 (tC<|.str told)<|J8 (tAt σ<|aQ (spX K X.mg n g) [] (By i ok tsu D σ) tl) az) (M6 fi) D σ H) (vL fi told g ms hd):=by
 refine#v[ED (tb:=λE0 h=>aa (ur<|J8 (tC<|.str told)<|J8 (tAt h<|aQ (spX K X.mg n g) [] E0 tl) az)<|M6 fi) hstk hfr hN hi hx hg hW hwd hok hsuite λE0 h pn xe J=>?_,λG B0 H0 E F σ H D r F' S e q=>?_]
 .exact R4<|M3 hN hfi (.inl hy) (jY<|A1 pT<|A1 (nr C hr hgg J (ha pn xe).pa hgd he hpl) K5) hs<|.inr hy
 .obtain⟨⟨args,Z⟩,T,e⟩:=bS9 e;obtain⟨⟨d,F2⟩,e2,e⟩:=bS9 e;obtain⟨B,s,P,I⟩:=S.ex;refine#v[rfl,(ha [] λ_ _=>False).ok G B E F σ H _ args Z I T λvs H1 A o Q=>?_];have V:=S.step A o;have Y:=I.step A o;rw[Sd];refine#v[G,B,Z,args,d,F2,by rw[Q.length];exact hn _ _ _ _ T,I.fB,C3 I.bk A o,o,Q,e2,λv c j f m=>?_,λnm fs t u c j f m=>?_]
  .have S2:=V.step j f;have W:=Y.step j f;cases t:W4 d with
   | some z=>exact(jH m t).elim
   | none =>rw[t]at e;obtain⟨O,N,e⟩:=bS9 e;cases e;refine#v[by rw[Ry];simp,λp L=>?_];have kp:Kp (n5 K G) c (upd c p<|.tup [.str told,v]):=Kp.upd L;have R:FAt K G (upd c p<|.tup [.str told,v]) _:=f.same<|j9.upd L;have M:b8 K (hid (upd c p<|.tup [.str told,v]) B) (.tuple [.str told,d]) (.ref p):=P0 W.bk L<|a8.cons b8.st<|a8.cons m a8.nil;exact aA fi G B E _ σ _ _ _ O (λb H'=>D.nx b H') (W.step kp R) M N λb I' fr=>q b _<|(S2.step kp R).bind s P I' fr
  .rw[t]at e;obtain⟨O,N,e⟩:=bS9 e;cases e;intro C' hm U l;obtain⟨w,ht⟩:=hsd G B B0 H0 E _ σ c D nm C' fs u O U (V.step j f) s P (Y.step j f) hm m N l q;exact#v[C',U,_,c,rfl,rfl,rfl,l,w,ht]
end
end

section
section

def PA.imp (h:PA X es t)(w:∀σ H Q,t' σ H Q->t σ H Q):PA X es t':=λa π s σ H Q I z=>h a π s σ H Q I<|w σ H Q z
def itV (fs:List (Str×V)):List (Sum Str Str)->Option (List V)
 | []=>some []
 | .inl c::r=>(itV fs r).bind λa=>some (.str c::a)
 | .inr f::r=>(fs.lookup f).bind λv=>(itV fs r).bind λa=>some (v::a)
def qw (K:Frag)(C:Xy)(fs:List (Str×V))(e:Xy)(i:Nat)(its:List (Sum Str Str)):TA:=λb H Q=>b[i]? = some (some<|.ref e)/\(∀f,.inr f∈its->findIn K (.ref C) f=some none)/\∃a,itV fs its=some a/\Q a H
def xI :PA X [] (qw X.K C fs e i []):=PA.imp K5 λa H Q q90=>by obtain⟨_,_,b,z,q⟩:=q90;cases z;exact q
def zZ (h:PA X es (qw X.K C fs e i its))(hs:autoParam (XJ (.Constant (.str c) j p::es) X.env=(false,eval (.Constant (.str c) j p) X.env)::XJ es X.env) eH):PA X (.Constant (.str c) j p::es) (qw X.K C fs e i (.inl c::its)) :=
 PA.imp (A1 pT h hs) λn H Q q90=>by obtain⟨k,g,o,d,q⟩:=q90;obtain⟨l,b,a⟩:=bS9 d;cases a;exact#v[k,λf m=>g f<|QG _ m,l,b,q]
def wF (hh:Has X e C fs)(h:PA X es (qw X.K C fs e i its))(hN:autoParam (X.N[i]? = some x) eH)(hv:Vis X.env.scope x:=by exact Or.inl rfl)(hb:autoParam (XU (.Name x px) f X.env (eval (.Name x px) X.env)=eval (.Name x px) X.env) eH)
  (hd:autoParam (nDb x) eL) (hcd:autoParam (nCd x) eL) (hs:autoParam (XJ (.Attribute (.Name x px) f p::es) X.env=(false,eval (.Attribute (.Name x px) f p) X.env)::XJ es X.env) eH) :
  PA X (.Attribute (.Name x px) f p::es) (qw X.K C fs e i (.inr f::its)) :=
 PA.imp (A1 (Fm hh hN hv hb hd hcd) h hs) λn H Q q90=>by obtain⟨b,a,o,l,q⟩:=q90;obtain⟨v,k,j⟩:=bS9 l;obtain⟨m,d,c⟩:=bS9 j;cases c;exact#v[b,a f QN,v,k,b,λg hg=>a g<|QG _ hg,m,d,q]
end
def itD (fs:List (Str×My)):List (Sum Str Str)->Option (List My)
 | []=>some []
 | .inl c::r=>(itD fs r).bind λa=>some (.str c::a)
 | .inr f::r=>(fs.lookup f).bind λv=>(itD fs r).bind λa=>some (v::a)
section
variable {K:Frag}
theorem qT:∀{ps:List Str} {fs} {vs} {n} {d},a8 K H fs vs->(ps.zip fs).lookup n=some d->∃v,(ps.zip vs).lookup n=some v/\b8 K H d v
 | [],_,_,_,_,_,h=>by simp at h
 | _::_,[],_,_,_,_,h=>by simp at h
 | p::ps,w::fs,vs,n,d,hd,h=>by
  simp only[a8]at hd;obtain⟨v,r,rfl,c,b⟩:=hd;rw[UK,RN]at h ⊢;by_cases a:n=p
  .subst a;rw[beq_self_eq_true n]at h ⊢;cases h;exact#v[v,rfl,c]
  .rw[SL.2 a]at h ⊢;exact qT b h
theorem lI {ps:List Str}(hd:a8 K H fs vs):∀{its} {ds},itD (ps.zip fs) its=some ds->∃ws,itV (ps.zip vs) its=some ws/\a8 K H ds ws
 | [],ds,h=>by cases h;exact#v[[],rfl,a8.nil]
 | .inl c::its,ds,h=>by
  obtain⟨es,g,e⟩:=bS9 h;cases e;obtain⟨ws,b,a⟩:=lI hd g;exact#v[.str c::ws,by rw[itV,b];rfl,a8.cons b8.st a]
 | .inr f::its,ds,h=>by obtain⟨d,k,h⟩:=bS9 h;obtain⟨es,g,e⟩:=bS9 h;cases e;obtain⟨v,j,i⟩:=qT hd k;obtain⟨ws,b,a⟩:=lI hd g;exact#v[v::ws,by rw[itV,j,QX,b];rfl,a8.cons i a]
end
structure EFit K (mg:Str->Option Xx) Wt nm (cl:List Xy) C:Prop where
 mgc:mg nm=some (.ref C)
 cat:ECat K C
 hd:hasDictIn K C=true
 exm:exmOne K (.ref C) (.ref Wt)=some true
 ve:kitOne K (.ref C) (.type "ValueError")=some true
 st:kitAny K (.ref C) (cl.map Xx.ref)=some false
 nof:∀p∈psT nm,findIn K (.ref C) p=some none
section
def dR (E:DE)(i:Nat):Bool:=match E[i]? with
 | some none=>true
 | _=>false
def jS (h:dR E i=true):E[i]? = some none:=by
 unfold dR at h;split at h
 .assumption
 .cases h
theorem lB:∀{fs} {its} {vs},itV fs its=some vs->vs.length=its.length
 | _,[],_,h=>by cases h;rfl
 | fs,.inl c::r,_,h=>by
  obtain⟨d,b,a⟩:=bS9 h;cases a;rw[QM,QM,lB b]
 | fs,.inr f::r,_,h=>by obtain⟨v,_,h⟩:=bS9 h;obtain⟨d,b,a⟩:=bS9 h;cases a;rw[QM,QM,lB b]
def wI (h:bN j d E=some E1)(hij:i≠j):E1[i]? = E[i]?:=by
 unfold bN at h;split at h
 .cases h;exact QS<|RM hij
 .cases h
end
end
section
def tj:XF->XF
 | .ClassDef _ _ _ b _ _ _ _ _ _ _=>b.getD 0<|.Pass #v[0,0,0,0]
 | s=>s
def Js (mg:Str->Option Xx):List Str->List Xy->Prop
 | [],cl=>cl=[]
 | n::ns,cl=>∃a r,cl=a::r/\mg n=some (.ref a)/\Js mg ns r
def Ii (K:Frag)(mg:Str->Option Xx)(wt nm:Str)(cls:List Str):Prop:=∃(Wt C f:Xy) (a:List Xy),mg wt=some (.ref Wt)/\Js mg cls a/\ECls K Wt C f/\EIni K C f (psT nm)/\EFit K mg Wt nm a C
structure IniTxt st qual ps:Prop where
 sc:FnScope (("self":Str)::ps) (("self":Str)::ps) (defScope st)
 loc:∀p∈("self":Str)::ps,(defScope st).names.lookup p=some .local
 ib:InitBody ps (defBody st)
 few:ps.length<=100
 nd:∀p∈ps,nDb p
 bd:∀kV doc pm an dr ct us,us.length=ps.length+1->bindArgs (fnOf "__init__" qual (defArgs st) (defBody st) (defScope st) .none kV doc pm an dr ct) #v[us,[]]=pure ((("self":Str)::ps).zip us)
def eini_mk {K}{st}{kV} (I:IniTxt st qual ps)
  (l:K.lookup f=some #v[oc,od,.func<|fnOf "__init__" qual (defArgs st) (defBody st) (defScope st) .none kV doc pm an dr ct,osl]) (c:codeIn K dr qual=true) (na:∀p∈ps,findIn K (.ref C) p=some none):EIni K C f ps :=
 #v[#v[qual,defArgs st,defBody st,defScope st,oc,od,kV,doc,pm,an,dr,ct,osl,l,c,I.sc,I.loc,I.ib,λus hl=>I.bd kV doc pm an dr ct us hl],λp a=>#v[na p a,I.nd p a],I.few]
def ecls_mk {K}{hdct}{sn sub ab col dd k0 k1 k2 k3 k5}
  (obj:K.lookup C=some (excClassObj nm q C N bs (.ref Wt::vMro) hdct sn sub ab col dd k0 k1 k2 k3 k5 "ValueError.__new__")) (tp:excIn K Wt vMro "ValueError.__new__" = true)
  (init:findIn K (.ref C) "__init__" = some (some<|.ref f)) (fn:typeIn K (.ref f)=some (.type "function")) (call:specialIn K (.ref C) "__call__" = some (some<|.builtin "type.__call__")) (typ:instIn K (.ref C) (.type "type")=some true) (kp:keepIn K (.ref C)=true)
  (dict:hasDictIn K C=true) (sa:findIn K (.ref C) "__setattr__" = some (some<|.builtin "object.__setattr__")):ECls K Wt C f:=by
 refine#v[#v[_,_,_,_,_,_,_,_,_,_,_,_,_,_,_,obj],?_,init,fn,call,typ,kp,dict,sa];unfold excIn at tp;split at tp
 .rename_i b d c a;split at tp
  .simp only[TL,beq_iff_eq]at tp;exact#v[_,_,_,_,a,tp.1.2,tp.2]
  .cases tp
 .cases tp
def efit_mk {K}(hm:mg nm=some (.ref C))(hd:hasDictIn K C=true)(ga:findIn K (.ref C) "__getattribute__" = some (some<|.builtin "BaseException.__getattribute__"))(gn:findIn K (.ref C) "__getattr__" = some none)(mb:mroIn K C (.type "BaseException")=some true)(mo:mroIn K C (.type "object")=some true)
  (ca:findIn K (.ref C) "__class__" = some (some<|.builtin "object.__class__")) (cg:specialIn K (.builtin "object.__class__") "__get__" = some (some<|.builtin "getset_descriptor.__get__")) (ct:takesIn K (.builtin "object.__class__")=some true)
  (sb:subIn K (.ref Wt) (.type "BaseException")=some true) (ko:kitOne K (.ref C) (.ref Wt)=some true) (ne:(Xx.ref C == Xx.ref Wt)=false) (ve:kitOne K (.ref C) (.type "ValueError")=some true) (st:kitAny K (.ref C) (cl.map Xx.ref)=some false) (na:∀p∈psT nm,findIn K (.ref C) p=some none):EFit K mg Wt nm cl C:=by refine#v[hm,#v[ga,gn,mb,mo,ca,cg,ct],hd,?_,ve,st,na];unfold exmOne;rw[sb,QH<|by rfl];unfold kitOne at ko;rwa [QK (by rw[ne];exact Ri)]at ko
end
section
section

def PG.nox (h:PG X.nox tg g):PG X tg g:=λπ s b H v u Q I r t=>by
 refine Rj (h π s b H v u Q (I.wish _) r t) (λ_ e z=>?_) λ_ _ z=>z.elim
 obtain⟨a,d,c,q⟩:=z;exact#v[a,d,Inv.unwish c,q]
def PI.nox (h:PI X.nox tg iter wi):PI X tg iter wi:=λπ s a H R I w=>by
 refine Rj (h π s a H R (I.wish _) w) (λv s1 z=>?_) λ_ _ z=>z.elim
 refine Rj z (λd s2 z=>?_) λ_ _ z=>z.elim
 obtain⟨g,i,b,J,k,e,j,T,c,f,r⟩:=z;exact#v[g,i,b,J,k,e,Inv.unwish j,T,c,f,r]
end
section
variable {K:Frag}
def FA (hi:TId K wi mi)(hg:TGd K g bd)(hb:zf K W tb mb):zf K W (yr wi g tb) (aN mi bd mb):=λG f H0 E F σ H D r F' S e q=>by
 obtain⟨⟨items,F1⟩,e1,e⟩:=bS9 e;obtain⟨B,s,R,I⟩:=S.ex;refine hi G B E F σ H _ items F1 I e1 λJ w k1 f1 ok=>?_
 have V:=S.step k1 f1;have I1:=I.step k1 f1;have ac:=V.base s R I1;have qn:∀{p} {l},r = .nx p->F'=l->∀a c,Sit K G f (ae w B f) p l a c->D.nx a c:=λ{p l} er ef a c u=>by subst er ef;exact q a c<|V.unbase R u
 have O:∀{p} {l} {a} {c} {t},Sit K G f (ae w B f) p l a c->(∀b∈t,b∈f\/ae w B f b=none)->j9 (hid w B) (hid c t):=λ{p l a c t} u n b o U=>by
  by_cases P:b∈B
  .rw[I0 P]at U;cases U
  .rw[m7 P]at U;have ec:ae w B f b=some o:=by rw[bA<|.inl P];exact U
   rw[m7 λz=>(n b z).elim (λh=>P<|s b h) λh=>by rw[h]at ec;cases ec];exact u.kp b o ec λz=>P<|s b<|S.fB b z
 refine#v[λi m σ H=>m=items.length-i/\i<=items.length/\∃E F,Sit K G f (ae w B f) E F σ H/\O3 bd mb (items.drop i) E F=some (r,F'),#v[items.length,by simp,Sb _,E,F1,ac,e],?_];rintro i mm a c ⟨rfl,ad,p,l,u,k⟩;obtain⟨t,s2,n,X⟩:=u.ex;have C:=O u n;by_cases j:i<items.length
 .refine .inr #v[((ok c t C).1 i items[i]<|by simp[j]).1,λN H'=>i+1<=items.length/\∃E F,Sit K G f (ae w B f) E F N H'/\O3 bd mb (items.drop<|i+1) E F=some (r,F'),λN H' q90=>by obtain⟨h1,h2⟩:=q90;exact #v[items.length-(i+1),by omega,rfl,h1,h2],λx Y y=>?_];obtain⟨T,hx⟩:=((ok c t C).1 i items[i]<|by simp[j]).2 x Y y;have hx:=hx X.bk;rw[Rz j,O3]at k;obtain⟨E4,e4,k⟩:=bS9 k;obtain⟨⟨o,F5⟩,e5,k⟩:=bS9 k;have S3:=u.step (Kp.same T)<|X.fd.same T;have I3:=X.step (Kp.same T)<|X.fd.same T;refine hg G t p l a Y x items[i] E4 _ I3 hx e4 λab I4 fr=>?_
  refine hb G f (ae w B f) E4 l ab Y _ o F5 (S3.bind s2 n I4 fr) e5 ?_;cases o with
  | nx Z=>exact λA L Q=>#v[j,Z,F5,Q,k]
  | ct Z=>exact λA L Q=>#v[j,Z,F5,Q,k]
  | bk Z=>cases k;exact λA L Q=>qn rfl rfl A L Q
  | rt d=>cases k;exact#v[λv L k6 f6 h6=>q.1 v L (kz V R k6) f6 h6,λnm fs er vs L k6 f6 h6=>q.2 nm fs er vs L (kz V R k6) f6 h6]
 .have ei:i=items.length:=by lia
  subst ei;rw[Vd,O3]at k;cases k;exact .inl #v[(ok c t C).2,qn rfl rfl a c u]
def GM (hc:X.calm=true)(hp:PassesOwn (model X.prog X.w) X.A X.env X.xe)(hi:Ei K X.nox tg iter wi mi)(hg:Eg K X.nox tg g bd)(hb:SssX K W X body tb mb)
  (hs:autoParam (∀x,XX iter X.env x=pure x) eT):SsX K W X (.For tg iter body [] pos) (yr wi g tb) (aN mi bd mb):=#v[yB hp hc (PI.nox hi.pi) (PG.nox hg.pg) hb.ps hs,FA hi.ok hg.ok hb.ok]
def vt  :
  PassesOwn (model P w) (P4 (CXe P w) P w K mg base N qual scope f cd A outer s H E).A (P4 (CXe P w) P w K mg base N qual scope f cd A outer s H E).env (P4 (CXe P w) P w K mg base N qual scope f cd A outer s H E).xe:=PassesOwn.leaving
end
end
end L3
namespace L3
open PySem PySem.Spec PyProof.Rows L2
variable {γ:Type}
section
def wp {α σ:Type}(m:Option (α × σ))(Q:α->σ->Prop):Prop:=∃a b,m=some (a,b)/\Q a b
section
variable {Q:α->σ->Prop}
def d6 :wp (some (a,F)) Q↔Q a F:=#v[λq90=>by obtain⟨_,_,e,q⟩:=q90;cases e;exact q,λq=>#v[_,_,rfl,q]]
def G8 :wp (none:Option (α × σ)) Q↔False:=#v[λq90=>by obtain⟨_,_,e,_⟩:=q90;exact (by cases e),False.elim]
def d4 {f:β × τ->Option (α × σ)}:wp (x.bind f) Q↔wp x λa F'=>wp (f (a,F')) Q:=by
 constructor
 .rintro ⟨a,F',e,q⟩;obtain⟨⟨b,g⟩,d,c⟩:=bS9 e;exact#v[b,g,d,a,F',c,q]
 .rintro ⟨b,g,d,a,F',c,q⟩;exact#v[a,F',by rw[d];exact c,q]
def E9 {o}{f:γ->Option (α × σ)}:wp (o.bind f) Q↔∃z,o=some z/\wp (f z) Q:=by
 constructor
 .rintro ⟨a,d,e,q⟩;obtain⟨z,c,b⟩:=bS9 e;exact#v[z,c,a,d,b,q]
 .rintro ⟨z,c,a,d,b,q⟩;exact#v[a,d,by rw[c];exact b,q]
def gx [Decidable c]:wp (if c then a else b) Q↔if c then wp a Q else wp b Q:=by split <;> rfl
def j8 (h:wp m Q)(hq:∀a F,Q a F->Q' a F):wp m Q':=by obtain⟨a,F,e,q⟩:=h;exact#v[a,F,e,hq a F q]
def N0 (h:∀a F,Q a F↔Q' a F):wp m Q↔wp m Q':=#v[λz=>j8 z λa F q=>(h a F).1 q,λz=>j8 z λa F q=>(h a F).2 q]
def BD {P:γ->Prop}:(∃y,some z=some y/\P y)↔P z:=#v[λ#v[_,e,p]=>by cases e;exact p,λp=>#v[_,rfl,p]]
def B1 {F:FdS}{Q:My->FdS->Prop}(h0:0<m)(h1:m<1073741824)(h2:F.t<199999)(q:∀r F',0<=r->r<m->F'.t=F.t+1->Q (.int r) F'):wp (A0 [.feed,.dat<|.int m] F) Q:=by obtain⟨r,F',e,b,a,ht⟩:=Fam.draw_some h0 h1 h2;exact#v[.int r,F',by show(Fam.drawF m F).bind _=_;rw[e];rfl,q r F' b a ht]
end
def gD (o:Option (Option DV))(P:My->Prop):Prop:=match o with
 | some (some<|.dat d)=>P d
 | _=>False
def gW (o:Option (Option DV))(P:My->Prop):Prop:=match o with
 | some (some<|.dat d)=>P d
 | some (some<|.own ds)=>P<|.list ds
 | _=>False
def gF (o:Option (Option DV))(P:Prop):Prop:=match o with
 | some (some .feed)=>P
 | _=>False
def oB (o:Option γ)(P:γ->Prop):Prop:=∃z,o=some z/\P z
def cIf (c:Bool)(A B:Prop):Prop:=if c=true then A else B
def mj :cIf true A B↔A:=by simp[cIf]
def cN :cIf false A B↔B:=by simp[cIf]
def L9 (h1:c=true->A)(h2:c=false->B):cIf c A B:=by
 cases c
 .exact cN.2<|h2 rfl
 .exact mj.2<|h1 rfl
section
def i9 :wp (sC d E F) Q↔Q d F:=d6
def B8 :wp (sV i E F) Q↔gD E[i]? λd=>Q d F:=by
 unfold sV gD;generalize E[i]? = o;rcases o with _ | _ | x
 .exact G8
 .exact G8
 .cases x <;> first | exact d6 | exact G8
def C2 :wp (sW i E F) Q↔gW E[i]? λd=>Q d F:=by
 unfold sW gW;generalize E[i]? = o;rcases o with _ | _ | x
 .exact G8
 .exact G8
 .cases x <;> first | exact d6 | exact G8
def qo :wp (s1 f a E F) Q↔wp (a E F) λx F1=>oB (f x) λz=>Q z F1:=by unfold s1;rw[d4];simp only[E9,d6,oB]
def n9 :wp (s2 f a b E F) Q↔wp (a E F) λx F1=>wp (b E F1) λy F2=>oB (f x y) λz=>Q z F2:=by unfold s2;rw[d4];refine N0 λx F1=>?_;rw[d4];refine N0 λy F2=>?_;simp only[E9,d6,oB]
def ao :wp (sN f a E F) Q↔wp (a E F) λx F1=>oB (f x) λz=>Q z F1:=by unfold sN;rw[d4];simp only[E9,d6,oB]
def h7 :wp (k8 E F) Q↔Q [] F:=d6
def c6 :wp (c8 a r E F) Q↔wp (a E F) λx F1=>wp (r E F1) λxs F2=>Q (x::xs) F2:=by unfold c8;rw[d4];simp only[d4,d6]
def A6 :wp (G9 a E F) Q↔wp (a E F) λxs F1=>xs.length<=XI/\Q (.tuple xs) F1:=by
 unfold G9;rw[d4];constructor
 .exact λh=>j8 h λxs F1 h=>by
   split at h
   .rename_i hl;exact#v[hl,d6.1 h]
   .exact(G8.1 h).elim
 .exact λh=>j8 h λxs F1 h=>by rw[QH h.1];exact d6.2 h.2
def jZ :wp (uf a E F) Q↔wp (a E F) λxs F1=>xs.length<=XI/\Q (.list xs) F1:=by
 unfold uf;rw[d4];constructor
 .exact λh=>j8 h λxs F1 h=>by
   split at h
   .rename_i hl;exact#v[hl,d6.1 h]
   .exact(G8.1 h).elim
 .exact λh=>j8 h λxs F1 h=>by rw[QH h.1];exact d6.2 h.2
def j3 :wp (l9 E F) Q↔Q [] F:=d6
def A8 :wp (vD a r E F) Q↔wp (a E F) λx F1=>wp (r E F1) λxs F2=>Q (.dat x::xs) F2:=by unfold vD;rw[d4];simp only[d4,d6]
def lA :wp (vF i r E F) Q↔gF E[i]? (wp (r E F) λxs F2=>Q (.feed::xs) F2):=by
 unfold vF gF;generalize E[i]? = o;rcases o with _ | _ | x
 .exact G8
 .exact G8
 .cases x with
  | feed=>exact d4.trans (N0 λ_ _=>d6)
  | _=>exact G8
def i7 :wp (i3 f ms E F) Q↔wp (ms E F) λxs F1=>wp (f xs F1) Q:=by unfold i3;rw[d4]
def zJ :wp (lR a b E F) Q↔wp (a E F) λx F1=>oB (X3 x) λc=>cIf c (wp (b E F1) Q) (Q (.bool false) F1):=by unfold lR;rw[d4];simp only[E9,gx,d6,oB,cIf]
def GP :wp (CO a E F) Q↔wp (a E F) λx F1=>oB (X3 x) λc=>Q (.bool (!c)) F1:=by unfold CO;rw[d4];simp only[E9,d6,oB]
def Ed :wp (sIf c a b E F) Q↔wp (c E F) λx F1=>cIf x (wp (a E F1) Q) (wp (b E F1) Q):=by unfold sIf;rw[d4];simp only[gx,cIf]
def aM :wp (uB a E F) Q↔wp (a E F) λx F1=>oB (X3 x) λc=>Q c F1:=by unfold uB;rw[d4];simp only[E9,d6,oB]
def eG :wp (uT a E F) Q↔wp (a E F) λx F1=>oB (AX x) λc=>Q c F1:=by unfold uT;rw[d4];simp only[E9,d6,oB]
def qj :wp (tM a b E F) Q↔wp (a E F) λx F1=>cIf x (wp (b E F1) Q) (Q false F1):=by unfold tM;rw[d4];simp only[gx,d6,cIf]
def yl :wp (uOr a b E F) Q↔wp (a E F) λx F1=>cIf x (Q true F1) (wp (b E F1) Q):=by unfold uOr;rw[d4];simp only[gx,d6,cIf]
def aU :wp (cS a E F) Q↔wp (a E F) λx F1=>Q (!x) F1:=by unfold cS;rw[d4];simp only[d6]
def aq :wp (M4 E F) Q↔Q true F:=d6
def L0 :wp (mNx E F) Q↔Q (.nx E) F:=d6
def sqK (b:DE->M Out)(Q:Out->FS->Prop)(o:Out)(F1:FS):Prop:=match o with
  | .nx E1=>wp (b E1 F1) Q
  | o=>Q o F1
def j0 (h:wp (b E1 F) Q):sqK b Q (.nx E1) F:=h
def Z1 (h:Q (.rt d) F):sqK b Q (.rt d) F:=h
def w6 :wp (mSq a b E F) Q↔wp (a E F) (sqK b Q):=by
 unfold mSq;rw[d4];refine N0 λo c=>?_
 cases o with
 | nx e=>exact Iff.rfl
 | rt d=>exact d6
 | bk d=>exact d6
 | ct d=>exact d6
def A4 :wp (mRt a E F) Q↔wp (a E F) λx F1=>Q (.rt x) F1:=by unfold mRt;rw[d4];simp only[d6]
def N6 :wp (G7 i a E F) Q↔wp (a E F) λx F1=>i<E.length/\Q (.nx<|E.set i<|some<|.dat x) F1:=by
 unfold G7;rw[d4];refine N0 λx F1=>?_
 unfold bN;by_cases h:i<E.length
 .rw[QH h];simp only[E9,d6,BD,h,true_and]
 .rw[QK h];simp only[E9,h,false_and];exact#v[λ#v[_,e,_]=>(by cases e),False.elim]
def dS :wp (kT bd a E F) Q↔wp (a E F) λx F1=>oB (bd x E) λE1=>Q (.nx E1) F1:=by unfold kT;rw[d4];simp only[E9,d6,oB]
def U1 :wp (mIf c a b E F) Q↔wp (c E F) λx F1=>cIf x (wp (a E F1) Q) (wp (b E F1) Q):=by unfold mIf;rw[d4];simp only[gx,cIf]
def qG :wp (uv i a E F) Q↔wp (a E F) λx F1=>i<E.length/\Q (.nx<|E.set i<|some<|.own x) F1:=by
 unfold uv;rw[d4];refine N0 λx F1=>?_
 by_cases h:i<E.length
 .rw[QH h];simp only[d6,h,true_and]
 .rw[QK h];simp only[h,false_and];exact G8
def T7 :wp (aN mi bd body E F) Q↔wp (mi E F) λds F1=>wp (O3 bd body ds E F1) Q:=by unfold aN;rw[d4]
def aw :wp (dh a E F) Q↔wp (a E F) λx F1=>oB (eZ x) λds=>Q ds F1:=by unfold dh;rw[d4];simp only[E9,d6,oB]
def K6 :wp (R1 a E F) Q↔wp (a E F) λx F1=>oB (fE x) λds=>Q ds F1:=by unfold R1;rw[d4];simp only[E9,d6,oB]
def ya :wp (Ax a E F) Q↔wp (a E F) λx F1=>x.length<=XI/\Q x F1:=by
 unfold Ax;rw[d4];constructor
 .exact λh=>j8 h λb F1 h=>by
   split at h
   .rename_i hl;exact#v[hl,d6.1 h]
   .exact(G8.1 h).elim
 .exact λh=>j8 h λb F1 h=>by rw[QH h.1];exact d6.2 h.2
def aF {mt}:wp (sLC mi k cap bd mt me E F) Q↔wp (mi E F) λds F1=>ds.length<=XI/\wp (T5 bd mt me ds (ie k cap E) F1) λzs F2=>Q (.list zs) F2:=by
 unfold sLC;rw[d4];constructor
 .refine λh=>j8 h λds F1 h=>?_
  split at h
  .rename_i hl;rw[d4]at h;exact#v[hl,j8 h λzs F2 h=>d6.1 h]
  .exact(G8.1 h).elim
 .refine λh=>j8 h λds F1 h=>?_
  rw[QH h.1,d4];exact j8 h.2 λzs F2 h=>d6.2 h
def uC (Q:My->FS->Prop)(o:Out)(F1:FS):Prop:=match o with
  | .rt d=>Q d F1
  | .nx _=>Q .none F1
  | _=>False
def l7 (h:Q d F):uC Q (.rt d) F:=h
def D6 :wp (G1 N m args F) Q↔wp (m (G3 N args) F) (uC Q):=by
 unfold G1;rw[d4];refine N0 λo a=>?_
 cases o with
 | nx b=>exact d6
 | rt d=>exact d6
 | bk d=>exact G8
 | ct d=>exact G8
def B9 (h:o=some (some<|.dat d))(q:P d):gD o P:=by rw[h];exact q
def E3 (h:o=some (some<|.dat d))(q:P d):gW o P:=by rw[h];exact q
def my (h:o=some (some<|.own ds))(q:P (.list ds)):gW o P:=by rw[h];exact q
def kZ (h:o=some (some .feed))(q:P):gF o P:=by rw[h];exact q
def d5 {o}{P:γ->Prop}(h:o=some z)(q:P z):oB o P:=#v[z,h,q]
def K7 (h:c=true)(q:A):cIf c A B:=by rw[h];exact mj.2 q
def v8 (h:c=false)(q:B):cIf c A B:=by rw[h];exact cN.2 q
def n6 {n:Nat}(h:Nat.ble n 10000=true):n<=XI:=QZ (UV h) (by rw[Ry];decide)
def m5 {n:Nat} (h:Nat.ble (i+1) n=true):i<n:=UV h
end
def Tr (f:List DV->M My)(args:List DV)(c:Int)(P:My->Prop):Prop:=∀F:FdS,F.t+c<=199999->∃d a,f args F=some (d,a)/\a.t<=F.t+c/\P d
def Tr.wp {F:FdS}{Q:My->FdS->Prop}(h:Tr f args c P)(hF:F.t+c<=199999)(q:∀d F',F'.t<=F.t+c->P d->Q d F'):wp (f args F) Q:=by obtain⟨d,F',e,ht,p⟩:=h F hF;exact#v[d,F',e,q d F' ht p]
def Tr.of (h:∀F:FdS,F.t+c<=199999->L3.wp (f args F) λd F'=>F'.t<=F.t+c/\P d):Tr f args c P:=λF a=>by obtain⟨d,F',e,q⟩:=h F a;exact#v[d,F',e,q]
mutual
def cnt:My->Nat
 | .tuple ds=>1+fj ds
 | .list ds=>1+fj ds
 | _=>1
def fj:List My->Nat
 | []=>0
 | d::ds=>cnt d+fj ds
end
def asc (x:Str):Prop:=∀c∈x.cps.toList,c<128
mutual
def scs (n:Nat):My->Prop
 | .none=>True
 | .bool _=>True
 | .int i=>i.natAbs<10 ^ 300+n
 | .str x=>x.length<=600+n/\asc x
 | .tuple ds=>jc n ds
 | .list ds=>jc n ds
 | .dict _=>False
def jc (n:Nat):List My->Prop
 | []=>True
 | d::ds=>scs n d/\jc n ds
end
theorem aL :∀{ds},jc n ds↔∀d∈ds,scs n d
 | []=>by simp[jc]
 | d::ds=>by simp[jc,aL]
structure Gd n N k d:Prop where
 sc:scs n d
 dp:d.depth<=k
 ct:cnt d<=N
theorem aO :∀{ds},My.depthAll ds<=k↔∀d∈ds,d.depth<=k
 | []=>by simp[My.depthAll]
 | d::ds=>by have:=aO (k:=k) (ds:=ds);simp only[My.depthAll,QQ,forall_eq_or_imp];rw[<-this];lia
def Gd.tup {k M}{ds} (h:∀d∈ds,Gd n M k d)(hc:1+fj ds<=N):Gd n N (k+1) (.tuple ds):=by
 refine#v[?_,?_,?_]
 .simp only[scs];rw[aL];exact λd a=>(h d a).sc
 .simp only[My.depth];have:=aO.2 λd a=>(h d a).dp
  simp[*]
 .simp only[cnt];exact hc
def w9c{F}{r}{Q} (h:E[i]? = some (some<|.dat d))(q:wp (r E F) λxs F2=>Q (d::xs) F2):wp (c8 (sV i) r E F) Q:=c6.2<|B8.2<|B9 h q
def w9d{F}{f}{Q} (h:E[i]? = some (some .feed))(q:wp (f [.feed,.dat d] F) Q):wp (i3 f (vF i<|vD (sC d) l9) E F) Q:=i7.2<|lA.2<|kZ h<|A8.2<|i9.2<|j3.2 q
def w9g{F}{Q} (h:E[i]? = some (some<|.dat d))(q:Q d F):wp (sV i E F) Q:=B8.2<|B9 h q
def w9i{F}{c}{a b r}{Q} (q:wp (c E F) λx F1=>cIf x (wp (a E F1)<|sqK r Q)<|wp (b E F1)<|sqK r Q):wp (mSq (mIf c a b) r E F) Q:=w6.2<|U1.2 q
def w9l{F}{f}{a}{r}{Q} (q:wp (a E F) λx F1=>wp (r E F1) λxs F2=>wp (f (.dat x::xs) F2) Q):wp (i3 f (vD a r) E F) Q:=i7.2<|A8.2 q
def w9q{F}{a}{b}{Q} (q:wp (a E F) λx F1=>i<E.length/\sqK b Q (.nx<|E.set i<|some<|.dat x) F1):wp (mSq (G7 i a) b E F) Q:=w6.2<|N6.2 q
def w9s{F}{b}{Q} (h:E[i]? = some (some<|.dat d))(q:wp (b E F) λy F2=>oB (f d y) λz=>Q z F2):wp (s2 f (sW i) b E F) Q:=n9.2<|C2.2<|E3 h q
def w9v{F}{r}{Q} (h:E[i]? = some (some<|.dat d))(q:wp (r E F) λxs F2=>Q (.dat d::xs) F2):wp (vD (sV i) r E F) Q:=A8.2<|B8.2<|B9 h q
def w9w{F}{Q} (h:E[i]? = some (some<|.dat d))(q:Q d F):wp (sW i E F) Q:=C2.2<|E3 h q
end
section
structure Nod (d:My):Prop where
 sh:d.showable=true
 nd:d.hasDict=false
 cl:d.canLay0=true
 ln:d.shown.length+2<=7100*cnt d
def CK :(10:Nat) ^ 300<=2 ^ 1000:=by have h:((10) ^ 3) ^ 100<=(2 ^ 10) ^ 100:=Nat.pow_le_pow_left (by decide) 100;rwa [<-Nat.pow_mul,<-Nat.pow_mul]at h
def GJ (hn:n<=100):10 ^ 300+n<=2 ^ 1001:=by
 have d:=CK;have a:(2) ^ 1001=2 ^ 1000+2 ^ 1000:=by rw[Nat.pow_succ,Nat.mul_two]
 have c:(2) ^ 7<=2 ^ 1000:=Rf (by decide) (by decide);have b:(2) ^ 7=128:=by decide
 rw[a];generalize (10) ^ 300=A at *;generalize (2) ^ 1000=B at *;lia
def HD :(∀d∈ds,Nod d)->My.showableAll ds=true/\My.hasDictAll ds=false/\My.canLayAll0 ds=true/\((My.shownAll ds).map (·.length)).sum+2*ds.length<=7100*fj ds:=by
 induction ds with
 | nil=>intro _;exact#v[by simp[My.showableAll],by simp[My.hasDictAll],by simp[My.canLayAll0],by simp[My.shownAll]]
 | cons d ds g =>
  intro h;obtain⟨a,b,c,e⟩:=g λx i=>h x<|QG _ i
  have f:=h d QN;refine#v[by simp[My.showableAll,f.sh,a],by simp[My.hasDictAll,f.nd,b],by simp[My.canLayAll0,f.cl,c],?_];simp only[My.shownAll,QL,Sj,QM,fj];have:=f.ln;lia
def Fe (hn:n<=100):∀m,∀d,sizeOf d<m->scs n d->Nod d:=by
 intro m;induction m with
 | zero=>intro d h;exact absurd h<|UL _
 | succ m l =>
  intro d o f;cases d with
  | none=>exact#v[rfl,rfl,rfl,by decide]
  | bool b=>exact#v[rfl,rfl,rfl,by cases b <;> decide]
  | int i =>simp only[scs]at f;have q:=QO f<|GJ hn;have:=Shw.int q (by decide) (by decide);exact#v[this.sh,this.nd,rfl,by have:=this.ln;simp only[cnt];lia]
  | str x =>
   simp only[scs]at f;refine#v[rfl,rfl,?_,?_]
   .simp only[My.canLay0,My.strOk];rw[Array.all_eq_true'];intro c k;have:=f.2 c (by simpa using k);exact Rg (by lia)
   .have t:=PySem.StrLaws.reprText_len x λc k=>QO (f.2 c k) (by decide)
    simp only[My.shown,cnt];lia
  | tuple j =>
   simp only[scs]at f;rw[aL]at f;obtain⟨a,b,c,e⟩:=HD λd g=>l d (by have:=Wc g;simp at o;lia)<|f d g
   refine#v[by simpa only[My.showable] using a,by simpa only[My.hasDict] using b,by simpa only[My.canLay0] using c,?_];have s:=tupleText_len_le<|My.shownAll j;have r:=My.shownAll_length j;simp only[My.shown,cnt];lia
  | list j =>
   simp only[scs]at f;rw[aL]at f;obtain⟨a,b,c,e⟩:=HD λd g=>l d (by have:=Wc g;simp at o;lia)<|f d g
   refine#v[by simpa only[My.showable] using a,by simpa only[My.hasDict] using b,by simpa only[My.canLay0] using c,?_];have s:=listText_len_le<|My.shownAll j;have r:=My.shownAll_length j;simp only[My.shown,cnt];lia
  | dict p=>simp only[scs]at f
section

def Gd.nod (h:Gd n N k d)(hn:n<=100):Nod d:=Fe hn _ d (Sx _) h.sc
def Gd.shaped (h:Gd n N k d)(hn:n<=100)(hk:k<=50):PySem.SeqAt.shaped d=true:=by unfold PySem.SeqAt.shaped;rw[(h.nod hn).cl];have a:=h.dp;simp;lia
def gK (h:i.natAbs<10 ^ 300+n):Gd n 1 0 (.int i):=#v[h,by simp[My.depth],by simp[cnt]]
end
def bJ {i:Int}(h:i.natAbs<=100000000000000000000000000000000000000000):i.natAbs<10 ^ 300+n:=by
 have b:(10) ^ 42<=10 ^ 300:=Rf (by decide) (by decide);have a:100000000000000000000000000000000000000000<(10) ^ 42:=by decide
 generalize (10) ^ 300=A at *;lia
end
section
section

def Iu :ixD (.list ds) (.int i)=atI ds i:=rfl
def E8 :Q4 (.int i) (.int j)=some (.int<|i+j):=rfl
def X5 :bY (.int i) (.int j)=some (.int<|i-j):=rfl
def Im :geD (.int i) (.int j)=some (.bool<|decide (j<=i)):=rfl
def Jh :ltD (.int i) (.int j)=some (.bool<|decide (i<j)):=rfl
def Fh :ua [.tuple ds]=some (.int ds.length):=rfl
def ja :Y1 [.list ds]=some (.tuple ds):=rfl
def Hk :jQ T d=some (.bool<|isT (tyD d) T):=rfl
def EH :vo (.tuple ds)=some (.tuple ds.reverse):=rfl
def X6 :fE (.tuple ds)=some ds:=rfl
def cA :fE (.list ds)=some ds:=rfl
end
end
end L3
set_option hygiene false
local macro_rules | `(tactic| walk_at "st")=>`(tactic| first | (with_reducible first | refine L3.j0 ?_ | refine L3.Z1 ?_ | refine L3.l7 ?_ | refine L3.w6.2 ?_ | refine L3.U1.2 ?_ | refine L3.N6.2 ?_ | refine L3.A4.2 ?_ | refine L3.L0.2 ?_ | refine L3.qj.2 ?_ | refine L3.yl.2 ?_ | refine L3.aU.2 ?_ | refine L3.aM.2 ?_ | refine L3.eG.2 ?_ | refine L3.aq.2 ?_ | refine L3.n9.2 ?_ | refine L3.qo.2 ?_ | refine L3.ao.2 ?_ | refine L3.i9.2 ?_ | refine L3.B8.2 ?_ | refine L3.C2.2 ?_ | refine L3.h7.2 ?_ | refine L3.c6.2 ?_ | refine L3.A6.2 ?_ | refine L3.jZ.2 ?_ | refine L3.j3.2 ?_ | refine L3.A8.2 ?_ | refine L3.lA.2 ?_ | refine L3.i7.2 ?_ | refine r_cut.2 ?_ | refine r_oNo.2 ?_ | refine r_oI.2 ?_ | refine L3.zJ.2 ?_ | refine r_sOr.2 ?_ | refine L3.GP.2 ?_ | refine L3.Ed.2 ?_ | refine L3.dS.2 ?_ | refine L3.qG.2 ?_ | refine L3.T7.2 ?_ | refine L3.aw.2 ?_ | refine L3.K6.2 ?_ | refine L3.ya.2 ?_ | refine r_fCat.2 ?_ | refine L3.aF.2 ?_) | ((with_reducible refine L3.D6.2 ?_);try dsimp only[L3.G3,QL,RK,QM,RV,List.replicate,Ru,RC,Nat.reduceAdd,Nat.reduceSub]) | ((with_reducible apply L3.B9);exact rfl) | ((with_reducible apply L3.E3);exact rfl) | ((with_reducible apply L3.my);exact rfl) | ((with_reducible apply L3.kZ);exact rfl) | ((with_reducible apply L3.d5);first | exact L3.Hk | exact rfl) | ((with_reducible refine And.intro (L3.n6 ?_) ?_);exact rfl) | ((with_reducible refine And.intro (L3.m5 ?_) ?_);exact rfl;try dsimp only[Vs,Vt]))
local macro_rules | `(tactic| walk_at "rd")=>`(tactic| (repeat walk_at "st"))
local macro_rules | `(tactic| walk_at "ty")=>`(tactic| first | refine L3.v8 L3.ag ?_ | refine L3.v8 L3.fQ ?_ | refine L3.v8 L3.iQ ?_ | refine L3.v8 L3.ir ?_ | refine L3.v8 L3.fI ?_ | refine L3.v8 L3.dc ?_ | refine L3.K7 L3.ft ?_ | refine L3.K7 L3.qc ?_ | refine L3.v8 L3.pC ?_ | refine L3.v8 L3.mh ?_ | refine L3.v8 L3.fq ?_ | refine L3.v8 L3.gz ?_ | refine L3.K7 L3.uq ?_ | refine L3.v8 L3.vA ?_ | refine L3.v8 L3.pR ?_ | refine L3.v8 L3.fF ?_ | refine L3.v8 L3.pE ?_ | refine L3.v8 L3.tO ?_ | refine L3.K7 L3.ug ?_ | refine L3.v8 L3.pI ?_ | refine L3.v8 L3.cW ?_ | refine L3.v8 L3.nt ?_ | refine L3.v8 L3.qx ?_ | refine L3.v8 L3.oX ?_ | refine L3.K7 L3.mQ ?_ | refine L3.K7 L3.cf ?_ | refine L3.v8 L3.kh ?_ | refine L3.v8 L3.nX ?_ | refine L3.v8 L3.ml ?_ | refine L3.v8 L3.kX ?_)
local macro_rules | `(tactic| walk_at "go")=>`(tactic| (repeat first | walk_at "st" | walk_at "ty"))
namespace L3
open PySem PySem.Spec PyProof.Rows L2
def ag:isT "NoneType" "tuple" = false:=by decide +kernel
def fQ:isT "NoneType" "bool" = false:=by decide +kernel
def iQ:isT "NoneType" "int" = false:=by decide +kernel
def ir:isT "NoneType" "str" = false:=by decide +kernel
def fI:isT "NoneType" "list" = false:=by decide +kernel
def dc:isT "bool" "tuple" = false:=by decide +kernel
def ft:isT "bool" "bool" = true:=by decide +kernel
def qc:isT "bool" "int" = true:=by decide +kernel
def pC:isT "bool" "str" = false:=by decide +kernel
def mh:isT "bool" "list" = false:=by decide +kernel
def fq:isT "int" "tuple" = false:=by decide +kernel
def gz:isT "int" "bool" = false:=by decide +kernel
def uq:isT "int" "int" = true:=by decide +kernel
def vA:isT "int" "str" = false:=by decide +kernel
def pR:isT "int" "list" = false:=by decide +kernel
def fF:isT "str" "tuple" = false:=by decide +kernel
def pE:isT "str" "bool" = false:=by decide +kernel
def tO:isT "str" "int" = false:=by decide +kernel
def ug:isT "str" "str" = true:=by decide +kernel
def pI:isT "str" "list" = false:=by decide +kernel
def cW:isT "list" "tuple" = false:=by decide +kernel
def nt:isT "list" "bool" = false:=by decide +kernel
def qx:isT "list" "int" = false:=by decide +kernel
def oX:isT "list" "str" = false:=by decide +kernel
def mQ:isT "list" "list" = true:=by decide +kernel
def cf:isT "tuple" "tuple" = true:=by decide +kernel
def kh:isT "tuple" "bool" = false:=by decide +kernel
def nX:isT "tuple" "int" = false:=by decide +kernel
def ml:isT "tuple" "str" = false:=by decide +kernel
def kX:isT "tuple" "list" = false:=by decide +kernel
def sz (h:n<=100000):n<=XI:=QZ h (by rw[Ry];decide)
def R9 {body:DE->M Out}{Q:Out->FdS->Prop}(I:Nat->DE->FdS->Prop):∀items n E F,I n E F ->
  (∀i d,items[i]? = some d->∀E F,I (n+i) E F->∃E1,bd d E=some E1/\wp (body E1 F) λo F'=>∃E2,o = .nx E2/\I (n+i+1) E2 F')->(∀E F,I (n+items.length) E F->Q (.nx E) F)->wp (O3 bd body items E F) Q
 | [],n,E,F,h,_,hq=>d6.2<|hq E F h
 | d::r,n,E,F,h,st,hq=>by
  obtain⟨E1,g,c⟩:=st 0 d rfl E F h;rw[O3,g,QX,d4];refine j8 c ?_;rintro o j ⟨E2,f,b⟩
  subst f;refine R9 I r (n+1) E2 j b (λi d e E F a=>?_) (λE F a=>hq E F (by rw[QM];rw[show n+(r.length+1)=n+1+r.length by lia];exact a));have:=st (i+1) d (by simpa using e) E F (by rw[show n+(i+1)=n+1+i by lia];exact a);rw[show n+(i+1)+1=n+1+i+1 by lia]at this;exact this
def sG {lo}:(fJ lo n).length=n:=by simp[fJ]
def aj (h1:i.natAbs<X7)(h2:j.natAbs<X7):K0 (.int i) (.int j)=some (.int<|i*j):=QH<|.inr #v[h1,h2]
def zL (h1:j≠0)(h2:j.natAbs<2 ^ 9000):lU (.int i) (.int j)=some (.int<|i.fdiv j):=QH #v[h1,h2]
def DF (h1:0<j)(h2:j.natAbs<2 ^ 9000):lU (.int i) (.int j)=some (.int<|i / j):=by rw[zL (by lia) h2,WU i<|by lia]
def HB (h1:0<j):Fs (.int i) (.int j)=some (.int<|i % j):=QH h1
section
variable {F:FdS}{Q:My->FdS->Prop}
theorem xY {me:DE->M My}{rest:DE}{Q:List My->FdS->Prop}:∀ds o,(∀d∈ds,∀F (Q:My->FdS->Prop),Q (f d) F->wp (me (some (.dat d)::rest) F) Q)->Q (ds.map f) F->wp (T5 (bN 0) M4 me ds (o::rest) F) Q
 | [],o,_,q=>d6.2 q
 | d::ds,o,h,q=>by rw[T5];have e:bN 0 d (o::rest)=some (some (.dat d)::rest):=rfl;rw[e,QX,d4];refine aq.2 ?_;rw[QH rfl,d4];refine h d QN F _ ?_;rw[d4];exact xY ds _ (λd a=>h d<|QG _ a)<|d6.2 q
def BV (m:Int):My->Bool
 | .int i=>decide (m<=i)
 | _=>false
def isI:My->Bool
 | .int _=>true
 | _=>false
def T2:List DV->M My:=G1 ["thing"]<|mRt<|lR (s1 (jQ "int")<|sW 0)<|CO<|s1 (jQ "bool")<|sW 0
def L6:List DV->M My:=G1 ["least","thing"]<|mRt<|lR (i3 T2<|vD (sV 1) l9)<|s2 geD (sW 1)<|sW 0
def R6:List DV->M My:=G1 ["many","thing"]<|mRt<|lR (s1 (jQ "tuple")<|sW 1)<|s2 (eqD false) (sN ua<|c8 (sW 1) k8)<|sW 0
def Jl :wp (sCh f g a b c E F) Q↔wp (a E F) λx F1=>wp (b E F1) λy F2=>oB (f x y) λz=>oB (X3 z) λt=>cIf t (wp (c E F2) λw F3=>oB (g y w) λv=>Q v F3) (Q (.bool false) F2):=by
 unfold sCh;rw[d4];refine N0 λx F1=>?_;rw[d4];refine N0 λy F2=>?_
 simp only[E9,oB];refine exists_congr λz=>and_congr_right λ_=>exists_congr λt=>and_congr_right λ_=>?_
 cases t
 .simp only[Ro];exact d6
 .simp only[SA];rw[d4];refine N0 λw F3=>?_;simp only[E9,d6]
def Dr (h:scs n d)(q:Q (.bool<|isI d) F):wp (T2 [.dat d] F) Q:=by
 unfold T2;cases d with
 | int i=>walk_at "go";simp only[tyD];exact q
 | bool i=>walk_at "go";simp only[tyD];exact q
 | none=>walk_at "go";exact q
 | str i=>walk_at "go";exact q
 | tuple i=>walk_at "go";exact q
 | list i=>walk_at "go";exact q
 | dict i=>exact absurd h (by simp[scs])
def FR (h:scs n d)(q:Q (.bool<|BV m d) F):wp (L6 [.dat<|.int m,.dat d] F) Q:=by
 unfold L6;walk_at "go";refine Dr h ?_;cases d with
 | int i=>refine d5 rfl<|mj.2 ?_;walk_at "go";exact q
 | bool i=>refine d5 rfl<|cN.2 ?_;walk_at "go";exact q
 | none=>refine d5 rfl<|cN.2 ?_;walk_at "go";exact q
 | str i=>refine d5 rfl<|cN.2 ?_;walk_at "go";exact q
 | tuple i=>refine d5 rfl<|cN.2 ?_;walk_at "go";exact q
 | list i=>refine d5 rfl<|cN.2 ?_;walk_at "go";exact q
 | dict i=>exact absurd h (by simp[scs])
def fG (m:Nat):My->Bool
 | .tuple ds=>decide (ds.length=m)
 | _=>false
def qV (h:scs n d)(q:Q (.bool<|fG m d) F):wp (R6 [.dat<|.int m,.dat d] F) Q:=by
 unfold R6;cases d with
 | tuple a =>
  walk_at "go";have e:(My.int a.length ).eqv (.int m)=fG m (.tuple a):=by
   simp only[My.eqv,fG];by_cases h:a.length=m
   .rw[h];simp
   .have:¬((a.length:Int)=m ):=by lia
    simp[h,this]
  rw[e];exact q
 | int i=>walk_at "go";exact q
 | bool i=>walk_at "go";exact q
 | none=>walk_at "go";exact q
 | str i=>walk_at "go";exact q
 | list i=>walk_at "go";exact q
 | dict i=>exact absurd h (by simp[scs])
end
section
variable {F:FdS}{Q:Out->FdS->Prop}
def Dq {v:DE->M My}(he:ju E i=some ds)(hl:ds.length<=100000)(q:wp (v E F) λx F1=>Q (.nx<|E.set i<|some<|.own<|ds++[x]) F1):wp (xU i v E F) Q:=by
 unfold xU;rw[d4];refine j8 q λx F1 h=>?_
 rw[he,QX,QH<|Ra hl (by rw[Ry];decide)];exact d6.2 h
def IK {b:DE->M My}{Q:List My->FdS->Prop}(q:wp (a E F) λx F1=>wp (b E F1) λy F2=>∃xs k,x = .list xs/\y = .int k /\ -(2 ^ 62)<=k/\k<2 ^ 62/\xs.length*k.toNat<=100000/\Q (List.replicate k.toNat xs).flatten F2):wp (CT a b E F) Q:=by
 unfold CT;rw[d4];refine j8 q λx F1 h=>?_
 rw[d4];refine j8 h λy F2 h=>?_
 obtain⟨xs,k,rfl,rfl,d,c,hl,q⟩:=h;dsimp only;rw[QH #v[d,c,sz hl]];exact d6.2 q
def EC {a:DE->M My}{Q:List My->FdS->Prop}(q:wp (a E F) λx F1=>oB (fE x) λds=>Q (U2 0 ds) F1):wp (rK a E F) Q:=by
 unfold rK;rw[d4];refine j8 q λx F1 h=>?_
 obtain⟨ds,e,q⟩:=h;rw[e,QX];exact d6.2 q
end
def zx {Sh:DE->Prop}{P:My->My->Prop}(hc:0<=c):∀ds E (F:FdS) (Q:List My->FdS->Prop),Sh E ->
  (∀d∈ds,∀E,Sh E->∃E1,bd d E=some E1/\Sh E1/\∀F:FdS,F.t+c<=199999->wp (me E1 F) λy F'=>F'.t<=F.t+c/\P d y)->F.t+c*ds.length<=199999 ->
  (∀zs F',zs.length=ds.length->(∀z∈zs,∃d∈ds,P d z)->F'.t<=F.t+c*ds.length->Q zs F')->wp (T5 bd M4 me ds E F) Q
 | [],E,F,Q,_,_,_,q=>d6.2 (q [] F rfl (λz a=>by cases a)<|by simp)
 | d::ds,E,F,Q,hE,st,hF,q=>by
  have l:c*((d::ds).length)=c*ds.length+c:=by rw[QM];push_cast;rw[Xu,VN]
  have s:0<=c*ds.length:=RD hc (by simp[*] );rw[l]at hF q;obtain⟨E1,k,j,i⟩:=st d QN E hE;rw[T5,k,QX,d4];refine aq.2 ?_;rw[QH rfl,d4];refine j8 (i F<|by lia) ?_;rintro y o ⟨r,f⟩
  rw[d4];refine zx hc ds E1 o _ j (λd h=>st d<|QG _ h) (by lia) λzs n hl a p=>d6.2 (q _ n (by simp[hl]) (λz b=>?_)<|by lia)
  rcases QQ.1 b with rfl | b
  .exact#v[d,QN,f]
  .obtain⟨m,e,g⟩:=a z b;exact#v[m,QG _ e,g]
def Je {P:My->My->Prop}{rest:DE}{F:FdS}{Q:List My->FdS->Prop}(ds) (o) (hc:0<=c)
  (st:∀d∈ds,∀F:FdS,F.t+c<=199999->wp (me (some (.dat d)::rest) F) λy F'=>F'.t<=F.t+c/\P d y) (hF:F.t+c*ds.length<=199999)
  (q:∀zs F',zs.length=ds.length->(∀z∈zs,∃d∈ds,P d z)->F'.t<=F.t+c*ds.length->Q zs F'):wp (T5 (bN 0) M4 me ds (o::rest) F) Q :=
 zx (Sh:=λE=>∃o,E=o::rest) hc ds _ F Q #v[o,rfl] (λd a E #v[o,e]=>by subst e;exact#v[_,rfl,#v[_,rfl],st d a]) hF q
theorem nq :∀{ds},(∀d∈ds,cnt d<=c)->fj ds<=c*ds.length
 | [],_=>by simp[fj]
 | d::ds,h=>by
  have e:=h d QN;have b:=nq λd a=>h d<|QG _ a
  rw[fj,QM,Nat.mul_add,Nat.mul_one];lia
def yF {b:DE->M Out}{Q:Out->FdS->Prop}(I:DE->FdS->Prop)(μ:DE->Nat)
  (st:∀E F,I E F->wp (c E F) λt F1=>cIf t (wp (b E F1) λo F2=>∃E2,o = .nx E2/\I E2 F2 /\ μ E2 < μ E)<|Q (.nx E) F1):∀n E F,I E F->μ E<n->wp (dG c b n E F) Q
 | 0,E,F,_,h=>absurd h<|UL _
 | n+1,E,F,hI,h=>by
  rw[dG,d4];refine j8 (st E F hI) λt F1 a=>?_
  cases t with
  | false=>rw[cN]at a;rw[QK<|by simp];exact d6.2 a
  | true =>
   rw[mj]at a;rw[QH rfl,d4];refine j8 a ?_;rintro o F2 ⟨E2,e,d,f⟩
   subst e;exact yF I μ st n E2 F2 d (by lia)
def Ig {b:DE->M Out}{Q:Out->FdS->Prop}(I:DE->FdS->Prop)(μ:DE->Nat)(h0:I E F)
  (st:∀E F,I E F->wp (c E F) λt F1=>cIf t (wp (b E F1) λo F2=>∃E2,o = .nx E2/\I E2 F2 /\ μ E2 < μ E)<|Q (.nx E) F1):wp (mWh c b E F) Q:=by obtain⟨o,a,e,q⟩:=yF I μ st (μ E+1) E F h0<|Sx _;exact#v[o,a,FJ e,q]
def jl {a:DE->M (List My)}{F:FdS}{Q:Out->FdS->Prop}(q:wp (a E F) λxs F1=>∃x y,xs=[x,y]/\i<E.length/\j<E.length/\Q (.nx<|(E.set i<|some<|.dat x).set j<|some<|.dat y) F1):wp (jj i j a E F) Q:=by
 unfold jj;rw[d4];refine j8 q λxs F1 h=>?_
 obtain⟨x,y,rfl,c,b,q⟩:=h;simp only[bN,c,SA,QX,Se,b];exact d6.2 q
def J3:List DV->M My:=G1 ["one","other"] (mSq (jj 0 1<|c8 (sN CN<|c8 (sW 0) k8)<|c8 (sN CN<|c8 (sW 1) k8) k8)
  (mSq (mWh (uB<|s2 gtD (sW 1)<|sC<|.int 0)<|jj 0 1<|c8 (sV 1)<|c8 (s2 Fs (sW 0)<|sW 1) k8)
  (mRt<|sV 0)))
def Dy {Q:My->FdS->Prop}(q:Q (.int (Int.gcd a b:Nat)) F):wp (J3 [.dat<|.int a,.dat<|.int b] F) Q:=by
 unfold J3;walk_at "go";refine jl ?_;walk_at "go";have c:∀z,(if z<0 then -z else z)=z.natAbs:=λz=>by split <;> lia
 rw[c a,c b];refine#v[_,_,rfl,m5 rfl,m5 rfl,j0 ?_];walk_at "go";refine Ig (λE f=>f=F/\∃x y:Nat,E=[some<|.dat<|.int x,some<|.dat<|.int y]/\Nat.gcd x y=Int.gcd a b) (λE=>match E with
  | [_,some<|.dat<|.int y]=>y.natAbs
  | _=>0) #v[rfl,a.natAbs,b.natAbs,rfl,rfl] ?_
 rintro E i ⟨rfl,x,y,rfl,hg⟩;walk_at "go";refine L9 (λe=>?_) (λe=>?_)
 .have d:=Rh e;refine jl ?_;walk_at "go";refine d5 (HB d) ?_;walk_at "go";refine#v[_,_,rfl,m5 rfl,m5 rfl,_,rfl,#v[rfl,y,x % y,rfl,?_],?_]
  .rw[<-hg,Nat.gcd_comm x y,Nat.gcd_rec y x,Nat.gcd_comm]
  .show((x:Int) % y ).natAbs<(y:Int).natAbs;have h:=Xr x (b:=y ) (by lia);have g:=WO x d;lia
 .have d:y=0:=by have:=RX e;lia
  subst d;refine j0 ?_;walk_at "go";rw[Nat.gcd_zero_right]at hg;rw[hg];exact q
def uW :eqD false (.int i) (.int j)=some (.bool<|decide (i=j)):=by show(if SeqAt.shaped (.int i)=true/\SeqAt.shaped (.int j)=true then _ else none)=_;rw[QH (#v[by simp[SeqAt.shaped,My.canLay0,My.depth],by simp[SeqAt.shaped,My.canLay0,My.depth]]),QK<|show ¬(false=true) by decide];refine Sn (λb=>some<|My.bool b) ?_;simp only[My.eqv];exact Bool.beq_eq_decide_eq ..
def D7:List DV->M My:=G1 ["top","bottom","divisor"] (mSq (G7 2<|i3 J3<|vD (sV 0)<|vD (sV 1) l9)
  (mSq (mIf (uB<|s2 ltD (sW 1)<|sC<|.int 0) (G7 2<|s1 gY<|sW 2) mNx)
  (mRt<|G9<|c8 (s2 lU (sW 0)<|sW 2)<|c8 (s2 lU (sW 1)<|sW 2) k8)))
structure Low (i j t b:Int):Prop where
 pos:0<b
 low:Int.gcd t b=1
 as:t*j=i*b
 lt:t.natAbs<=i.natAbs
 lb:b.natAbs<=j.natAbs
def fV (hj:0<j):Low i j (i / (Int.gcd i j:Int)) (j / (Int.gcd i j:Int)):=by
 have hg:0<Int.gcd i j:=WG i (by lia);have c:(Int.gcd i j:Int) ∣ i:=Xj ..;have b:(Int.gcd i j:Int) ∣ j:=VM ..;refine#v[Int.ediv_pos_of_pos_of_dvd hj (by simp[*] ) b,Int.gcd_ediv_gcd_ediv_gcd hg,?_,Int.natAbs_ediv_le_natAbs ..,Int.natAbs_ediv_le_natAbs ..];have a:(Int.gcd i j:Int)≠0:=by lia
 generalize (Int.gcd i j)=g at *;obtain⟨x,rfl⟩:=c;obtain⟨y,rfl⟩:=b;have hg:=a;rw[Int.mul_ediv_cancel_left x hg,Int.mul_ediv_cancel_left y hg,Wq g y,<-Int.mul_assoc,Wq g x,Int.mul_assoc x g y,Wq g y,<-Int.mul_assoc]
def Bm (hj:j<0):Low i j (i / (-(Int.gcd i j:Int))) (j / (-(Int.gcd i j:Int))):=by
 have h:=fV (i:=-i) (j:=-j) (by simp[*] );rw[Int.neg_gcd,Int.gcd_neg]at h;obtain⟨e,d,c,b,a⟩:=h;have g:i / (-(Int.gcd i j) ) = -i / (Int.gcd i j):=by rw[Int.ediv_neg,Int.neg_ediv_of_dvd<|Xj ..]
 have f:j / (-(Int.gcd i j) ) = -j / (Int.gcd i j):=by rw[Int.ediv_neg,Int.neg_ediv_of_dvd<|VM ..]
 rw[g,f];refine#v[e,d,?_,by rw[Int.natAbs_neg]at b;exact b,by rw[Int.natAbs_neg]at a;exact a];rw[Int.mul_neg,Int.neg_mul]at c;lia
def cK {Q:My->FdS->Prop}(hj:j≠0)(hb:j.natAbs<2 ^ 9000)(q:∀t b,Low i j t b->Q (.tuple [.int t,.int b]) F):wp (D7 [.dat<|.int i,.dat<|.int j] F) Q:=by
 unfold D7;walk_at "go";refine Dy ?_;have hg:=WG i hj;have a:Int.gcd i j<=j.natAbs:=Nat.le_of_dvd (by simp[*] )<|Int.ofNat_dvd_left.1<|VM ..;refine#v[m5 rfl,j0 ?_];walk_at "go";refine L9 (λe=>?_) (λe=>?_)
 .have hj:=Rh e;walk_at "go";have c:(-((Int.gcd i j):Int)).natAbs<2 ^ 9000:=by rw[Int.natAbs_neg];exact Ra a hb
  have d:-((Int.gcd i j):Int)≠0:=by simp[*]
  have g:-((Int.gcd i j):Int) ∣ i:=Int.neg_dvd.2<|Xj ..;have f:-((Int.gcd i j):Int) ∣ j:=Int.neg_dvd.2<|VM ..;refine d5 (zL d c) ?_;walk_at "go";refine d5 (zL d c) ?_;walk_at "go";rw[Int.fdiv_eq_ediv_of_dvd g,Int.fdiv_eq_ediv_of_dvd f];exact q _ _<|Bm hj
 .have hj:0<j:=by have:=RX e;lia
  walk_at "go";have c:=Ra a hb;refine d5 (DF (by lia) c) ?_;walk_at "go";refine d5 (DF (by lia) c) ?_;walk_at "go";exact q _ _<|fV hj
def val (B:Int):List Int->Int
 | []=>0
 | x::r=>x+B*val B r
section

theorem il:∀xs ys,val B (xs++ys)=val B xs+B ^ xs.length*val B ys
 | [],ys=>by simp[val]
 | x::xs,ys=>by rw[Ru,val,val,il xs ys,QM,RB];generalize B ^ xs.length=P;grind
theorem sY:∀zs k a c,zs[k]? = some a->val B (zs.set k<|a+c)=val B zs+c*B ^ k
 | [],k,a,c,h=>by simp at h
 | z::zs,0,a,c,h=>by
  simp at h;subst h;simp only[Vs,val];lia
 | z::zs,k+1,a,c,h=>by rw[Vt,val,val,sY zs k a c (by simpa using h),RB];generalize B ^ k=P;grind
theorem fU:∀xs,val 1 xs=xs.sum
 | []=>rfl
 | x::xs=>by rw[val,fU xs,Sj,Int.one_mul]
theorem nB:∀n,val B (List.replicate n 0)=0
 | 0=>rfl
 | n+1=>by rw[Sf,val,nB n];simp
end
theorem dZ:∀{xs:List Int},(∀x∈xs,0<=x)->0<=xs.sum/\∀x∈xs,x<=xs.sum
 | [],_=>by simp
 | y::xs,h=>by
  obtain⟨e,c⟩:=dZ λz b=>h z<|QG _ b
  have d:=h y QN;rw[Sj];refine#v[by lia,λx a=>?_];rcases QQ.1 a with rfl | a
  .omega
  .have:=c x a;lia
def bB:Int:=10000000000000000000000000000000000000000000000000000000000000000*1000000000000000000000000000000000000
def oN:1000000000<bB:=by decide +kernel
def zr:bB.natAbs<2 ^ 400:=by decide +kernel
def gT (h0:0<=x)(h1:x<bB):x.natAbs<X7:=US (by lia) (QO zr<|gh<|by decide)
structure Fl (xs:List Int) L N S:Prop where
 len:xs.length=L
 one:1<=L
 nn:∀x∈xs,0<=x
 v:val bB xs=N
 s:xs.sum=S
 lo:bB ^ (L-1)<=N
 sp:1<=S
 hi:S<bB
def Fl.dig (h:Fl xs L N S):∀x∈xs,0<=x/\x<bB:=λx a=>by have:=(dZ h.nn).2 x a;have:=h.s;have:=h.hi;exact#v[h.nn x a,by lia]
section
variable {F:FdS}
def Cg {Q:Out->FdS->Prop}{v:DE->M My}{ns:List Int}(he:ju E i=some (ns.map .int))
  (q:wp (k E F) λx F1=>∃(n:Int) (j:Nat) (a:Int),x = .int n/\ixN ns.length n=some j/\ns[j]? = some a/\wp (v E F1) λy F2=>∃b,y = .int b/\Q (.nx<|E.set i<|some<|.own<|(ns.set j<|f a b).map .int) F2):wp (iY f i k v E F) Q:=by
 unfold iY;rw[d4];refine j8 q λx F1 h=>?_
 obtain⟨n,j,a,rfl,g,e,h⟩:=h;have d:(ns.map My.int)[j]? = some (.int a):=by rw[Rc,e];rfl
 have c:ixN (ns.map My.int).length n=some j:=by rw[QI];exact g
 simp only[K8,he,QX,c,d];rw[d4];refine j8 h λy F2 h=>?_
 obtain⟨b,rfl,q⟩:=h;simp only[QX];rw[List.map_set]at q;exact d6.2 q
end
def Ep {n:Nat}{i:Int}(h0:0<=i)(h1:i<n):ixN n i=some i.toNat:=by unfold ixN;rw[QH h0,QH h1]
abbrev fT (xs:List Int):My:=.tuple<|xs.map .int
def GB (h0:-(2 ^ 62)<=i)(h1:i<2 ^ 62):eZ [.int i]=some (fJ 0 i.toNat):=QH #v[h0,h1]
def yo (h:n<=100000):eZ [.int (n:Nat)]=some (fJ 0 n):=by have e:=GB (i:=n ) (by simp[*] ) (by lia);rwa [RQ]at e
def pr (p:Int×Int):My:=.tuple [.int p.1,.int p.2]
theorem du {me:DE->M My}{rest:DE}{Q:List My->FdS->Prop}:∀(ps:List (Int×Int)) o o' F,(∀p∈ps,∀F (Q:My->FdS->Prop),Q (f p) F->wp (me (some (.dat<|.int p.1)::some (.dat<|.int p.2)::rest) F) Q)->Q (ps.map f) F->wp (T5 (P7 2<|u6 (bN 0)<|u6 (bN 1) Q6) M4 me (ps.map pr) (o::o'::rest) F) Q
 | [],o,o',F,_,q=>d6.2 q
 | p::ps,o,o',F,h,q=>by rw[QL,T5];have e:P7 2 (u6 (bN 0)<|u6 (bN 1) Q6) (pr p) (o::o'::rest)=some (some (.dat<|.int p.1)::some (.dat<|.int p.2)::rest):=rfl;rw[e,QX,d4];refine aq.2 ?_;rw[QH rfl,d4];refine h p QN F _ ?_;rw[d4];exact du ps _ _ F (λp a=>h p<|QG _ a)<|d6.2 q
theorem dk:∀ns,X9 (ns.map .int)=some ns
 | []=>rfl
 | n::ns=>by rw[QL,X9,dk ns];rfl
def lG {ns:List Int}:ak [.list<|ns.map .int]=some (.int ns.sum):=by simp only[ak,dk,UJ]
def wH {ns:List Int}:ak [.tuple<|ns.map .int]=some (.int ns.sum):=by simp only[ak,dk,UJ]
def E7 (ps:List (Int×Int)):Int:=(ps.map λp=>p.1*p.2).sum
def iC (ps:List (Int×Int)):Int:=(ps.map λp=>p.2).sum
def bV:List DV->M My:=G1 ["pairs","weighed"] (mSq (G7 1<|sN ak<|c8 (sLC (R1<|sW 0) 2 [] (P7 2<|u6 (bN 0)<|u6 (bN 1) Q6) M4<|s2 K0 (sW 0)<|sW 1) k8)
  (mRt<|i3 D7<|vD (sV 1)<|vD (sN ak<|c8 (sLC (R1<|sW 0) 2 [] (P7 2<|u6 (bN 0)<|u6 (bN 1) Q6) M4<|sV 1) k8) l9))
def zo {Q:My->FdS->Prop}(hl:ps.length<=1000)(h:∀p∈ps,p.1.natAbs<X7/\p.2.natAbs<X7)(hp:1<=iC ps)(hb:(iC ps).natAbs<2 ^ 9000)(q:∀t b,Low (E7 ps) (iC ps) t b->Q (.tuple [.int t,.int b]) F):wp (bV [.dat<|.list<|ps.map pr] F) Q:=by
 have c:(ps.map λp=>My.int<|p.1*p.2)=(ps.map λp=>p.1*p.2).map .int:=by rw[Rq];rfl
 have a:(ps.map λp=>My.int p.2)=(ps.map λp=>p.2).map .int:=by rw[Rq];rfl
 unfold bV;walk_at "go";refine#v[sz (by rw[QI];lia),?_];refine du (f:=λp=>.int<|p.1*p.2) ps none none F (λp hp F Q q=>?_) ?_
 .walk_at "go";refine d5 (aj (h p hp).1 (h p hp).2) q
 .rw[c];refine h7.2<|d5 lG ?_;walk_at "go";refine#v[sz (by rw[QI];lia),?_];refine du (f:=λp=>.int p.2) ps none none F (λp hp F Q q=>?_) ?_
  .walk_at "go";exact q
  .rw[a];refine h7.2<|d5 lG ?_;walk_at "go";exact cK (by have:=hp;intro z;have z:iC ps=0:=z;lia) hb q
def en:Nat->List Int->List (Int×Int)
 | _,[]=>[]
 | k,x::r=>((k:Nat),x)::en (k+1) r
theorem yH:∀k xs,(en k xs).length=xs.length
 | _,[]=>rfl
 | k,x::r=>by rw[en,QM,QM,yH]
theorem lW:∀k xs,U2 k (xs.map .int)=(en k xs).map pr
 | _,[]=>rfl
 | k,x::r=>by rw[QL,U2,en,QL,lW];rfl
theorem oW:∀{k} {xs} {p},p∈en k xs->p.2∈xs/\0<=p.1/\p.1<=k+xs.length
 | _,[],p,h=>by simp[en]at h
 | k,x::r,p,h=>by
  rw[en]at h;rcases QQ.1 h with rfl | h
  .exact#v[QN,by simp,by simp only[QM];lia]
  .obtain⟨b,a,c⟩:=oW h;exact#v[QG _ b,a,by rw[QM];lia]
theorem Gf:∀k xs,iC (en k xs)=xs.sum
 | _,[]=>rfl
 | k,x::r=>by have:=Gf (k+1) r;simp only[iC,en,QL,Sj] at *;simp[*]
def iK:List DV->M My:=G1 ["flow"]<|mRt<|i3 bV<|vD (De<|sV 0) l9
def GO {m:DE->M My}{F:FdS}{Q:My->FdS->Prop}(q:wp (m E F) λx F1=>oB (fE x) λds=>ds.length<=1000/\Q (.list<|U2 0 ds) F1):wp (De m E F) Q:=by
 unfold De;rw[d4];refine j8 q λx F1 h=>?_
 obtain⟨ds,e,b,a⟩:=h;rw[e,QX,QH b];exact d6.2 a
def Fl.big (h:Fl xs L N S)(hL:L<=1000):∀p∈en 0 xs,p.1.natAbs<X7/\p.2.natAbs<X7:=λp b=>by obtain⟨a,c,d⟩:=oW b;have:=h.len;exact#v[gT c (by have:=oN;lia),gT (h.dig _ a).1 (h.dig _ a).2]
def Fl.s9 (h:Fl xs L N S):S.natAbs<2 ^ 9000:=by have b:=h.sp;have a:=h.hi;exact US (by lia) (QO zr<|Rf (by decide)<|by decide)
def vP {Q:My->FdS->Prop}(h:Fl xs L N S)(hL:L<=1000)(q:∀t b,Low (E7<|en 0 xs) S t b->Q (.tuple [.int t,.int b]) F):wp (iK [.dat<|fT xs] F) Q:=by
 have hl:=h.len;have a:iC (en 0 xs)=S:=by rw[Gf,h.s]
 unfold iK;walk_at "go";refine GO ?_;walk_at "go";refine#v[by rw[QI];lia,?_];rw[lW];walk_at "go";refine zo (by rw[yH];lia) (h.big hL) (by rw[a];exact h.sp) (by rw[a];exact h.s9) ?_;rw[a];intro t b c;walk_at "go";exact q t b c
def bO:List DV->M My:=G1 ["flow"]<|mRt<|sN ak<|c8 (sW 0) k8
def CL {Q:My->FdS->Prop}(q:Q (.int xs.sum) F):wp (bO [.dat<|fT xs] F) Q:=by unfold bO;walk_at "go";refine d5 wH ?_;walk_at "go";exact q
def ar:List DV->M My:=G1 ["flow","k"] (mSq (mIf (cS<|uB<|sCh leD ltD (sC<|.int 0) (sW 1)<|sN ua<|c8 (sW 0) k8) (mRt<|sC<|.tuple [.int 0,.int 1]) mNx)
  (mRt<|i3 D7<|vD (s2 ixD (sW 0)<|sW 1)<|vD (i3 bO<|vD (sV 0) l9) l9))
def jC (xs:List Int)(k:Int):Int:=if 0<=k/\k<xs.length then xs.getD k.toNat 0 else 0
def Gk {xs:List Int}{k:Int}(h0:0<=k)(h1:k<xs.length):atI (xs.map My.int) k=some (.int<|jC xs k):=by
 unfold atI jC;rw[QI,Ep h0 h1,QX,QH #v[h0,h1],Rc];have a:k.toNat<xs.length:=by simp[*]
 simp[QT a]
def AH {Q:My->FdS->Prop}(h:Fl xs L N S)(q:∀t b,Low (jC xs k) S t b->Q (.tuple [.int t,.int b]) F):wp (ar [.dat<|fT xs,.dat<|.int k] F) Q:=by
 have e:=h.sp;have c:=λf=>by
  refine q 0 1 #v[by decide,by decide,?_,?_,?_]
  .unfold jC;rw[QK f];simp
  .simp
  .omega
 refine D6.2<|w6.2<|U1.2<|aU.2<|aM.2<|Jl.2 ?_;walk_at "go";refine L9 (λa=>?_) (λa=>?_)
 .have a:=Rh a;walk_at "go";rw[QI];by_cases d:k<xs.length
  .rw[Rg d];walk_at "go";refine d5 (Gk a d) ?_;walk_at "go";refine CL ?_;walk_at "go";rw[h.s];refine cK (by lia) h.s9 λt b g=>?_
   walk_at "go";exact q t b g
  .rw[Rk d];walk_at "go";exact c λz=>d z.2
 .have a:=RX a;walk_at "go";exact c λz=>a z.1
def qd (q:Rat):My:=.tuple [.int q.num,.int ((q.den:Nat):Int)]
def lL (h:Low i j t b)(hj:0<j):My.tuple [.int t,.int b]=qd (mkRat i j.toNat):=by
 obtain⟨k,d,c,_,_⟩:=h;have a:b.toNat≠0:=by lia
 have g:t.natAbs.Coprime b.toNat:=by
  have:b.toNat=b.natAbs:=by lia
  rw[this];exact d
 have f:(#v[t,b.toNat,a,g])=mkRat t b.toNat:=by rw[Rat.mk_eq_mkRat]
 have e:mkRat t b.toNat=mkRat i j.toNat:=by rw[Xl a<|by lia];rw[show((j.toNat:Nat))=j by lia,show((b.toNat:Nat))=b by lia];exact c
 rw[<-e,<-f];unfold qd;simp only;rw[show((b.toNat:Nat))=b by lia]
def wj {Q:My->FdS->Prop}(hj:0<j)(hb:j.natAbs<2 ^ 9000)(q:Q (qd<|mkRat i j.toNat) F):wp (D7 [.dat<|.int i,.dat<|.int j] F) Q :=
 cK (by lia) hb λt b h=>by rw[lL h hj];exact q
def qB {Q:My->FdS->Prop}(hj:0<n)(hb:n<2 ^ 9000)(q:Q (qd<|mkRat i n) F):wp (D7 [.dat<|.int i,.dat<|.int (n:Nat)] F) Q :=
 wj (by simp[*] ) (by simp[*] ) (by rw[RQ];exact q)
structure Sz (p:Rat):Prop where
 num:p.num.natAbs<2 ^ 4000
 den:p.den<2 ^ 4000
def p4 (h:n<2 ^ 4000):n<X7:=QO h (gh<|by decide)
def Sz.dd (hp:Sz p)(hq:Sz q):p.den*q.den<2 ^ 9000:=by have:=Xm hp.den hq.den;rw[<-TY]at this;exact US this (RH (by decide)<|by decide)
def Sz.mul1 (hp:Sz p)(hq:Sz q):K0 (.int p.num) (.int ((q.den:Nat):Int))=some (.int<|p.num*((q.den:Nat):Int)):=aj (p4 hp.num) (p4 (by have:=hq.den;simp[*] ))
def Sz.mul2 (hp:Sz p)(hq:Sz q):K0 (.int ((p.den:Nat):Int)) (.int ((q.den:Nat):Int))=some (.int (((p.den*q.den:Nat)):Int)):=by rw[Int.natCast_mul];exact aj (p4 (by have:=hp.den;lia)) (p4 (by have:=hq.den;lia))
def Sz.mul3 (hp:Sz p)(hq:Sz q):K0 (.int p.num) (.int q.num)=some (.int<|p.num*q.num):=aj (p4 hp.num)<|p4 hq.num
def den_pos (p:Rat):0<p.den:=WT p.den_nz
def ip:List DV->M My:=G1 ["one","other"]<|mRt<|i3 D7<|vD (s2 Q4 (s2 K0 (s2 ixD (sW 0)<|sC<|.int 0)<|s2 ixD (sW 1)<|sC<|.int 1)<|s2 K0 (s2 ixD (sW 1)<|sC<|.int 0)<|s2 ixD (sW 0)<|sC<|.int 1)<|vD (s2 K0 (s2 ixD (sW 0)<|sC<|.int 1)<|s2 ixD (sW 1)<|sC<|.int 1) l9
def gm:List DV->M My:=G1 ["one","other"]<|mRt<|i3 D7<|vD (s2 bY (s2 K0 (s2 ixD (sW 0)<|sC<|.int 0)<|s2 ixD (sW 1)<|sC<|.int 1)<|s2 K0 (s2 ixD (sW 1)<|sC<|.int 0)<|s2 ixD (sW 0)<|sC<|.int 1)<|vD (s2 K0 (s2 ixD (sW 0)<|sC<|.int 1)<|s2 ixD (sW 1)<|sC<|.int 1) l9
def fS:List DV->M My:=G1 ["one","other"]<|mRt<|i3 D7<|vD (s2 K0 (s2 ixD (sW 0)<|sC<|.int 0)<|s2 ixD (sW 1)<|sC<|.int 0)<|vD (s2 K0 (s2 ixD (sW 0)<|sC<|.int 1)<|s2 ixD (sW 1)<|sC<|.int 1) l9
section
variable {Q:My->FdS->Prop}
def ix0:ixD (qd p) (.int 0)=some (.int p.num):=rfl
def ix1:ixD (qd p) (.int 1)=some (.int ((p.den:Nat):Int)):=rfl
def xb (hp:Sz p)(hq:Sz q)(k:Q (qd<|p+q) F):wp (ip [.dat<|qd p,.dat<|qd q] F) Q:=by refine D6.2<|A4.2<|i7.2<|A8.2<|n9.2<|n9.2<|n9.2<|C2.2<|E3 rfl<|i9.2<|d5 ix0<|n9.2<|C2.2<|E3 rfl<|i9.2<|d5 ix1<|d5 (hp.mul1 hq) ?_;refine n9.2<|n9.2<|C2.2<|E3 rfl<|i9.2<|d5 ix0<|n9.2<|C2.2<|E3 rfl<|i9.2<|d5 ix1<|d5 (hq.mul1 hp) ?_;refine d5 E8<|A8.2<|n9.2<|n9.2<|C2.2<|E3 rfl<|i9.2<|d5 ix1<|n9.2<|C2.2<|E3 rfl<|i9.2<|d5 ix1<|d5 (hp.mul2 hq)<|j3.2 ?_;refine qB (WI (den_pos p)<|den_pos q) (hp.dd hq)<|l7 ?_;rw[Rat.add_def,TZ]at k;exact k
def rH (hp:Sz p)(hq:Sz q)(k:Q (qd<|p-q) F):wp (gm [.dat<|qd p,.dat<|qd q] F) Q:=by refine D6.2<|A4.2<|i7.2<|A8.2<|n9.2<|n9.2<|n9.2<|C2.2<|E3 rfl<|i9.2<|d5 ix0<|n9.2<|C2.2<|E3 rfl<|i9.2<|d5 ix1<|d5 (hp.mul1 hq) ?_;refine n9.2<|n9.2<|C2.2<|E3 rfl<|i9.2<|d5 ix0<|n9.2<|C2.2<|E3 rfl<|i9.2<|d5 ix1<|d5 (hq.mul1 hp) ?_;refine d5 X5<|A8.2<|n9.2<|n9.2<|C2.2<|E3 rfl<|i9.2<|d5 ix1<|n9.2<|C2.2<|E3 rfl<|i9.2<|d5 ix1<|d5 (hp.mul2 hq)<|j3.2 ?_;refine qB (WI (den_pos p)<|den_pos q) (hp.dd hq)<|l7 ?_;rw[Rat.sub_def,TZ]at k;exact k
def xo (hp:Sz p)(hq:Sz q)(k:Q (qd<|p*q) F):wp (fS [.dat<|qd p,.dat<|qd q] F) Q:=by refine D6.2<|A4.2<|i7.2<|A8.2<|n9.2<|n9.2<|C2.2<|E3 rfl<|i9.2<|d5 ix0<|n9.2<|C2.2<|E3 rfl<|i9.2<|d5 ix0<|d5 (hp.mul3 hq) ?_;refine A8.2<|n9.2<|n9.2<|C2.2<|E3 rfl<|i9.2<|d5 ix1<|n9.2<|C2.2<|E3 rfl<|i9.2<|d5 ix1<|d5 (hp.mul2 hq)<|j3.2 ?_;refine qB (WI (den_pos p)<|den_pos q) (hp.dd hq)<|l7 ?_;rw[Rat.mul_def,TZ]at k;exact k
end
def jG (a)(hD:D≠0):(mkRat a D).den ∣ D/\∀M,a.natAbs<=M*D->(mkRat a D).num.natAbs<=M*(mkRat a D).den:=by
 rw[<-TZ hD,Rat.normalize_eq];have e:a.natAbs.gcd D ∣ D:=Nat.gcd_dvd_right ..;have j:a.natAbs.gcd D ∣ a.natAbs:=Nat.gcd_dvd_left ..;have c:0<a.natAbs.gcd D:=Nat.gcd_pos_of_pos_right _<|WT hD;refine#v[Nat.div_dvd_of_dvd e,λM h=>?_];show(a / ((a.natAbs.gcd D:Nat)) ).natAbs<=M*(D / a.natAbs.gcd D);generalize a.natAbs.gcd D=g at *;obtain⟨x,d⟩:=e;obtain⟨y,b⟩:=j;have l:D / g=x:=by rw[d];exact Nat.mul_div_cancel_left x c
 have k:(a / g ).natAbs=y:=by have f:=Int.ofNat_dvd_left.2 #v[y,b];rw[Int.natAbs_ediv_of_dvd f,b,Ue];exact Nat.mul_div_cancel_left y c
 rw[l,k];rw[b,d]at h;have i:g*y<=g*(M*x):=by
  have:M*(g*x)=g*(M*x):=by rw[<-Nat.mul_assoc,Xf M g,Nat.mul_assoc]
  lia
 exact Nat.le_of_mul_le_mul_left i c
structure Qb D M (p:Rat):Prop where
 den:p.den ∣ D
 num:p.num.natAbs<=M*p.den
def Qb.as {M}(h:Qb D M p)(hD:D≠0):∃a,p=mkRat a D/\a.natAbs<=M*D:=by
 obtain⟨x,b⟩:=h.den;refine#v[p.num*x,?_,?_]
 .conv=>lhs;rw[<-Rat.mkRat_self p]
  rw[Xl p.den_nz hD,b];push_cast;grind
 .rw[UW,Ue,b];have:=TF x h.num;rwa [Nat.mul_assoc]at this
def Qb.of {M}(hD:D≠0)(h:a.natAbs<=M*D):Qb D M (mkRat a D):=#v[(jG a hD).1,(jG a hD).2 M h]
def Qb.add {M}(hp:Qb D M p)(hq:Qb D M' q)(hD:D≠0):Qb D (M+M') (p+q):=by
 obtain⟨a,rfl,d⟩:=hp.as hD;obtain⟨b,rfl,c⟩:=hq.as hD;have e:mkRat a D+mkRat b D=mkRat (a+b) D:=by rw[Rat.mkRat_add_mkRat _ _ hD hD,Xl (Wr hD hD) hD];push_cast;grind
 rw[e];refine Qb.of hD ?_;rw[Nat.add_mul];omega
def Qb.mul {M}(hp:Qb D M p)(hq:Qb D' M' q)(hD:D≠0)(hD':D'≠0):Qb (D*D') (M*M') (p*q):=by
 obtain⟨a,rfl,d⟩:=hp.as hD;obtain⟨b,rfl,c⟩:=hq.as hD';rw[Rat.mkRat_mul_mkRat];refine Qb.of (Wr hD hD') ?_;rw[UW];have:=TR d c;have e:M*D*(M'*D')=M*M'*(D*D'):=by grind
 lia
def Qb.sz {M}(h:Qb D M p)(hD:D≠0)(h1:D<2 ^ 3000)(h2:M<2 ^ 1000):Sz p:=by
 have a:=Nat.le_of_dvd (WT hD) h.den;refine#v[?_,Ra a<|US h1<|RH (by decide)<|by decide];refine Ra h.num ?_;have e:(2) ^ 4000=2 ^ 1000*2 ^ 3000:=by rw[<-TY]
 rw[e];exact Xm h2<|Ra a h1
end L3
namespace Bz
open PySem L2 L3
def c_added:List DV->M My:=G1 ["parts","told","part"] (mSq (G7 1<|sC<|.tuple [.int 0,.int 1])
  (mSq (aN (R1<|sV 0) (bN 2)<|G7 1<|i3 ip<|vD (sV 1)<|vD (sV 2) l9)
  (mRt<|sV 1)))
def Qb.mono {M}(h:Qb D M p)(hd:D ∣ D')(hm:M<=M'):Qb D' M' p:=#v[Nat.dvd_trans h.den hd,QZ h.num<|TF _ hm]
section
def sumQ (ps:List Rat):Rat:=ps.foldl (· + ·) 0
def jK :sumQ (ps++[p])=sumQ ps+p:=by simp[sumQ]
def dU {ps:List Rat}(h:ps[i]? = some p):sumQ (ps.take<|i+1)=sumQ (ps.take i)+p:=by rw[Ut,h,UN,jK]
def lp {M} (hD:D≠0){ps:List Rat}(h:∀p∈ps,Qb D M p):∀i,i<=ps.length->Qb D (i*M) (sumQ<|ps.take i):=by
 intro i;induction i with
 | zero=>intro _;exact#v[Nat.one_dvd _,by simp[sumQ]]
 | succ i a =>intro b;have e:=QT (show i<ps.length by lia);rw[dU e,Nat.add_mul,Xv];exact(a<|by lia).add (h _<|SI _) hD
end
def HG {h:Nat}:jC xs (h:Int)=xs.getD h 0:=by
 unfold jC;split
 .rw[RQ]
 .rename_i a;rw[Rl,SS<|by lia];rfl
def GG (h:(fJ lo n)[i]? = some d):i<n/\d = .int (lo+i):=by have hl:=(QR.1 h).1;rw[sG]at hl;unfold fJ at h;rw[Rc,Tc hl]at h;cases h;exact#v[hl,rfl]
def c_less:List DV->M My:=G1 ["one","other"]<|mRt<|s2 ltD (s2 K0 (s2 ixD (sW 0)<|sC<|.int 0)<|s2 ixD (sW 1)<|sC<|.int 1)<|s2 K0 (s2 ixD (sW 1)<|sC<|.int 0)<|s2 ixD (sW 0)<|sC<|.int 1
def c_word_of:List DV->M My:=G1 ["flow","hands","brought","most"] (mSq (jj 2 3<|c8 (i3 iK<|vD (sV 0) l9)<|c8 (G9<|c8 (sV 1)<|c8 (sC<|.int 1) k8) k8)
  (mSq (mIf (uT<|i3 c_less<|vD (sV 2)<|vD (sV 3) l9) (mRt<|sC<|.str "rests") mNx)
  (mSq (mIf (uT<|i3 c_less<|vD (sV 3)<|vD (sV 2) l9) (mRt<|sC<|.str "runs") mNx)
  (mRt<|sIf (uB<|s2 (eqD false) (i3 ar<|vD (sV 0)<|vD (sV 1) l9)<|sC<|.tuple [.int 1,.int 1]) (sC<|.str "still")<|sC<|.str "swings"))))
def BQ {xs:List Int}(h:∀x∈xs,0<=x)(k):0<=xs.getD k 0:=by
 rw[Rl];cases e:xs[k]? with
 | none=>simp
 | some x=>exact h x<|RA e
def rJ {xs:List Int}(h:∀x∈xs,0<=x)(k):xs.getD k 0<=xs.sum:=by
 rw[Rl];cases e:xs[k]? with
 | none=>exact(dZ h).1
 | some x=>exact(dZ h).2 x<|RA e
def eqT (h1:PySem.SeqAt.shaped (.tuple xs)=true)(h2:PySem.SeqAt.shaped (.tuple ys)=true):eqD false (.tuple xs) (.tuple ys)=some (.bool<|My.eqv (.tuple xs)<|.tuple ys):=by unfold eqD;simp[h1,h2]
def ans (xs:List Int)(h:Nat)(S:Int):Str:=if E7 (en 0 xs)<(h:Int)*S then "rests" else if (h:Int)*S<E7 (en 0 xs) then "runs" else if xs.getD h 0=S then "still" else "swings"
section
variable {Q:My->FdS->Prop}
def iS (ha:a.natAbs<X7)(hb:b.natAbs<X7)(hc:c.natAbs<X7)(hd:d.natAbs<X7)(q:Q (.bool<|decide (a*d<c*b)) F):wp (c_less [.dat<|.tuple [.int a,.int b],.dat<|.tuple [.int c,.int d]] F) Q:=by unfold c_less;walk_at "go";refine d5 (aj ha hd) ?_;walk_at "go";refine d5 (aj hc hb) ?_;walk_at "go";exact q
def yI (hf:Fl xs L N S)(hL:L<=1000):(E7<|en 0 xs).natAbs<X7:=by
 have d:∀{ps},(∀p∈ps,0<=p.1/\p.1<=1000/\0<=p.2)->0<=E7 ps/\E7 ps<=1000*iC ps:=by
  intro ps;induction ps with
  | nil=>intro _;simp[E7,iC]
  | cons p ps f =>
   intro h;obtain⟨k,j⟩:=f λp e=>h p<|QG _ e
   obtain⟨a,b,c⟩:=h p QN;simp only[E7,iC,QL,Sj] at *;have i:=SQ b c;have g:=RD a c;lia
 have hl:=hf.len;obtain⟨a,b⟩:=d (ps:=en 0 xs) λp e=>by obtain⟨a,b,c⟩:=oW e;exact#v[b,by lia,hf.nn _ a]
 rw[Gf,hf.s]at b;refine QO (m:=2 ^ 500) ?_ (gh<|by decide);have:(1000*bB).natAbs<2 ^ 500:=by decide +kernel
 have:=hf.hi;lia
def AU (hl:Low lot S t b)(hs:1<=S):(t=1/\b=1)↔lot=S:=by
 obtain⟨d,c,a,_,_⟩:=hl;constructor
 .rintro ⟨rfl,rfl⟩;lia
 .intro e;subst e;rw[Wq lot b]at a;have:=Int.eq_of_mul_eq_mul_right (by lia) a;subst this;rw[Int.gcd_self]at c;lia
def lt_iff (hl:Low w S t b)(hs:1<=S):(t<j*b↔w<j*S)/\(j*b<t↔j*S<w):=by
 obtain⟨i,h,g,_,_⟩:=hl;have f:(t-j*b)*S=(w-j*S)*b:=by grind
 have e:∀x,(x*S<0↔x<0)/\(0<x*S↔0<x):=λx=>by
  refine#v[#v[λz=>?_,λz=>Int.mul_neg_of_neg_of_pos z<|by lia],#v[λz=>?_,λz=>Ua z<|by lia]]
  .rcases Xn x 0 with y | y
   .exact y
   .have:=RD y (show 0<=S by lia);lia
  .rcases Xn 0 x with y | y
   .exact y
   .have:=RD (show 0 <= -x by lia) (show 0<=S by lia);rw[Int.neg_mul]at this;lia
 have d:∀x,(x*b<0↔x<0)/\(0<x*b↔0<x):=λx=>by
  refine#v[#v[λz=>?_,λz=>Int.mul_neg_of_neg_of_pos z<|by lia],#v[λz=>?_,λz=>Ua z<|by lia]]
  .rcases Xn x 0 with y | y
   .exact y
   .have:=RD y (show 0<=b by lia);lia
  .rcases Xn 0 x with y | y
   .exact y
   .have:=RD (show 0 <= -x by lia) (show 0<=b by lia);rw[Int.neg_mul]at this;lia
 have a:=e<|t-j*b;have c:=d<|w-j*S;rw[f]at a;constructor
 .constructor
  .intro z;have:=c.1.mp (a.1.mpr<|by lia);omega
  .intro z;have:=a.1.mp (c.1.mpr<|by lia);lia
 .constructor
  .intro z;have:=c.2.mp (a.2.mpr<|by lia);lia
  .intro z;have:=a.2.mp (c.2.mpr<|by lia);lia
def gdi (h:i.natAbs<=bB.natAbs):Gd 0 1 0 (.int i):=gK (Ra h<|by decide +kernel)
def oQ (hf:Fl xs L N S)(hL:L<=1000)(hh:h<=3)(q:Q (.str<|ans xs h S) F):wp (c_word_of [.dat<|fT xs,.dat<|.int (h:Nat)] F) Q:=by
 have f:=hf.sp;have r:=hf.hi;have I:=oN;unfold c_word_of;refine D6.2<|w6.2<|jl<|c6.2<|i7.2<|A8.2<|B8.2<|B9 rfl<|j3.2 ?_;refine vP hf hL λt b s=>?_
 have ht:=Ra s.lt<|yI hf hL;have i:=Ra s.lb (gT (x:=S) (by lia) r);have g:((h:Nat):Int).natAbs<X7:=gT (by simp[*] ) (by lia);have l:(1:Int).natAbs<X7:=gT (by decide) (by lia);obtain⟨o,i2⟩:=lt_iff s f;refine c6.2 (A6.2<|c6.2<|B8.2<|B9 rfl<|c6.2<|i9.2<|h7.2 #v[sz (by simp),h7.2 #v[_,_,rfl,m5 rfl,m5 rfl,j0 ?_]]);refine w6.2<|U1.2<|eG.2<|i7.2<|A8.2<|B8.2<|B9 rfl<|A8.2<|B8.2<|B9 rfl<|j3.2 ?_;refine iS ht i g l ?_;rw[VN];refine d5 rfl (L9 (λe=>?_)<|λe=>?_)
 .have e:=Rh e;refine A4.2<|i9.2<|Z1<|l7 ?_;unfold ans at q;rwa [QH<|o.1 e]at q
 .have e:=RX e;refine L0.2<|j0<|w6.2<|U1.2<|eG.2<|i7.2<|A8.2<|B8.2<|B9 rfl<|A8.2<|B8.2<|B9 rfl<|j3.2 ?_;refine iS g l ht i ?_;rw[VN];refine d5 rfl (L9 (λc=>?_)<|λc=>?_)
  .have c:=Rh c;refine A4.2<|i9.2<|Z1<|l7 ?_;unfold ans at q;rwa [QK<|λz=>e<|o.2 z,QH<|i2.1 c]at q
  .have c:=RX c;unfold ans at q;rw[QK<|λz=>e<|o.2 z,QK<|λz=>c<|i2.2 z]at q;refine L0.2<|j0<|A4.2<|Ed.2<|aM.2<|n9.2<|i7.2<|A8.2<|B8.2<|B9 rfl<|A8.2<|B8.2<|B9 rfl<|j3.2 ?_;refine AH hf λm v a=>?_
   rw[HG]at a;have w:=AU a f;have p:=rJ hf.nn h;have D:=BQ hf.nn h;rw[hf.s]at p;have H:=a.lt;have G:=a.lb;have sh:PySem.SeqAt.shaped (.tuple [.int m,.int v])=true:=by
    refine Gd.shaped (n:=0) (N:=3) (k:=1) (Gd.tup (M:=1) (λd A=>?_)<|by simp[fj,cnt]) (by decide) (by decide);simp only[QQ,Sg,Uo]at A;rcases A with rfl | rfl
    .exact gdi (by lia)
    .exact gdi (by lia)
   refine i9.2<|d5 (eqT sh rfl) ?_;have E:My.eqv (.tuple [.int m,.int v]) (.tuple [.int 1,.int 1])=decide (xs.getD h 0=S):=by
    by_cases z:xs.getD h 0=S
    .obtain⟨C,B⟩:=w.2 z;rw[Rg z,C,B];rfl
    .rw[Rk z];have:=λy=>z<|w.1 y
     simp only[My.eqv,My.eqvAll];simpa using this
   rw[E];refine d5 rfl (L9 (λu=>?_)<|λu=>?_)
   .rw[QH<|Rh u]at q;exact i9.2<|l7 q
   .rw[QK<|RX u]at q;exact i9.2<|l7 q
end
def c_over:List DV->M My:=G1 ["one","other"]<|mRt<|i3 D7<|vD (s2 K0 (s2 ixD (sW 0)<|sC<|.int 0)<|s2 ixD (sW 1)<|sC<|.int 1)<|vD (s2 K0 (s2 ixD (sW 0)<|sC<|.int 1)<|s2 ixD (sW 1)<|sC<|.int 0) l9
section
variable {Q:My->FdS->Prop}
def EL (hp:Sz p)(hq:Sz q)(h0:0<q)(k:Q (qd<|p / q) F):wp (c_over [.dat<|qd p,.dat<|qd q] F) Q:=by
 have m:0<q.num:=by have:=(Rat.lt_iff 0 q).1 h0;simpa using this
 have u:=den_pos p;unfold c_over;refine D6.2<|A4.2<|i7.2<|A8.2<|n9.2<|n9.2<|C2.2<|E3 rfl<|i9.2<|d5 ix0<|n9.2<|C2.2<|E3 rfl<|i9.2<|d5 ix1<|d5 (Sz.mul1 hp hq) ?_;refine A8.2 (n9.2<|n9.2<|C2.2<|E3 rfl<|i9.2<|d5 ix1<|n9.2<|C2.2<|E3 rfl<|i9.2<|d5 ix0<|d5 (aj (p4 (by have:=hp.den;simp[*] ))<|p4 hq.num)<|j3.2 ?_);have n:0<((p.den:Nat):Int)*q.num:=Ua (by simp[*] ) m;refine wj n ?_ ?_
 .rw[UW,Ue];have a:=Xm hp.den hq.num;rw[<-TY]at a;exact QO a (Rf (by decide)<|by decide)
 .have e:mkRat (p.num*((q.den:Nat):Int)) (((p.den:Nat):Int)*q.num).toNat=p / q:=by
   have s:(((p.den:Nat):Int)*q.num).toNat=p.den*q.num.toNat:=by
    have:(((p.den:Nat):Int)*q.num)=((p.den*q.num.toNat:Nat):Int):=by push_cast;rw[Int.toNat_of_nonneg<|by lia]
    rw[this,RQ]
   have h:q≠0:=λz=>by rw[z]at h0;exact absurd h0 (by decide)
   rw[s,TU];have r:p*(p.den:Rat)=(p.num:Rat):=by
    have d:=Rat.mkRat_self p;rw[TU]at d;have b:(p.den:Rat)≠0:=by exact_mod_cast p.den_nz
    have c:=UO (a:=(p.num:Rat)) b;rw[d]at c;exact c
   have o:q*(q.den:Rat)=q.num:=by
    have d:=Rat.mkRat_self q;rw[TU]at d;have b:(q.den:Rat)≠0:=by exact_mod_cast q.den_nz
    have c:=UO (a:=(q.num:Rat)) b;rw[d]at c;exact c
   have en:((q.num.toNat:Nat):Rat)=q.num:=by have:((q.num.toNat:Nat):Int)=q.num:=Int.toNat_of_nonneg (by lia);exact_mod_cast Sn (λz:Int=>z ) this
   push_cast;rw[en];have i:(p.den:Rat)≠0:=by exact_mod_cast p.den_nz
   have l:q.den ≠0:=by exact_mod_cast q.den_nz
   have f:(q.num:Rat)≠0:=by exact_mod_cast (show q.num≠0 by simp[*] )
   have j:=λz=>(Rat.mul_eq_zero.1 z).elim i f
   have v:=UO (a:=(p.num:Rat)*(q.den:Rat)) j;have t:=UO (a:=p) h;have g:(p.num*q.den / (p.den*q.num )-p / q)*(p.den*q.num )=0:=by
    generalize hy:p / q=y at *;generalize p.num*q.den / (p.den*q.num )=z at *;have:y*(p.den*q.num )=p.num*q.den:=by rw[<-r,<-o,<-t];grind
    grind
   rcases Rat.mul_eq_zero.1 g with z | z
   .grind
   .exact absurd z j
  rw[e];exact l7 k
end
end Bz
namespace L3
open PySem PySem.Spec PyProof.Rows L2
def HY (l:List Nat):List My:=l.map λi:Nat=>My.int (i:Int)
def BG (n):fJ 0 n=HY (List.range n):=by exact SN λi _=>by congr 1;simp[*]
end L3
namespace L3
open L2
section
abbrev Bt:=List<|Int×Int
def O4 (bt:Bt):Int:=(bt.map λc=>c.2).sum
end
end L3
namespace L3
open PySem PySem.Spec PyProof.Rows L2
section
abbrev cmD (c:Int×Int):My:=.tuple [.int c.1,.int c.2]
abbrev b2 :My->DE->Option DE:=P7 2<|u6 (bN 0)<|u6 (bN 1) Q6
section

theorem GV {me:DE->M My}{α:Type}{x y:α->My}{f}{rest:DE}{Q:List My->FdS->Prop}:∀(ds:List α) o o',(∀d∈ds,∀F (Q:My->FdS->Prop),Q (f d) F->wp (me (some (.dat<|x d)::some (.dat<|y d)::rest) F) Q)->Q (ds.map f) F->wp (T5 b2 M4 me (ds.map λd=>.tuple [x d,y d]) (o::o'::rest) F) Q
 | [],o,o',_,q=>d6.2 q
 | d::ds,o,o',h,q=>by rw[QL,T5];have e:b2 (.tuple [x d,y d]) (o::o'::rest)=some (some (.dat<|x d)::some (.dat<|y d)::rest):=rfl;rw[e,QX,d4];refine aq.2 ?_;rw[QH rfl,d4];refine h d QN F _ ?_;rw[d4];exact GV ds _ _ (λd a=>h d<|QG _ a)<|d6.2 q
end
abbrev btD (b:Bt):My:=.tuple<|b.map cmD
def Ba {f:Nat->My}(h:((List.range n).map f)[i]? = some d):i<n/\d=f i:=by rw[Rc]at h;obtain⟨b,e,rfl⟩:=Re.1 h;obtain⟨a,rfl⟩:=QR.1 e;simp only[Uu]at a;exact#v[a,by simp]
def Gi {me:DE->M My}{α:Type}{x}{f}{rest:DE}{Q:List My->FdS->Prop}:∀(ds:List α) o,(∀d∈ds,∀F (Q:My->FdS->Prop),Q (f d) F->wp (me (some (.dat<|x d)::rest) F) Q)->Q (ds.map f) F->wp (T5 (bN 0) M4 me (ds.map x) (o::rest) F) Q:=λds o h q=>by
 have a:∀(l:List α) o Q,(∀d∈l,d∈ds)->Q (l.map f) F->wp (T5 (bN 0) M4 me (l.map x) (o::rest) F) Q:=by
  intro l;induction l with
  | nil=>intro o Q _ q;exact d6.2 q
  | cons d l c =>intro o Q b q;rw[QL,T5];have e:bN 0 (x d) (o::rest)=some (some (.dat<|x d)::rest):=rfl;rw[e,QX,d4];refine aq.2 ?_;rw[QH rfl,d4];refine h d (b d QN) F _ ?_;rw[d4];exact c _ _ (λz g=>b z<|QG _ g)<|d6.2 q
 exact a ds o Q (λd i=>i) q
end
section
structure Sto {α:Type} (lt:α->α->Bool):Prop where
 irr:∀a,lt a a=false
 tr:∀a b c,lt a b=true->lt b c=true->lt a c=true
 tot:∀a b,a≠b->lt a b=true\/lt b a=true
def Sto.as {lt} (h:Sto lt)(h1:lt a b=true):lt b a=false:=by
 cases e:lt b a
 .rfl
 .have:=h.tr a b a h1 e;rw[h.irr a]at this;cases this
section
variable {α:Type}[DecidableEq α]{lt:α->α->Bool}
def Y4 (lt:α->α->Bool):List α->List α->Bool
 | [],[]=>false
 | [],_::_=>true
 | _::_,[]=>false
 | a::l,b::m=>if a=b then Y4 lt l m else lt a b
theorem lY (h:Sto lt):∀l,Y4 lt l l=false
 | []=>rfl
 | a::l=>by rw[Y4,QH rfl];exact lY h l
theorem rD (h:Sto lt):∀l m n,Y4 lt l m=true->Y4 lt m n=true->Y4 lt l n=true
 | [],[],n,h1,h2=>by cases h1
 | [],b::m,[],h1,h2=>by cases h2
 | [],b::m,c::n,h1,h2=>rfl
 | a::l,[],n,h1,h2=>by cases h1
 | a::l,b::m,[],h1,h2=>by cases h2
 | a::l,b::m,c::n,h1,h2=>by
  rw[Y4]at h1 h2 ⊢;by_cases f:a=b
  .subst f;rw[QH rfl]at h1;by_cases d:a=c
   .rw[QH d]at h2 ⊢;exact rD h l m n h1 h2
   .rw[QK d]at h2 ⊢;exact h2
  .rw[QK f]at h1;by_cases d:b=c
   .subst d;rw[QK f];exact h1
   .rw[QK d]at h2;have e:=h.tr a b c h1 h2;rw[QK λz=>by subst z;rw[h.irr]at e;cases e];exact e
theorem nF (h:Sto lt):∀l m,l≠m->Y4 lt l m=true\/Y4 lt m l=true
 | [],[],n=>absurd rfl n
 | [],b::m,_=>.inl rfl
 | a::l,[],_=>.inr rfl
 | a::l,b::m,n=>by
  rw[Y4,Y4];by_cases e:a=b
  .rw[QH e,QH e.symm];exact nF h l m λz=>n (by rw[e,z])
  .rw[QK e,QK λz=>e z.symm];exact h.tot a b e
def zc (h:Sto lt):Sto (Y4 lt):=#v[lY h,rD h,nF h]
theorem yw (h:∀x,p x=true->q x=true):∀l:List α,(l.filter p).length<=(l.filter q).length
 | []=>QP _
 | a::l=>by
  have c:=yw h l;rw[Wa,Wa];by_cases b:p a=true
  .rw[QH b,QH<|h a b,QM,QM];simp[*]
  .rw[QK b];split
   .rw[QM];lia
   .exact c
theorem yc (h:∀x,p x=true->q x=true)(h1:p x=false)(h2:q x=true):∀{l:List α},x∈l->(l.filter p).length<(l.filter q).length
 | [],b=>by cases b
 | a::l,b=>by
  rw[Wa,Wa];rcases QQ.1 b with rfl | b
  .have:=yw h l;rw[QK (by rw[h1];decide),QH h2,QM];lia
  .have d:=yc h h1 h2 b;by_cases c:p a=true
   .rw[QH c,QH<|h a c,QM,QM];simp[*]
   .rw[QK c];split
    .rw[QM];lia
    .exact d
def rY (lt:α->α->Bool)(l:List α)(i:Nat):Int:=match l[i]? with
 | some a=>((l.filter λb=>lt b a).length:Nat)
 | none=>0
def Ce (h:Sto lt)(nd:l.Nodup)(hij:i≠j)(ea:l[i]? = some a)(eb:l[j]? = some b):lt a b=decide (rY lt l i<rY lt l j):=by
 have g:a≠b:=λz=>by subst z;obtain⟨s,q⟩:=QR.1 ea;obtain⟨r,p⟩:=QR.1 eb;exact hij<|(List.getElem_inj nd).1<|q.trans p.symm
 have m:=RA ea;have k:=RA eb;unfold rY;rw[ea,eb];have e:∀{a b},a∈l->lt a b=true->(l.filter λc=>lt c a).length<(l.filter λc=>lt c b).length:=λ{a b} o d=>yc (λc n=>h.tr c a b n d) (h.irr a) d o
 rcases h.tot a b g with d | f
 .have:=e m d;rw[d,Rg<|by simp[*] ]
 .have:=e k f;rw[h.as f,Rk<|by lia]
def uO (lt:α->α->Bool)(d:α):List α->List α
 | []=>[d]
 | e::r=>if lt e d=true then e::uO lt d r else d::e::r
def sF (lt:α->α->Bool):List α->List α
 | []=>[]
 | d::r=>uO lt d<|sF lt r
theorem jk (lt) (d):∀l:List α,(uO lt d l).Perm (d::l)
 | []=>.refl _
 | e::r=>by
  rw[uO];split
  .exact((jk lt d r).cons e).trans<|.swap d e r
  .exact .refl _
theorem gA (lt):∀l:List α,(sF lt l).Perm l
 | []=>.refl _
 | d::r=>(jk lt d _).trans<|(gA lt r).cons d
variable {x:α->My}
structure Itm (x:α->My) (lt:α->α->Bool):Prop where
 eq:∀a b,My.eqv (x a) (x b)=decide (a=b)
 lt:∀a b,a≠b->ltW (x a) (x b)=some (lt a b)
theorem kg (h:Itm x lt):∀l m,ltM (l.map x) (m.map x)=some (Y4 lt l m)
 | [],[]=>rfl
 | [],b::m=>rfl
 | a::l,[]=>rfl
 | a::l,b::m=>by
  rw[QL,QL,ltM,h.eq,Y4];by_cases e:a=b
  .rw[QH<|Rg e,QH e];exact kg h l m
  .rw[QK (by rw[Rk e];decide),QK e];exact h.lt a b e
abbrev rwD (x:α->My)(l:List α):My:=.tuple<|l.map x
theorem nu (h:Itm x lt)(d):∀l,ui (d.map x) (l.map (·.map x))=(uO (Y4 lt) d l).map (·.map x)
 | []=>rfl
 | e::r=>by
  rw[QL,ui,uO,kg h];by_cases z:Y4 lt e d=true
  .rw[QH (by rw[z]),QH z,QL,nu h d r]
  .rw[QK (by simpa using z),QK z];rfl
theorem jo (h:Itm x lt):∀l,fy (l.map (·.map x))=(sF (Y4 lt) l).map (·.map x)
 | []=>rfl
 | d::r=>by rw[QL,fy,jo h r,nu h];rfl
def vJ (h:Itm x lt)(ho:Sto lt)(nd:as.Nodup)(h64:as.length<64)(hg:∀l∈as,hJ<|l.map x):dD [.list<|as.map<|rwD x]=some (.list<|(sF (Y4 lt) as).map<|rwD x):=by
 have e:as.map (rwD x)=(as.map (·.map x)).map My.tuple:=by rw[Rq];rfl
 rw[e,BJ (κ:=rY (Y4 lt) as) #v[by rw[QI];exact h64,λd k=>by obtain⟨l,hl,rfl⟩:=Rt.1 k;exact hg l hl,λi j p o c g f=>?_],jo h,Rq]
 .rfl
 .rw[Rc]at g f;obtain⟨a,n,rfl⟩:=Re.1 g;obtain⟨b,m,rfl⟩:=Re.1 f;rw[kg h,Ce (zc ho) nd c n m]
def dN {β:Type}(l:List (List α × β))(a:List α)(v:β):List (List α × β):=if a∈l.map (·.1) then l.map (λp=>if p.1=a then(p.1,v) else p) else l++[(a,v)]
def dO {β:Type}(l:List (List α × β))(a:List α):Option β:=(l.find? λp=>decide (p.1=a)).map (·.2)
structure Kys x:Prop where
 is:∀l,(P8 0<|rwD x l).isSome=true
 inj:∀l m:List α,P8 0 (rwD x l)=P8 0 (rwD x m)↔l=m
abbrev kvD {β:Type}(x:α->My)(y:β->My)(p:List α × β):My×My:=(rwD x p.1,y p.2)
theorem kU {β:Type}{y:β->My}(h:Kys x)(a):∀l:List (List α × β),W2 0 (l.map<|kvD x y) (rwD x a)=(dO l a).map y
 | []=>rfl
 | p::l=>by
  have b:=kU (y:=y) h a l;unfold W2 dO at b ⊢;rw[QL];by_cases z:p.1=a
  .rw[Rv (p:=λp:My×My=>decide (P8 0 p.1=P8 0 (rwD x a)))<|Rg<|(h.inj _ _).2 z,Rv (p:=λp:List α × β=>decide (p.1=a))<|Rg z];rfl
  .rw[Rw (p:=λp:My×My=>decide (P8 0 p.1=P8 0 (rwD x a)))<|λq=>z<|(h.inj _ _).1<|Rh q,Rw (p:=λp:List α × β=>decide (p.1=a))<|λq=>z<|Rh q];exact b
theorem dC :∀{l:List (List α × β)},(dO l a).isSome=true↔a∈l.map (·.1)
 | []=>by simp[dO]
 | p::l=>by
  have b:=dC (a:=a) (l:=l);unfold dO at b ⊢;by_cases z:p.1=a
  .rw[Rv (p:=λp:List α × β=>decide (p.1=a))<|Rg z];simp[z]
  .rw[Rw (p:=λp:List α × β=>decide (p.1=a))<|λq=>z<|Rh q,b,QL,QQ];exact#v[.inr,λq=>q.resolve_left λe=>z e.symm]
def kj (h:Kys x)(a) (v) (l):N3 0 (l.map<|kvD x y) (rwD x a) (y v)=(dN l a v).map (kvD x y):=by
 unfold N3 dN;rw[kU h];by_cases z:a∈l.map (·.1)
 .have:=dC.2 z;rw[QH (by rw[Us];exact this),QH z,Rq,Rq];refine SN λp _=>?_
  by_cases q:p.1=a
  .simp only[Function.comp];rw[QH<|(h.inj _ _).2 q,QH q]
  .simp only[Function.comp];rw[QK λw=>q<|(h.inj _ _).1 w,QK q]
 .have:=λw=>z<|dC.1 w
  rw[QK (by rw[Us];exact this),QK z,Sw];rfl
def vH {l:List (List α × β)}(nd:(l.map (·.1)).Nodup):((dN l a v).map (·.1)).Nodup/\(dN l a v).length<=l.length+1:=by
 unfold dN;split
 .rename_i z;refine#v[?_,by rw[QI];simp[*] ];have e:(l.map λp=>if p.1=a then(p.1,v) else p).map (·.1)=l.map (·.1):=by
   rw[Rq];refine SN λp _=>?_
   simp only[Function.comp];split <;> rfl
  rw[e];exact nd
 .rename_i z;refine#v[?_,by rw[RW];exact QP _];rw[Sw,Xe];exact#v[nd,by simp,λb f c d e=>z (by simp at d;rw[<-d,<-e];exact f)]
def wM {P:List α × β->Prop}(h:∀p∈l,P p)(hv:P (a,v)):∀p∈dN l a v,P p:=λp b=>by
 unfold dN at b;split at b
 .obtain⟨q,c,rfl⟩:=Rt.1 b;split
  .rename_i e;rw[e];exact hv
  .exact h q c
 .rcases UH.1 b with b | b
  .exact h p b
  .rw[Rn.1 b];exact hv
theorem jA :∀{l:List (List α × β)},dO l a=some v->(a,v)∈l
 | [],h=>by cases h
 | p::l,h=>by
  unfold dO at h;by_cases z:p.1=a
  .rw[Rv (p:=λp:List α × β=>decide (p.1=a))<|Rg z]at h;cases h;rw[<-z];exact QN
  .rw[Rw (p:=λp:List α × β=>decide (p.1=a))<|λq=>z<|Rh q]at h;exact QG _<|jA h
theorem sI :∀{l:List (List α × β)},(l.map (·.1)).Nodup->(a,v)∈l->dO l a=some v
 | [],_,h=>by cases h
 | p::l,nd,h=>by
  rw[QL,Tx]at nd;unfold dO;rcases QQ.1 h with rfl | h
  .rw[Rv (p:=λp:List α × β=>decide (p.1=a))<|Rg rfl];rfl
  .rw[Rw<|λq=>nd.1 (by rw[Rh q];exact Rt.2 #v[_,h,rfl])];exact sI nd.2 h
def vj (nd:(l.map (·.1)).Nodup)(hp:as.Perm (l.map (·.1))):∃rs:List (List α × β),rs.Perm l/\rs.map (·.1)=as/\∀p∈rs,dO l p.1=some p.2:=by
 have c:∀a∈as,∃v,dO l a=some v:=λa t=>Su.1<|dC.2<|hp.mem_iff.1 t
 have i:∀as,(∀a∈as,∃v,dO l a=some v)->∃rs:List (List α × β),rs.map (·.1)=as/\∀p∈rs,dO l p.1=some p.2:=by
  intro as;induction as with
  | nil=>intro _;exact#v[[],rfl,λp hp=>by cases hp]
  | cons a as r =>
   intro h;obtain⟨rs,f,d⟩:=r λb s=>h b<|QG _ s
   obtain⟨v,w⟩:=h a QN;refine#v[(a,v)::rs,by rw[QL,f],λp hp=>?_];rcases QQ.1 hp with rfl | hp
   .exact w
   .exact d p hp
 obtain⟨rs,f,d⟩:=i as c;refine#v[rs,?_,f,d];have g:(rs.map (·.1)).Nodup:=by rw[f];exact hp.nodup_iff.2 nd
 have n:=(List.pairwise_map.1 g).imp λh e=>h<|Sn _ e
 have o:=(List.pairwise_map.1 nd).imp λh e=>h<|Sn _ e
 refine(List.perm_ext_iff_of_nodup n o).2 λp=>#v[λh=>jA<|d p h,λh=>?_]
 have:p.1∈rs.map (·.1):=by rw[f];exact hp.mem_iff.2<|Rt.2 #v[p,h,rfl]
 obtain⟨q,j,m⟩:=Rt.1 this;have k:=d q j;have u:=sI nd (h);rw[m,u]at k;have:=Prod.ext m (QU k).symm;rw[<-this];exact j
end
def ud (a b:Int×Int):Bool:=if a.1=b.1 then decide (a.2<b.2) else decide (a.1<b.1)
def JV :Sto ud:=by
 refine#v[λa=>?_,λa b c f d=>?_,λa b h=>?_]
 .unfold ud;rw[QH rfl];exact Rk (by simp[*] )
 .unfold ud at *;split at f <;> split at d <;> split <;> simp only[SZ] at * <;> lia
 .unfold ud;by_cases e:a.1=b.1
  .rw[QH e,QH e.symm];have:=λz=>h<|Prod.ext e z
   simp only[SZ];lia
  .rw[QK e,QK λz=>e z.symm];simp only[SZ];lia
def IJ :(My.int a).eqv (.int b)=decide (a=b):=by simp[My.eqv];rfl
def Kb :Itm cmD ud:=by
 refine#v[λa b=>?_,λa b h=>?_]
 .simp only[My.eqv,My.eqvAll];rw[Vl];simp[Prod.ext_iff]
 .show ltM [.int a.1,.int a.2] [.int b.1,.int b.2]=_;unfold ud;rw[ltM,IJ,ltM,IJ];by_cases e:a.1=b.1
  .have c:=λz=>h<|Prod.ext e z
   rw[QH<|Rg e,QH e,QK (by rw[Rk c];decide)];rfl
  .rw[QK (by rw[Rk e];decide),QK e];rfl
end
section
theorem cR:∀l:List (Int×Int),ck (l.map cmD)=some (l.map λc=>.inr [.inl c.1,.inl c.2])
 | []=>rfl
 | c::l=>by rw[QL,ck,cR l];rfl
def oK :Kys cmD:=by
 have c:∀l,P8 0 (rwD cmD l)=ck (l.map cmD):=λl=>rfl
 refine#v[λl=>?_,λl m=>?_]
 .rw[c,cR];rfl
 .rw[c,c,cR,cR];refine#v[λh=>?_,λh=>by rw[h]];refine(List.map_inj_right λa b e=>?_).1<|QU h;injection e with e
  injection e with f d
  injection d with d _
  injection f with f
  injection d with d
  exact Prod.ext f d
def Hn (l:List (Int×Int)):hJ (l.map cmD):=by
 refine#v[?_,?_,λx a=>?_]
 .induction l with
  | nil=>rfl
  | cons c l b=>rw[QL];simp only[My.canLayAll0,My.canLay0,b,Bool.and_self]
 .refine QZ ((aO (k:=2)).2 λd e=>?_) (by decide);obtain⟨c,_,rfl⟩:=Rt.1 e;simp[My.depth,My.depthAll]
 .cases l with
  | nil=>cases a
  | cons c l=>exact#v[_,(QU a).symm]
section
variable {F:FdS}
def ym {Q:Out->FdS->Prop}(h:i<E.length)(q:Q (.nx<|E.set i<|some<|.dic true c []) F):wp (fD i c E F) Q:=by unfold fD;rw[QH h];exact d6.2 q
def EI {Q:Out->FdS->Prop}{k:DE->M My}(he:S9 E i=some (true,c,ps))(q:wp (v E F) λx F1=>wp (k E F1) λy F2=>(P8 c y).isSome=true/\ps.length<=1000/\Q (.nx<|E.set i<|some<|.dic true c<|N3 c ps y x) F2):wp (rM i c v k E F) Q:=by
 unfold rM;rw[d4];refine j8 q λx F1 h=>?_
 rw[d4];refine j8 h λy F2 h=>?_
 rw[he,QX];rw[QH #v[rfl,rfl,h.1,Ra h.2.1 (by rw[Ry];decide)]];exact d6.2 h.2.2
variable {Q:My->FdS->Prop}
def Gm {k:DE->M My}(he:S9 E i=some (w,c,ps))(q:wp (k E F) λy F1=>(P8 c y).isSome=true/\oB (W2 c ps y) λz=>Q z F1):wp (ig i c k E F) Q:=by
 unfold ig;rw[d4];refine j8 q λy F1 h=>?_
 rw[he,QX];rw[QH #v[rfl,h.1]];obtain⟨z,e,q⟩:=h.2;rw[e,QX];exact d6.2 q
def GH (he:S9 E i=some (w,c,ps))(q:Q (.list (ps.map (·.1))) F):wp (iL i c E F) Q:=by unfold iL;rw[he,QX,QH rfl];exact d6.2 q
end
theorem vT {α:Type}{x}{P:α->Prop}:∀{ds:List My},(∀d∈ds,∃a,d=x a/\P a)->∃l:List α,ds=l.map x/\∀a∈l,P a
 | [],_=>#v[[],rfl,λ_ z=>by cases z]
 | d::ds,h=>by
  obtain⟨l,e,hl⟩:=vT λd f=>h d<|QG _ f
  obtain⟨a,i,g⟩:=h d QN;refine#v[a::l,by rw[QL,<-e,<-i],λb c=>?_];rcases QQ.1 c with rfl | c
  .exact g
  .exact hl b c
abbrev Kw (α:Type):=List α×Int
abbrev kwD (x:α->My)(p:Kw α):My:=.tuple [rwD x p.1,.int p.2]
abbrev kiD (x:α->My)(p:Kw α):My×My:=kvD x My.int p
section

def Gg [DecidableEq α](hi:Itm x lt)(ho:Sto lt)(hk:Kys x)(hg:∀l:List α,hJ<|l.map x)(nd:(l.map (·.1)).Nodup)(h64:l.length<64)(he:S9 E i=some (w,0,l.map<|kiD x)){Q:My->FdS->Prop}
  (q:∀rs:List (Kw α),rs.Perm l->Q (.list<|rs.map<|kwD x) F):wp (sLC (R1<|sN dD<|c8 (iL i 0) k8) 1 [i] (bN 0) M4 (G9<|c8 (sV 0)<|c8 (ig 1 0<|sV 0) k8) E F) Q:=by
 refine aF.2<|K6.2<|ao.2<|c6.2<|GH he<|h7.2 ?_;have e:(l.map<|kiD x).map (·.1)=(l.map (·.1)).map (rwD x):=by rw[Rq,Rq];rfl
 rw[e];refine d5 (vJ hi ho nd (by rw[QI];exact h64) λl _=>hg l)<|d5 cA ?_;obtain⟨rs,a,c,b⟩:=vj nd (gA (Y4 lt) (l.map (·.1)));rw[<-c,Rq];have hl:rs.length<64:=by rw[a.length_eq];exact h64
 refine#v[sz (by rw[QI];omega ),?_];have d:ie 1 [i] E=[none,some<|.dic w 0<|l.map<|kiD x]:=by unfold ie;rw[QL,RK,N8 he];rfl
 rw[d];refine Gi (x:=λp:Kw α=>rwD x p.1) rs _ (λp a F Q q=>?_)<|q rs a;refine A6.2 (c6.2<|B8.2<|B9 rfl<|c6.2<|Gm rfl<|B8.2<|B9 rfl #v[hk.is p.1,d5 (by rw[kU hk,b p a];rfl)<|h7.2 #v[n6 rfl,q]])
def lr {n:Nat}(h:n<=100000):eZ [.int (n:Int)]=some ((List.range n).map λi=>.int (i:Int)):=by have:=yo h;rw[BG]at this;exact this
end
end
section
def FI (K:Qf)(x:Str)(st:XF):Prop:=∃(f:Xy) (g:Xx) (e:Option Xy) (kV c d:Xx) (h:Option Xy) (a ct:Xx) (b:Array (Option Xx)),
 PySem.W.nsIn K XS x=some (some<|.ref f)/\K.lookup f=some #v[g,e,.func<|PySem.W.fnOf x x (defArgs st) (defBody st) (defScope st) .none kV c d h a ct,b]/\PySem.W.codeIn K a x=true/\PySem.W.keepIn K (.ref f)=true
variable {K:Qf}{st:XF}
def FI.of {kV}(a:PySem.W.nsIn K XS x=some (some<|.ref f))(b:K.lookup f=some #v[oc,od,.func<|PySem.W.fnOf x x (defArgs st) (defBody st) (defScope st) .none kV doc pm an dr ct,osl])
  (c:PySem.W.codeIn K dr x=true) (d:PySem.W.keepIn K (.ref f)=true):FI K x st:=#v[f,oc,od,kV,doc,pm,an,dr,ct,osl,a,b,c,d]
def FI.mk (X:K.In h)(G:h.Ns XS mg)(ps) (F:FI K x st)
  (hb:∀kV doc pm an dr ct us,us.length=ps.length->bindArgs (PySem.W.fnOf x x (defArgs st) (defBody st) (defScope st) .none kV doc pm an dr ct) #v[us,[]]=pure (ps.zip us):=by intro _ _ _ _ _ _ us hl;first | (cases len_0 hl;rfl) | (obtain⟨z0,rfl⟩:=len_1 hl;rfl) | (obtain⟨z0,z1,rfl⟩:=DS hl;rfl) | (obtain⟨z0,z1,z2,rfl⟩:=IV hl;rfl) | (obtain⟨z0,z1,z2,z3,rfl⟩:=len_4 hl;rfl)) :
  ∃f fd,Fun K x x st f fd/\mg x=some (.ref f)/\cQ K fd ps []/\(∃oc od osl,K.lookup f=some #v[oc,od,.func fd,osl])/\PySem.W.nsIn K XS x=some (some<|.ref f):=by obtain⟨f,oc,od,kV,doc,pm,an,dr,ct,osl,a,b,c,d⟩:=F;have e:=fun_mk b c d;exact#v[f,_,e,SW X G a,e.binds hb,#v[oc,od,osl,b],a]
def cal (P) (w) (base) (F:FnOk P w K mg base CX0 k f fd ps sp)(m:mg x=some (.ref f))(Fn:Fun K x q st f fd)(b:cQ K fd ps []):b7 P w K mg base x k ps sp:=#v[f,fd,F,m,Fn.kp,b]
end
variable {pos:Pos}
section
variable {K:Qf}
def j4 (C:b7 X.prog X.w X.K X.mg X.base x k ps (spD K n f))(hr:Room m X.A)(ha:Evs K X (e::es) tl ms)(hk:autoParam (k<=m) eL)(hn:∀E F args F',ms E F=some (args,F')->args.length=n:=by repeat (first | exact gI | apply fO | apply JM))(hg:autoParam (Gl X x) eH)
  (hdb:autoParam (nDb x) eL) (he:autoParam (XJ (e::es) X.env=(false,eval e X.env)::XJ es X.env) eH) (hpl:autoParam ((XO pos<|XJ es X.env).any (·.1)=false) eH) :
  Ev K X (.Call (.Name x p) (e::es) [] pos) (aQ (spD K n f) [] E0 tl) (i3 f ms):=Cr C (hr.mono hk) ha hn hg hdb he hpl
def A2 (i){j}(hK:autoParam (X.K=K) eH)(hN:autoParam (X.N[i]? = some x) eH)(hv:autoParam (Vis X.env.scope x) eN)(hd:autoParam (nDb x) eL)
  (hcd:autoParam (nCd x) eL):Ev K X (.Subscript (.Name x p) (.Constant (.int c) j q) pos) (tOp (rD2 K ixD) (Z0 i)<|tC<|.int c) (s2 ixD (sW i)<|sC<|.int c):=mM (lZ hK) (x8 i hN hv hd hcd) (Ev.bw f8) (by intro _ _;rfl)
abbrev nth (l:List XF)(n:Nat):XF:=l.getD n<|.Pass #v[0,0,0,0]
end

section
section
variable {σ:L2.St}
def oR (hu:A.units+9<XZ)(hd:κ.dp<=8)(I:Inv X π σ H s)(g:AD κ X.K H a y v H')(ry:m6 y u)(rv:m6 v r)(h:∀s',Inv X π σ H' s'->Q () s') :
  XR (model X.prog X.w) A (dictSet a u r) Q E s:=by
 obtain⟨i,k,b,e,w,rfl,n,hl,rfl⟩:=g;cases(show u=Xx.ref b from ry);rw[iW κ X.prog X.w]at e h;obtain⟨z,d,l,c,dd⟩:=(GE I e).dict λx p=>κ.ok I<|w x p
 have o:l.length<=XI:=by rw[<-Um c];exact z
 refine wpAny_dictSet_heap (knd:=(κ.kind X.prog X.w).toHeapKind) (hsz:=o) (κ.room _ _ _ (by show A.units + κ.dp<XZ;lia)) (κ.ok I n) dd λG f t=>h _ ?_
 obtain⟨q,J,K,j,F,D,C,_,B⟩:=f;have m:cz (κ.kind X.prog X.w) a (iU i k b v) G:=#v[by have:=gU i k b v;lia,d,_,PV.put c k rv,q,J,K,j,F,D,C,B];exact au I (by rw[e];exact True.intro) t #v[q,j] m.obj
def sA (κ:NKey)(L:Qf)(p:Xy):List (V×V)->Hp->(Hp->Prop)->Prop
 | [],H,Q=>Q H
 | (y,v)::r,H,Q=>∃a,AD κ L H p y v a/\sA κ L p r a Q
def mS (hu:A.units+9<XZ)(hd:κ.dp<=8)(r:VV ps vs)(I:Inv X π σ H s)(q:sA κ X.K p ps H Q) :
  XR (model X.prog X.w) A (storeAll p vs) (λ_ s'=>∃H',Inv X π σ H' s'/\Q H') E s:=by
 induction r generalizing H s with
 | nil=>exact QF #v[H,I,q]
 | @cons a b ps vs h t c =>obtain⟨H',g,q⟩:=q;unfold storeAll;rw[Wk];exact QD (QD<|oR hu hd I g h.1 h.2 λs' d=>QF<|c d q)
def yx (κ:NKey)(L:Qf)(trs:List (TE×TE)):TE:=λσ H Q=>∀p,H p=none->(∃h,NDi κ p [] h)->gE trs σ (upd H p<|.ext<|NDi κ p []) λc d=>sA κ L p c d λb=>(∀a,b p=some (.ext a)->∃h,a h)->Q (.ref p) b
def zB (hu:X.A.units+9<XZ)(hd:κ.dp<=8)(h:PPs X pos keys values trs)(hall:keys.all (·.isSome)=true)(hl:keys.length=values.length)(h0:keys≠[])
  (h15:keys.length<=15):PE X (.Dict keys values pos) (yx κ X.K trs):=by
 intro π s σ H Q I q;have l:=I.hok.fresh<|QP s.heap.objs.size;have n:Inv X π σ (upd H s.heap.objs.size<|.ext<|NDi κ s.heap.objs.size []) { s with heap:=s.heap.push { cls:=.type "dict",data:=.dict #[] } } :=
  I.laid (λ_ _ q=>QE _ q) (QP _) (by have d:NDi κ s.heap.objs.size [] (s.heap.push { cls:=.type "dict",data:=.dict #[] }):=lD I;rw[iW κ X.prog X.w]at d ⊢;exact d.obj)
 refine wpAny_Dict_any hall hl h0 h15 (thn (h π _ σ _ _ n<|q _ l #v[_,lD I]) ?_ );rintro p s2 ⟨r,t,m,b,k⟩;refine thn (mS hu hd b m k) ?_;rintro _ i ⟨f,c,j⟩
 exact#v[.ref s.heap.objs.size,f,c,rfl,j λg e=>#v[_,(c.hok _ _ e).1]]
end
end
section
section
variable {K:Qf}
noncomputable def eX:List ((DE->M My)×(DE->M My))->DE->M (List<|My×My)
 | [],_,F=>some ([],F)
 | (k,v)::r,E,F=>(k E F).bind λp=>(v E p.2).bind λq=>(eX r E q.2).bind λz=>some ((p.1,q.1)::z.1,z.2)
def Cu (K:Qf)(H:Hp):List (My×My)->List (V×V)->Prop
 | [],ps=>ps=[]
 | d::ds,ps=>∃y v r,ps=(y,v)::r/\b8 K H d.1 y/\b8 K H d.2 v/\Cu K H ds r
def TPd (K:Qf)(trs:List (TE×TE))(ms:List ((DE->M My)×(DE->M My))):Prop:=∀G B E F b H Q d e,SitE K G B E F b H->eX ms E F=some (d,e) ->
 (∀c a,Kp (n5 K G) H a->FAt K G a e->Cu K (hid a B) d c->Q c a)->gE trs b H Q
structure Eps K X pos keys values trs ms:Prop where
 pps:PPs X pos keys values trs
 ok:TPd K trs ms
def zy :Eps K X pos [] [] [] []:=#v[Au,λG B E F a H Q b c I e q=>by cases e;exact q [] H (Kp.refl) I.fd rfl]
def gb (hk:Ev K X k tk mk)(hv:Ev K X v tv mv)(hr:Eps K X pos ks vs trs ms) :
  Eps K X pos (some k::ks) (v::vs) ((tk,tv)::trs) ((mk,mv)::ms):=#v[yX hk.pe hv.pe hr.pps,λG B E F a H Q N O I e q=>by
 obtain⟨⟨z,i⟩,u,e⟩:=bS9 e;obtain⟨⟨x,h⟩,t,e⟩:=bS9 e;obtain⟨⟨d,L⟩,s,e⟩:=bS9 e;cases e;refine hk.ok G B E F a H _ z i I u λy J f r m=>?_
 have g:=I.step f r;refine hv.ok G B E i a J _ x h g t λw D c p l=>?_
 have A:=g.step c p;refine hr.ok G B E h a D _ d L A s λn C b o j=>?_
 exact q _ C ((f.trans c).trans b) o #v[y,w,n,rfl,(m.same<|c.hid I.fB).same<|b.hid I.fB,l.same<|b.hid I.fB,j]]
def lg (i c:Nat)(ms:List ((DE->M My)×(DE->M My))):DE->M Out:=λE F=>(eX ms E F).bind λp=>if i<E.length/\p.1.length<=15/\(p.1.all λd=>(P8 c d.1).isSome)=true then some (.nx<|E.set i<|some<|.dic true c<|p.1.foldl (λd a=>N3 c d a.1 a.2) [],p.2) else none
def wQ :∀ds ps dy xs H,H p=some (.ext<|NDi (J5 c) p xs)->KVs K W c dy xs->Cu K W ds ps->(ds.all λd=>(P8 c d.1).isSome)=true ->
  (∀H',(∀b,b≠p->H' b=H b)->∀b ys,SqT K W b ys->SqT K H' b ys)->xs.length+ds.length<=1000 ->
  (∀H' xs',(∀b,b≠p->H' b=H b)->H' p=some (.ext<|NDi (J5 c) p xs')->KVs K W c (ds.foldl (λd kv=>N3 c d kv.1 kv.2) dy) xs'->Q H')->sA (J5 c) K p ps H Q
 | [],ps,dy,xs,H,hp,hk,hr,ha,up,hl,q=>by
  cases hr;exact q H xs (λ_ _=>rfl) hp hk
 | d::ds,ps,dy,xs,H,hp,hk,#v[y,v,r,e,h1,h2,h3],ha,up,hl,q=>by
  subst e;rw[WW,TL]at ha;obtain⟨k,h⟩:=Su.1 ha.1;obtain⟨b,rfl,j⟩:=kA h h1;have a:=up H λ_ _=>rfl
  rw[QM]at hl;refine#v[_,#v[xs,k,b,hp,λx i=>(J5 c).keeps (gc hk x i) a,rfl,(J5 c).keeps j a,Ra (show xs.length<=1000 by lia) (by rw[Ry];decide),rfl],?_];refine wQ ds r (N3 c dy d.1 d.2) (iU xs k b v) _ i8 (zg hk h h1 h2) h3 ha.2 (λH' g=>up H' λc f=>by rw[g c f,f9 f]) (by have:=gU xs k b v;lia) λH' xs' n m l=>?_
  exact q H' xs' (λc f=>by rw[n c f,f9 f]) m l
def yg (i c){pos'}(hN:X.N.Nodup)(hu:X.A.units+9<XZ)(h:Eps K X p keys values trs ms)(hK:X.K=K)(h9:autoParam (c≠9) eL)(hi:autoParam (X.N[i]? = some x) eH)(hx:autoParam (Loc X.env.scope x) eM)
  (hall:autoParam (keys.all (·.isSome)=true) eH) (hl:autoParam (keys.length=values.length) eH) (h0:keys≠[]:=by exact List.cons_ne_nil _ _) (h15:keys.length<=15:=by exact UV rfl) (hs:autoParam (XT (.Dict keys values p) (some<|.Name x pos') pos.line X.env=pure false) eH) (hf:autoParam (X.fn x=true\/X.env.scope.names.lookup x=some .local) eM) :
  Ss K X (.Assign [.Name x pos'] (.Dict keys values p) pos) (aa (yx (J5 c) K trs)<|M6 i) (lg i c ms):=by
 subst hK;refine#v[M3 hN hi hx (zB hu (wY c) h.pps hall hl h0 h15) hs hf,λG B0 H0 E F U H D r F' S e q=>?_];obtain⟨⟨P,F1⟩,e1,e⟩:=bS9 e;dsimp only at e;split at e;case isFalse=>cases e
 rename_i hc;obtain⟨y,T,A⟩:=hc;cases e;obtain⟨B,s,V,I⟩:=S.ex;intro a v C;have w:=I.bk.nin v;have k:=λz=>w<|I.fB a z
 refine h.ok G (a::B) E F U _ _ P _ (I.more v) e1 λY u R f2 hr=>?_
 have n:=R a _ i8 k;refine wQ P Y [] [] u n rfl hr A (λH' J b ys z=>?_) (by rw[RV];lia) λt j N L g3 l=>?_
 .exact z.same λb o g=>by
   have f:b≠a:=λe=>by subst e;rw[I0 QN]at g;cases g
   rw[J b f];exact f7 b o g
 .have Z:Kp (n5 X.K G) H t:=λb o g f=>by have m:=l6 g v;rw[N b m];exact R b o (by rw[f9 m];exact g) f
  have O:t=upd u a (.ext<|NDi (J5 c) a j):=by
   funext b;by_cases f:b=a
   .rw[f,L];exact i8.symm
   .rw[N b f,f9 f]
  have f3:FAt X.K G t F':=by rw[O];exact f2.dict (x:=0) k n (let #v[_,z]:=C;z.n)
  have eh:hid t (a::B)=hid u (a::B):=by
   funext b;by_cases f:b∈a::B
   .rw[I0 f,I0 f]
   .rw[m7 f,m7 f,N b λe=>f (by rw[e];exact QN)]
  have r:tT X.K B H t (.dic true c<|P.foldl (λd Q=>N3 c d Q.1 Q.2) []) (.ref a):=#v[rfl,a,_,rfl,v,L,let #v[_,z]:=l _ L;z.n,.inl #v[h9,j,rfl,by rw[eh];exact g3]];exact q _ _ (S.putC s V I Z f3 r y).1
end
end
variable {dy:List (Key×V)}
section
def zA:My->Option Str
 | .str w=>some w
 | _=>none
def fN:List (My×My)->Str->Option My
 | [],_=>none
 | p::r,w=>if zA p.1=some w then some p.2 else fN r w
def nW:List (My×My)->Option (List Str)
 | []=>some []
 | p::r=>match p.1 with
  | .str w=>(nW r).map (w :: ·)
  | _=>none
section
variable {K:Qf}
def rq :∀{ds} {ps} {ws},Cu K H ds ps->nW ds=some ws->∃dy:List (Key×V),ps=dy.map (λkv=>(kV kv.1,kv.2))/\dy.map (·.1)=ws.map (λw=>(.inr w:Key)) /\
  ∀w,(∃d v,fN ds w=some d/\W1 dy (.inr w:Key)=some v/\b8 K H d v)\/(fN ds w=none/\W1 dy (.inr w:Key)=none)
 | [],ps,ws,h,e=>by
  cases h;cases e;exact#v[[],rfl,rfl,λw=>.inr #v[rfl,rfl]]
 | p::ds,ps,ws,#v[y,v,r,ep,h1,h2,h3],e=>by
  subst ep;unfold nW at e;split at e
  .rename_i c b;obtain⟨f,i,rfl⟩:=Re.1 e;obtain⟨dy,rfl,g,hg⟩:=rq h3 i;rw[b]at h1;simp only[b8]at h1;subst h1;refine#v[(.inr c,v)::dy,rfl,by rw[QL,g];rfl,λw=>?_];unfold fN W1;by_cases a:c=w
   .subst a;refine .inl #v[p.2,v,by rw[QH (by rw[b];rfl)],?_,h2];rw[Rv<|by simp];rfl
   .rw[QK (by rw[b];simpa [zA] using a),Rw<|by simpa using a];exact hg w
  .cases e
def xj (h:k ∉ dy.map (·.1)):U0 dy k v=dy++[(k,v)]:=by unfold U0;rw[QK];intro z;obtain⟨p,a,e⟩:=List.any_eq_true.1 z;exact h<|Rt.2 #v[p,a,Rh e]
theorem dJ:∀more acc,((acc++more).map (·.1)).Nodup->aV acc more=acc++more
 | [],acc,_=>by rw[Sd];rfl
 | p::more,acc,h=>by
  have a:=λz=>by rw[Sw,Xe]at h;exact h.2.2 p.1 z p.1 (by simp) rfl
  show aV (U0 acc p.1 p.2) more=_;rw[xj a,dJ more _ (by rw[Ur];exact h),Ur];rfl
def SitE.wrK (I:SitE K G (D::B) E F σ H)(hf:D ∉ n5 K G)(hD:H D=some (.dK dy)):FAt K G (upd H D o) F :=
 I.fd.congr λb a=>f9 λe=>a.elim (λa=>hf<|e▸a) λ#v[c,q]=>by rw[e,hD]at q;cases q
def dA (i:Nat)(ms:List ((DE->M My)×(DE->M My)))(m0 m1 m2:DE->M My)(mb:DE->M Out):DE->M Out:=λE F=>if dR E i=true then(eX ms E F).bind λp=>match nW p.1 with
 | some d=>if d.Nodup/\d.length<=15 then(m0 E p.2).bind λa=>(m1 E a.2).bind λb=>(m2 E b.2).bind λc=>match b.1 with
  | .str w=>(eqD true a.1<|(fN p.1 w).getD c.1).bind λz=>match z with
   | .bool t=>if t=true then mb E c.2 else some (.nx E,c.2)
   | _=>none
  | _=>none
  else none
 | none=>none
 else none
structure Ss2 K X a b ta tb m:Prop where
 pa:PS X a ta
 pb:PS X b tb
 ok:TSd K (qF ta tb) m
def xg (h:Ss2 K X a b ta tb m)(hr:Sss K X rest u mu):Sss K X (a::b::rest) (qF ta<|qF tb u) (mSq m mu):=#v[D5 h.pa<|D5 h.pb hr.ps,λG j g E F k H D r s S e q=>by
 obtain⟨⟨o,i⟩,l,e⟩:=bS9 e;refine h.ok G j g E F k H { D with nx:=u D } o i S l ?_;cases o with
 | nx f=>exact λc p n=>hr.ok G j g f i c p D r s n e q
 | rt d=>cases e;exact q
 | bk f=>cases e;exact q
 | ct f=>cases e;exact q]
def vz (i){pos' pos2 cp}
  (hN:X.N.Nodup) (hu:X.A.units+64<XZ) (h:Eps K X p keys values trs ms) (h0:Eb K X e0 t0 m0) (h1:Ev K X e1 t1 m1) (h2:Ev K X e2 t2 m2) (hb:Sss K X body tb mb) (hK:X.K=K) (m9:M2 X (.Name x px) "get" apos e1 e2 cpos)
  (hi:autoParam (X.N[i]? = some x) eH) (hx:autoParam (Loc X.env.scope x) eM) (hvis:autoParam (Vis X.env.scope x) eN) (hd:autoParam (nDb x) eL) (hcd:autoParam (nCd x) eL)
  (hall:autoParam (keys.all (·.isSome)=true) eH) (hl:autoParam (keys.length=values.length) eH) (hne:keys≠[]:=by exact List.cons_ne_nil _ _) (h15:keys.length<=15:=by exact UV rfl) (hs:autoParam (XT (.Dict keys values p) (some<|.Name x pos') pos.line X.env=pure false) eH) (hf:autoParam (X.fn x=true\/X.env.scope.names.lookup x=some .local) eM)
  (hm:autoParam (behindInMarks .NotEq (.Call (.Attribute (.Name x px) "get" apos) [e1,e2] [] cpos)=false) gV) :
  Ss2 K X (.Assign [.Name x pos'] (.Dict keys values p) pos) (.If (.Compare e0 [.NotEq] [.Call (.Attribute (.Name x px) "get" apos) [e1,e2] [] cpos] cp) body [] pos2)
   (aa (Eh trs)<|M6 i) (Bp (mW<|tOp (rD2 K<|eqD true) t0<|xB (Z0 i) t1 t2) tb Aa) (dA i ms m0 m1 m2 mb):=by
 subst hK;refine#v[M3 hN hi hx (Cf h.pps hall hl hne h15) hs hf,mK (bR (og rfl hu) h0.pe (zI (by lia) (P5 hi hvis hd hcd) h1.pe h2.pe m9) hm) hb.ps gr,λG B0 H0 E F O H D r F' S e q=>?_];unfold dA at e;split at e;case isFalse=>cases e
 rename_i m;have m:=jS m;obtain⟨⟨ds,F1⟩,e1,e⟩:=bS9 e;split at e;case h_2=>cases e
 rename_i ws Q;split at e;case isFalse=>cases e
 rename_i T;obtain⟨⟨d0,F2⟩,e2,e⟩:=bS9 e;obtain⟨⟨d1,F3⟩,e3,e⟩:=bS9 e;obtain⟨⟨d2,F4⟩,e4,e⟩:=bS9 e;cases d1 with
 | str w =>
  obtain⟨z,e5,e⟩:=bS9 e;cases z with
  | bool t =>
   dsimp only at e;obtain⟨B,s,sn,I⟩:=S.ex;intro a J;have U:=I.bk.nin J;have f:=λz=>U<|I.fB a z
   refine h.ok G (a::B) E F O _ _ ds F1 (I.more J) e1 λps g P f2 hr=>?_
   have y:=P a _ i8 f;obtain⟨dy,rfl,hk,hg⟩:=rq hr Q;have R:(dy.map (·.1)).Nodup:=by rw[hk];exact List.Pairwise.map _ (λa b Y e=>Y<|by injection e) T.1
   have V:dy.length<=15:=by have:=Sn List.length hk;rw[QI,QI]at this;simp[*]
   refine#v[y,dy,rfl,V,?_];rw[dJ dy [] R];have I2:=(I.more J).step P f2;have f3:FAt X.K G (upd g a<|.dK dy) F1:=SitE.wrK I2 f y;have k3:Kp (n5 X.K G) H (upd g a<|.dK dy):=λb o A hb=>by have n:=l6 A J;rw[f9 n];exact P b o (by rw[f9 n];exact A) hb
   have eh:hid (upd g a<|.dK dy) (a::B)=hid g (a::B):=av QN;have S4:=(S.step k3 f3).hole m<|some<|.ref a;have I4:=(I.step k3 f3).hole m<|some<|.ref a;have W:i < O.length:=by rw[<-I.ln];exact(QR.1 m).1
   refine h0.ok G B E F1 _ _ _ d0 F2 I4 e2 λv4 H4 C f4 r4=>?_
   have N:=I4.step C f4;have a4:=C a _ i8 f;refine#v[_,QW W,a,rfl,.inl #v[dy,.inl a4],?_];refine h1.ok G B E F2 _ _ _ _ F3 N e3 λv5 H5 l f5 r5=>?_
   have L:=N.step l f5;refine h2.ok G B E F3 _ _ _ _ F4 L e4 λv6 H6 j f6 r6=>?_
   have I7:=L.step j f6;simp only[b8]at r5;subst r5;have a6:=j a _ (l a _ a4 f) f;refine#v[_,zG.k (k:=(.inr w:Key)) a6,?_];have up:j9 (hid g (a::B)) (hid H6 B):=λb o A=>by rw[<-eh]at A;have ab:=bD (λc hc=>QG a hc) b o A;exact j.hid L.fB b o<|l.hid N.fB b o<|C.hid I4.fB b o ab
   have rz:b8 X.K (hid H6 B) ((fN ds w).getD d2) ((W1 dy (.inr w) ).getD v6):=by
    rcases hg w with ⟨d,v,g1,Z,g3⟩ | ⟨g1,Z⟩
    .rw[g1,Z];exact g3.same up
    .rw[g1,Z];exact r6
   refine#v[n5 X.K G,B,d0,_,_,I7.bk,(r4.step l N.fB).step j L.fB,xn rz I7.fB,e5,λu H7 s7 r7=>?_];simp only[b8]at r7;subst r7;have S7:=(((S4.step C f4).step l f5).step j f6).step (Kp.same s7)<|f6.same s7;refine#v[t,rfl,?_];cases t with
   | true =>rw[QH rfl]at e ⊢;exact hb.ok G B0 H0 E F4 _ H7 D r F' S7 e q
   | false =>rw[QK<|by decide]at e ⊢;cases e;exact q _ _ S7
  | _=>cases e
 | _=>cases e
end
end
end L3
namespace L3
open PySem PySem.W PySem.Spec PyProof.Rows L2
section
section
variable {σ:St}
variable {ok:Xy->Prop}{tb:XK->St->TS}
def Bs (hstk:X.stack=X.env::X.outer)(hfr:X.env.frame=some X.env.locals)(hg:Gl X wt)(hW:X.mg wt=some (.ref Wt))(hwd:nDb wt)(hok:∀C,ok C->exmOne X.K (.ref C) (.ref Wt)=some true)
  (hsuite:∀e pn xe,PSs (B4 X e pn xe) (b₀::suite) tsu)
  (hE:∀C e fs H',E (.ref C) (some e) (upd H' e<|.xd fs)->H' e=none->ok C/\tsu { nx:=D.nx,rt:=λ_ _=>False } σ H')
  (I:Inv X π σ H s) (z:CXe X.prog X.w X.stack H s E ev s') :
  XR (model X.prog X.w) X.A (noteFrame ev X.env) (λ_ s2=>XR (model X.prog X.w) X.A (setFlight ev none) (λ_ s3=>XR (model X.prog X.w) X.A (handleBy ev X.env [.ExceptHandler (some<|.Name wt pw) none (b₀::suite) hpos]) (SP X π D) X.xe s3) X.xe s2) X.xe s':=by
 obtain⟨e,H',C,ps,us,vs,rfl,os,t,un,l,r,⟨ab,T,G,y2,y3,R,y5,Q,y7,y8⟩,q⟩:=z;have u:Inv X π σ H' s':=I.call' (ch:=[]) os un l t λb a=>absurd a (by simp)
 obtain⟨K,ts⟩:=hE C e _ H' q Q;have hm:=hok C K;have hl:=u.stack;have m:=u.ok.frames;rw[hstk]at hl m;have d:∀b,s.heap.objs.size<=b->(b∈X.ex\/X.s₀.heap.objs.size<=b)/\b≠X.env.locals/\(∀x c,X.env.cells.lookup x=some c->c≠b)/\∀p∈X.pn++π,p.1≠b:=λb a =>
  #v[.inr<|QZ I.sz a,Rr<|QO I.lt a,λy c hc=>by obtain⟨v,o,ho,_⟩:=I.cell y c hc;exact QY<|QO (QJ ho) a,λp k=>QY<|QO (QJ (I.pin p k).1) a]
 have big:s.heap.objs.size<=s'.heap.objs.size:=QZ R (RJ (by obtain⟨_,g,_⟩:=G;exact QJ g));refine eD (base:=X.base) m hl hfr G y2 y3 λV N F z2 Z P=>?_
 rw[<-hstk]at P;have n:=Rr (QO (by obtain⟨_,g,_⟩:=G;exact QJ g) F);have I1:=bC u P λb a=>by
  simp only[QQ,Sg,Uo]at a;rcases a with rfl | rfl
  .exact#v[y7,d _ y5]
  .exact#v[Q,d _ R]
 have L:=u.hok.fresh F;have j:∀{w a:XH},Inv X π σ H' { s' with heap:=w }->Turned [] [N] w a->Inv X π σ H' { s' with heap:=a }:=λ{w a} Ia J=>bC (s:={ s' with heap:=w }) Ia #v[λb o _ n2 Y=>J.keep b o (by simp) n2 Y,J.slot,J.size] λb a=>by rw[Rn.1 a];exact#v[L,d _<|QZ big F]
 refine Q3 z2 Z n λA S w2 w3=>?_
 have O:=j I1 w3;refine wpAny_handleBy_cons (codeAny_handlers_test ?_) (by intro q;cases q);have J2:Inv (B4 X e [] λ_ _=>False) [] σ H' { s' with heap:=A }:=bU O (by simp);refine bH J2 hg hW ?_ hwd;have LT:Looks (model X.prog X.w) A (typeOf<|.ref e) (.ref C):=by obtain⟨_,g,_⟩:=S;exact(Vu g).andThen .now
 refine(exm_one O.kIn LT hm).at ?_;refine codeAny_handlers_suite (Q3 S w2 n λU v1 v2 v3=>?_);have W:=j O v3;have pinned:∀p∈(X.pn++π)++[],U.get? p.1=some p.2/\H' p.1=none/\p.1≠X.env.locals/\p.1 ∉ X.fs/\∀v,p.2.data ≠ .cell v:=λp k=>W.pin p (by simpa using k)
 have I4:Inv (B4 X e (X.pn++π) λ_ _=>False) [] σ H' { s' with heap:=U }:=bU W pinned;refine Rj (hsuite e (X.pn++π) (λ_ _=>False) [] _ σ H' _ I4 ts) (λf s5 i=>?_) λ_ _ z=>z.elim
 cases f with
 | next =>obtain⟨B,H2,I6,q2⟩:=i;exact#v[B,H2,fu u.ok I6<|λp k=>k,q2]
 | ret v=>obtain⟨_,_,_,_,_,i⟩:=i;exact i.elim
 | brk=>obtain⟨_,_,_,i⟩:=i;exact i.elim
 | cont=>obtain⟨_,_,_,i⟩:=i;exact i.elim
def sX (ok:Xy->Prop)(tsu:TS)(D:Ends)(σ:St):XK:=λd b c=>∃C e fs a,d = .ref C/\b=some e/\c=upd a e (.xd fs)/\a e=none/\ok C/\tsu { nx:=D.nx,rt:=λ_ _=>False } σ a
def zd (h:sX ok tsu D σ (.ref C) (some e) (upd H' e<|.xd fs))(he:H' e=none):ok C/\tsu { nx:=D.nx,rt:=λ_ _=>False } σ H':=by
 obtain⟨o,n,c,m,l,k,j,i,g,f⟩:=h;cases l;cases k;have d:H'=m:=funext λb=>by
  by_cases a:b=e
  .rw[a,he,i]
  .have z:=congrFun j b;rwa [f9 a,f9 a]at z
 subst d;exact#v[g,f]
def Ap (hstk:X.stack=X.env::X.outer)(hfr:X.env.frame=some X.env.locals)
  (hg:Gl X wt) (hW:X.mg wt=some (.ref Wt)) (hwd:nDb wt) (hok:∀C,ok C->exmOne X.K (.ref C) (.ref Wt)=some true)
  (hsuite:∀e pn xe,PSs (B4 X e pn xe) (b₀::suite) tsu)
  (hbody:∀E (σ0:St) pn xe,(∀pins' H s ev s',Inv (Z9 X pn xe) pins' σ0 H s->CXe X.prog X.w X.stack H s E ev s'->xe ev s')->PSs (Z9 X pn xe) body (tb E σ0)) :
  PS X (.Try body [.ExceptHandler (some<|.Name wt pw) none (b₀::suite) hpos] [] [] pos) (λD σ H=>tb (sX ok tsu D σ) σ D σ H):=by
 intro π s σ H D I h;refine wpAny_Try_except ?_;refine Rj (hbody (sX ok tsu D σ) σ (X.pn++π) _ (λpins' d s1 ev s' J z=>Bs hstk hfr hg hW hwd hok hsuite (λC e fs c=>zd) (K3 I.ok J λp b=>b) z) [] s σ H D (rV I<|by simpa using I.pin) h) (λf s1 z=>?_) (λ_ _ z=>z);cases f with
 | next=>obtain⟨a,c,J,q⟩:=z;exact Tw #v[a,c,K3 I.ok J λp b=>b,q]
 | brk=>obtain⟨a,c,J,q⟩:=z;exact#v[a,c,K3 I.ok J λp b=>b,q]
 | cont=>obtain⟨a,c,J,q⟩:=z;exact#v[a,c,K3 I.ok J λp b=>b,q]
 | ret v=>obtain⟨y,c,a,J,r,q⟩:=z;exact#v[y,c,a,K3 I.ok J λp b=>b,r,q]
end
end

section
section
variable {K:Frag}
def tsB (K:Frag)(i fi:Nat)(its:List (Sum Str Str)):Xy->Xy->List (Str×V)->TS:=λe C fs=>aa (ur<|qw K C fs e i its)<|M6 fi
def hdB (nm0:Str)(i fi:Nat)(its:List (Sum Str Str)):Str->List My->DE->Option DE:=λa fs E=>if a=nm0/\dR E i=true then(itD ((psT nm0).zip fs) its).bind λb=>bN fi (.tuple b) E else none
def JA (ef:EFit K mg Wt nm0 cl C0)(hif:i≠fi)(hjl:its.length<=100)(hb:(its.all λz=>match z with | .inr f=>(psT nm0).contains f | .inl _=>true)=true):SuD K mg (λC=>C=C0) i (tsB K i fi its) (hdB nm0 i fi its):=by
 have d:=λf l=>by have z:=UB.1 hb (.inr f) l;exact List.contains_iff_mem.1 z
 intro G B W V E F u H D T C fs R Q e S s x I y A j U q;unfold hdB at j;split at j
 .rename_i J;obtain⟨rfl,b⟩:=J;have b:=jS b;obtain⟨N,L,o⟩:=bS9 j;have M:C=C0:=by have z:=y.symm.trans ef.mgc;cases z;rfl
  subst M;refine#v[rfl,?_];obtain⟨g,n,w⟩:=lI A L;have k:i < u.length:=by rw[<-I.ln];exact(QR.1 b).1
  have O:=S.hole b<|some<|.ref e;have r:=I.hole b<|some<|.ref e;refine#v[QW k,λf l=>ef.nof f<|d f l,g,n,?_,λh a=>?_]
  .rw[Ry,lB n];lia
  have c:Kp (n5 K G) H (upd H h<|.tup g):=Kp.upd a;have p:FAt K G (upd H h<|.tup g) F:=I.fd.same<|j9.upd a;have v:=P0 r.bk a w;refine aA fi G B E F _ _ _ _ Q _ (r.step c p) v o λt P m=>?_
  exact q _ _<|((O.step c p).bind s x P m).hole ((wI o hif).trans b) none
 .cases j
end
section
variable {k2}
def Dx (hits:PA X ies (qw X.K C fs e i its))(hNd:X.N.Nodup)(hfi:autoParam (X.N[fi]? = some z) eH)(hz:autoParam (X.env.scope.names.lookup z=some .local) eH)
  (s2:autoParam (XT (.Tuple ies k2 r2) (some<|.Name z r1) r3.line X.env=pure false) eH):PSs X [.Assign [.Name z r1] (.Tuple ies k2 r2) r3] (tsB X.K i fi its e C fs) :=
 R4 (M3 hNd hfi (.inl hz) (jY hits) s2<|.inr hz)
end
def ExS (K:Frag)(mg:Str->Option Xx)(nm:Str):Prop:=∃C,mg nm=some (.ref C)/\exmOne K (.ref C) (.ref C)=some true
end
section
section
variable {K:Frag}
noncomputable def oi (nm0:Str)(fi:Nat)(g:List DV->M My)(ms:DE->M (List DV))(c:My):DE->M Out:=λE F=>(ms E F).bind λp=>(g p.1 p.2).bind λq=>match W4 q.1 with
 | some z=>if z.1=nm0 then(bN fi c E).bind λE1=>some (.nx E1,q.2) else none
 | none=>(bN fi q.1 E).bind λE1=>some (.nx E1,q.2)

def rA (fi) (C:CalleeX X.prog X.w X.K X.mg X.base gn k ps (spX K X.mg n g))(hr:Room k X.A)(ha:∀pn xe,Evs K (Z9 X pn xe) (a::es) tl ms)(hn:∀E F args F',ms E F=some (args,F')->args.length=n)
  (hv:∀e pn xe,PE (B4 X e pn xe) ev<|tC v0) (hc:∀H,b8 K H c v0) (hW:X.mg wt=some (.ref Wt)) (hxm:exmOne X.K (.ref Wt) (.ref Wt)=some true) (hN:X.N.Nodup)
  (hstk:autoParam (X.stack=X.env::X.outer) eH) (hfr:autoParam (X.env.frame=some X.env.locals) eH) (hfi:autoParam (X.N[fi]? = some y) eH) (hy:autoParam (X.env.scope.names.lookup y=some .local) eH)
  (hg:autoParam (Gl X wt) eH) (hwd:autoParam (nDb wt) eL) (hgg:autoParam (Gl X gn) eH) (hgd:autoParam (nDb gn) eL)
  (he:autoParam (XJ (a::es) X.env=(false,eval a X.env)::XJ es X.env) eH) (hpl:autoParam ((XO p3<|XJ es X.env).any (·.1)=false) eH)
  (hs:autoParam (XT (.Call (.Name gn p2) (a::es) [] p3) (some<|.Name y p6) p5.line X.env=pure false) eH) (hs2:autoParam (XT ev (some<|.Name y q1) q2.line X.env=pure false) eH) :
  Ss K X (.Try [.Assign [.Name y p6] (.Call (.Name gn p2) (a::es) [] p3) p5] [.ExceptHandler (some<|.Name wt pw) none [.Assign [.Name y q1] ev q2] hpos] [] [] pos) (λD σ H=>aa (tAt σ<|aQ (spX K X.mg n g) [] (sX (λC=>C=Wt) (aa (tC v0)<|M6 fi) D σ) tl) (M6 fi) D σ H) (oi wt fi g ms c):=by
 refine#v[Ap (tb:=λE0 f=>aa (tAt f<|aQ (spX K X.mg n g) [] E0 tl)<|M6 fi) hstk hfr hg hW hwd (λC e=>by rw[e];exact hxm) (λe pn xe=>R4<|M3 hN hfi (.inl hy) (hv e pn xe) hs2<|.inr hy) λE0 f pn xe o=>?_,λG B0 H0 E F σ H D r F' S e q=>?_]
 .exact R4<|M3 hN hfi (.inl hy) (nr C hr hgg o (ha pn xe).pa hgd he hpl) hs<|.inr hy
 .obtain⟨⟨args,V⟩,Q,e⟩:=bS9 e;obtain⟨⟨d,F2⟩,e2,e⟩:=bS9 e;obtain⟨B,s,O,I⟩:=S.ex;refine#v[rfl,(ha [] λ_ _=>False).ok G B E F σ H _ args V I Q λvs H1 m j P=>?_];have R:=S.step m j;have T:=I.step m j;rw[Sd];refine#v[G,B,V,args,d,F2,by rw[P.length];exact hn _ _ _ _ Q,I.fB,C3 I.bk m j,j,P,e2,λv U h i u=>?_,λnm fs l Y U h i u=>?_]
  .have A:=R.step h i;have J:=T.step h i;cases l:W4 d with
   | some z=>exact(jH u l).elim
   | none =>rw[l]at e;obtain⟨N,x,e⟩:=bS9 e;cases e;exact aA fi G B E _ σ _ _ _ N (λb M=>D.nx b M) J u x λb L w=>q b _<|A.bind s O L w
  .rw[l]at e;dsimp only at e;split at e;case isFalse=>cases e
   rename_i p;obtain⟨N,x,e⟩:=bS9 e;cases e;intro W Z e' t;subst p;have eC:W=Wt:=by have z:=Z.symm.trans hW;cases z;rfl
   refine#v[W,e',_,U,rfl,rfl,rfl,t,eC,?_];have A:=R.step h i;have J:=T.step h i;exact aA fi G B E _ σ _ _ _ N (λb M=>D.nx b M) J (hc _) x λb L w=>q b _<|A.bind s O L w
end
end
end L3
namespace L3
open PySem PySem.Spec PyProof.Rows L2
variable {dy:List (Int×V)}{prog:XA}
section
def ItD (a:Xy)(dy:List (Int×V))(vs:List (Key×Xx))(ep:Nat):It :=
 #v[λi H=>H a=some (.ext<|FrI a dy vs ep)/\i<dy.length,λi H v c=>∃t b,v = .ref t/\H t=none/\c=upd H t (.tup [.int b.1,b.2])/\dy[i]? = some b,λi H=>H a=some (.ext<|FrI a dy vs ep)/\dy.length=i]
def KV.len :∀{dy:List (Int×V)} {vs},KV (dy.map cZ) vs->dy.length=vs.length:=λh=>by have:=Um h;rw[QI]at this;exact this
def Jy (h:(x9 P w).is k u=true):m6 (kV k) u:=by
 rcases C9 h with ⟨i,t,rfl,rfl⟩ | ⟨x,t,rfl,rfl⟩
 .exact#v[t,rfl]
 .exact#v[t,rfl]
def iA :entryFor table "dict_itemiterator.__iter__" = some Builtin.«dict_keyiterator.__iter__»:=by kernel_rfl
def ij (hit:IsItemIter s.heap it d i n ep ok ov)(h:Q (.ref it) s):XR (model prog w) A (pyIter<|.ref it) Q E s:=by have ht:s.TypeIs (.ref it) "dict_itemiterator":=#v[_,hit,rfl];refine wpAny_pyIter_slot ht Vz<|RO Vz ht iA ?_<|PySem.F.args_dict_itemiterator_iter_1 _;exact QF #v[_,rfl,"dict_itemiterator",_,ht,PySem.F.slot_dict_itemiterator_next.lookup,h]
def pB {K}(a it) (dy) (vs) (ep):Turn P w K (.Tuple es k pos) (ItD a dy vs ep) [it] it (λi h=>a≠it/\∃ok ov,IsItemIter h it a i vs.length ep ok ov) where
 mem:=by simp
 obj:=λi h st c hb=>by obtain⟨_,ok,ov,t⟩:=st;rw[Rn.1 hb];exact#v[_,t,λv z=>by cases(z)]
 keep:=λi h h' st kk=>by obtain⟨n,ok,ov,t⟩:=st;exact#v[n,ok,ov,kk it (by simp) _ t]
 item:=by
  intro X hP hw hK R i j s U H E I hf st hg;subst hP hw hK;obtain⟨B,ok,ov,t⟩:=st;obtain⟨D,J⟩:=hg;obtain⟨z,y,r,F⟩:=eQ I D;have dd:=F X.prog X.w;have hl:=KV.len r;have O:=QJ t;obtain⟨g,L⟩:∃g,dy[i]? = some g:=#v[_,QT J];obtain⟨q,hq,Y,W⟩:∃q,vs[i]? = some q/\(Sum.inl g.1)=q.1/\m6 g.2 q.2:=by
   have d:∀{l:List (Key×V)} {m} {i:Nat} {p},KV l m->l[i]? = some p->∃q,m[i]? = some q/\p.1=q.1/\m6 p.2 q.2:=λ{l m}=>by
    intro i p hr;induction hr generalizing i with
    | nil=>intro e;cases e
    | cons T S ih =>
     intro e;cases i with
     | zero=>cases e;exact#v[_,rfl,T]
     | succ i=>exact ih (by simpa using e)
   exact d r (by rw[Rc,L];rfl)
  refine wpAny_pyNext_items_item t dd hq λd h' M ho ht hz hk=>?_
  refine#v[_,rfl,wpAny_letOwnedTupleGo_items ho λS ad x=>?_];have x:=x;have ac:=I.hok.fresh<|QP _;have Z:m6 (kV (Sum.inl g.1) ) d:=by rw[Y];exact Jy M
  have rk:=Z;have I1:Inv X j U (upd H s.heap.objs.size<|.tup [.int g.1,g.2]) { s with heap:=s.heap.push { cls:=.type "tuple",data:=.seq #[d,q.2] },toks:=s.toks }:=by refine I.laid (λb u e=>QE _ e) (QP _) ?_;exact#v[QZ (show 2<=10000 by decide) (by rw[Ry];decide),[d,q.2],.cons rk<|.cons W .nil,#v[_,QV _ rfl,rfl,_,rfl]]
  have N:∀c∈[it],bX X j (upd H s.heap.objs.size<|.tup [.int g.1,g.2]) c:=λc C=>by
   obtain⟨f0,f⟩:=hf c C;have B:c≠s.heap.objs.size:=by rw[Rn.1 C];exact QY O
   exact#v[by rw[f9 B];exact f0,f]
  have am:=x.extBut _ _ (Rr O) ht;have I2:Inv X j U (upd H s.heap.objs.size<|.tup [.int g.1,g.2]) { s with heap:=S,toks:=s.toks }:=by
   refine Q2 (s:={ s with heap:=s.heap.push { cls:=.type "tuple",data:=.seq #[d,q.2] },toks:=s.toks }) I1 N λc o al G=>?_
   have c1:c≠it:=λz=>al (by simp[z])
   by_cases Q:c=s.heap.objs.size
   .subst Q;have:=G;rw[QV _ rfl]at this;rw[am];exact this
   .have ab:c<s.heap.objs.size:=by have T:=QJ G;rw[RG]at T;exact WR (Xc T) Q
    have an:s.heap.get? c=some o:=by have G:=G;exact iT ab G
    exact x.extBut c o c1<|hk c o c1 an
  exact#v[.ref s.heap.objs.size,upd H s.heap.objs.size<|.tup [.int g.1,g.2],I2,rfl,#v[_,g,rfl,ac,rfl,L],#v[B,_,_,ad],λc C=>(N c C).1]
 done:=by intro X hP hw hK R i j s U H E I hf st hg;subst hP hw hK;obtain⟨B,ok,ov,t⟩:=st;obtain⟨D,J⟩:=hg;obtain⟨z,y,r,F⟩:=eQ I D;have dd:=F X.prog X.w;have hl:=KV.len r;refine wpAny_pyNext_items_end (I.ok.hd R) t dd (by rw[SC];lia) λh' eb=>#v[rfl,Q2 I hf λc o R G=>eb c o (λz=>R<|by simp[z]) G]
 self:=λ_ _ _ _ _ st h=>by obtain⟨_,ok,ov,t⟩:=st;exact ij t h
end

section
open AutoSeq1 (wpAny_loadPart') in
def oV {w:XB}{A:XC}{E:Xx->Xz->Prop}{s:Xz}{d:Xy}{o:XM}{Q:Xx->Xz->Prop}(eo:s.heap.get? d=some o)(ex:o.ExactDict)(hd:(d == sysModules)=false)
  (h:Q (.ref s.heap.objs.size) { s with heap:=s.heap.push { cls:=.type "dict_items",data:=.fields #[.ref d] } }):XR (model prog w) A (call (.builtin "dict.items") [.ref d]) Q E s:=by have ht:s.TypeIs (.ref d) "dict":=#v[o,eo,ex.1];refine RO PySem.F.slot_dict_items ht PySem.F.entry_dict_items ?_<|PySem.F.args_dict_items_1 _;unfold Builtin.«dict.items» Builtin.Dict.noArgs;have a:o.cls = .type "dict":=ex.1;wp_walk using wpAny_loadPart' eo,wpAny_typeOf ht;exact#v[_,rfl,h]
section

def wq (to:TE):TI:=λd H R=>to d H λx c=>∃a dy vs b,x = .ref a/\c a=some (.ext<|FrI a dy vs b)/\R (ItD a dy vs b) c
def ni {σ:L2.St}(I:Inv X π σ H s)(e:H a=some (.ext<|FrI a dy vs ep)) :
  s.TypeIs (.ref a) "dict" /\ (∀b,Xx.ref a = .ref b->∃ob,s.heap.get? b=some ob/\ob.dict=none)/\(a == sysModules)=false:=by obtain⟨z,y,r,f⟩:=eQ I e;obtain⟨o,es,d,c,_⟩:=f X.prog X.w;refine#v[#v[o,d,c.1],λb q=>?_,y];cases q;exact#v[o,d,c.2.1]
def wg (ho:PE X o to)(hbase:autoParam (XU o "items" X.env (eval o X.env)=eval o X.env) eH)(hline:autoParam ((apos.endLine == cpos.line)=true) eH) :
  PI X (.Tuple es tk tp) (.Call (.Attribute o "items" apos) [] [] cpos) (wq to):=by
 intro π s m H R I h;refine wpAny_Call_method0_late hbase hline (thn (ho π s m H _ I h) ?_ );rintro v s1 ⟨x,M,l,E,a,dy,vs,ep,K,B,q⟩;subst K;obtain rfl:=E;obtain⟨D,C,G⟩:=ni l B;refine#v["dict","dict.items",VE,PySem.F.slot_dict_items,PySem.F.type_dict_items,D,C,UQ rfl<|PySem.evalArgs_none ?_];obtain⟨z,y,r,p⟩:=eQ l B;obtain⟨F,w,A,k,c⟩:=p X.prog X.w;have t:=QJ A;refine oV A k G ?_;obtain⟨f,g⟩:∃f,f=s1.heap.push { cls:=.type "dict_items",data:=.fields #[.ref a] }:=#v[_,rfl];rw[<-g];have i:f.objs.size=s1.heap.objs.size+1:=by rw[g,RG]
 have j:∀b u,s1.heap.get? b=some u->f.get? b=some u:=λb u e=>by rw[g];exact QE _ e
 have n:f.get? s1.heap.objs.size=some { cls:=.type "dict_items",data:=.fields #[.ref a] }:=by rw[g];exact QV _ rfl
 refine wpAny_pyIter_items #v[_,n,rfl,rfl] #v[F,w,j _ _ A,k,c] ?_;have L:Inv X π m M { s1 with heap:=f.push { cls:=.type "dict_itemiterator",data:=.fields #[.none,.bool false,.ref a,.int 0 0,.int vs.length 0,.int ep 0,.none,.none] } } :=
  l.kept λb u e=>QE _<|j b u e
 refine#v[f.objs.size,[f.objs.size],_,_,_,rfl,L,pB a f.objs.size dy vs ep,#v[by rw[i];exact QY<|SK t,.none,.none,QV _ rfl],λb J=>?_,q];rw[Rn.1 J];exact l.fpOk (by rw[i];exact Vg _) (l.hok.fresh (by rw[i];exact Vg _))
def wx :W1 (dy.map cZ) (.inl i:Key)=W1 dy i:=by
 unfold W1;induction dy with
 | nil=>rfl
 | cons p dy a =>
  rw[QL];by_cases e:p.1=i
  .rw[Rv (by simp[cZ,e]),Rv<|by simp[e]];rfl
  .rw[Rw (by simp[cZ,e]),Rw<|by simp[e]];exact a
def xp :U0 (dy.map cZ) (.inl i:Key) v=(U0 dy i v).map cZ:=by
 have b:((dy.map cZ).any λa=>decide (a.1=(.inl i) ))=dy.any λa=>decide (a.1=i):=by rw[List.any_map];congr 1;funext p;simp[cZ]
 unfold U0;rw[b];split
 .rw[Rq,Rq];refine SN λp _=>?_
  show(if (Sum.inl p.1:Key) = .inl i then _ else _)=cZ (if p.1=i then _ else _);by_cases e:p.1=i
  .rw[QH (by rw[e]),QH e];rfl
  .rw[QK<|λz=>e<|Sum.inl.inj z,QK e]
 .rw[Sw];rfl
def DP :TE:=λ_ H Q=>∀p vs a,H p=none->ji p (FrI p [] vs a)->Q (.ref p) (upd H p<|.ext<|FrI p [] vs a)
def AR :PE X (.Dict [] [] pos) DP:=λπ s d H Q I h =>
 thn (wC π s d H (λv c=>∃p,v = .ref p/\H p=none/\c=upd H p (.dK [])) I λp a=>#v[p,rfl,a,rfl]) λu s1 q90=>by obtain⟨v,c,j,r,p,e,a,g⟩:=q90;subst e g;obtain⟨vs,f,b,i⟩:=IA (dy:=[]) j i8;rw[kl]at b;exact#v[.ref p,_,b,r,h p vs f a i]
def En (td ty tv:TE):TS:=λD d H=>tv d H λv h=>td d h λx g=>ty d g λy e=>∃a dy vs f i,x = .ref a/\e a=some (.ext<|FrI a dy vs f)/\y = .int i/\dy.length<XI/\∀b c,ji a (FrI a (U0 dy i v) b c)->D.nx d (upd e a<|.ext<|FrI a (U0 dy i v) b c)
def Dc (hu:X.A.units+1<XZ)(ho:PE X o to)(hi:PE X i ty)(hv:PE X value tv)(hs:XT value (some<|.Subscript o i pos') pos.line X.env=pure false) :
  PS X (.Assign [.Subscript o i pos'] value pos) (En to ty tv):=by
 intro π s b H D I h;refine wpAny_Assign_Subscript (thn (hv π s b H _ I h) λr s1 #v[v,G,E,k,p]=>thn (ho π s1 b G _ E p) λu s2 #v[x,F,C,j,m]=>thn (hi π s2 b F _ C m) ?_ ) hs;rintro L K ⟨y,N,B,g,a,dy,vs,M,n,t,w,q,hl,l⟩;subst t q;obtain rfl:=j;have A:=HZ B w;refine uz (y:=kV<|.inl n) hu A (BZ.k i8 (by rw[QI];exact hl)) g k λJ f=>?_
 rw[kl,xp]at f;obtain⟨c,d,e,z⟩:=IA f i8;rw[kl]at e;exact#v[b,_,e,l c d z]
def yU (td ty tx:TE):TE:=λb H Q=>td b H λx e=>∃a dy vs c,x = .ref a/\e a=some (.ext<|FrI a dy vs c)/\ty b e λy f=>tx b f λz d=>∃i,y = .int i/\d a=some (.ext<|FrI a dy vs c)/\Q ((W1 dy i).getD z) d
def xP (ho:PE X o to)(he:PE X e ty)(hf:PE X f tx)(m:M2 X o "get" apos e f cpos):PE X (.Call (.Attribute o "get" apos) [e,f] [] cpos) (yU to ty tx):=by
 intro π s b H Q I h;refine wpAny_Call_method m.base m.few m.line VE Uh PySem.F.type_dict_get (thn (ho π s b H _ I h) ?_ );rintro u s1 ⟨x,S,l,w,a,dy,vs,L,K,N,D⟩;subst K;obtain rfl:=w;obtain⟨q,p,F⟩:=ni l N;refine#v[q,p,?_];rw[m.trees];refine UQ rfl (Wh (UI (thn (he π s1 b S _ l D) λV s2 #v[y,R,O,v,C] =>
  UI (thn (hf π s2 b R _ O C) λG r #v[z,P,j,t,n,J,i,B]=>Calls.spliced_nil ?_))))
 subst J;obtain⟨T,U,A,d⟩:=eQ j i;obtain⟨E,g,M,c⟩:=d X.prog X.w;have dd:r.heap.DictOf (x9 X.prog X.w) a vs:=#v[E,g,L,M,c];refine call_meetsIn Uh dd.typeIs VP (VD _ _ _) (meets_dict_get_default (x9 X.prog X.w) a (mY (k:=.inl n) v) F G) #v[_,dd.mapOf,#v[_,P,j.tok _,?_,B]];rw[<-wx];exact(A.val<|.inl n).getD t
end
end
section
def igD (ps:List (My×My))(n:Int):Option My:=(ps.find? λp=>decide (K8 p.1=some n)).map (·.2)
def ipD (ps:List (My×My))(n:Int)(e:My):List (My×My):=if (igD ps n).isSome then ps.map (λp=>if K8 p.1=some n then(p.1,e) else p) else ps++[(.int n,e)]
section
variable {K:Qf}
theorem pW:∀{ps} {xs},IVs K H ps xs->xs.length=ps.length
 | [],_,h=>by cases h;rfl
 | _::_,_,#v[i,v,r,e,h1,h3,h4]=>by rw[e,QM,QM,pW h4]
theorem ye:∀{ps} {xs},IVs K H ps xs->(∃e v,igD ps n=some e/\W1 xs n=some v/\b8 K H e v)\/(igD ps n=none/\W1 xs n=none)
 | [],_,h=>by cases h;exact .inr #v[rfl,rfl]
 | p::ps,_,#v[i,v,r,e,h1,h3,h4]=>by
  subst e;unfold igD W1;by_cases a:i=n
  .subst a;refine .inl #v[p.2,v,?_,?_,h3]
   .rw[Rv (by rw[h1];exact Rg rfl)];rfl
   .rw[Rv<|by simp];rfl
  .rw[Rw (by rw[h1];simp[K8,a]),Rw<|by simp[a]];exact ye h4
theorem yj:∀{ps} {xs},IVs K H ps xs->(xs.any λkv=>decide (kv.1=n))=(igD ps n).isSome
 | [],_,h=>by cases h;rfl
 | p::ps,_,#v[i,v,r,e,h1,h3,h4]=>by
  subst e;have b:=yj (n:=n) h4;unfold igD at b ⊢;rw[WV];by_cases a:i=n
  .rw[Rv (by rw[h1];simp[K8,a]),Rg a];rfl
  .rw[Rw (by rw[h1];simp[K8,a]),Rk a,Bool.false_or];exact b
theorem oz (he:b8 K H e v):∀{ps} {xs},IVs K H ps xs->IVs K H (ps.map λp=>if K8 p.1=some n then(p.1,e) else p) (xs.map λkv=>if kv.1=n then(kv.1,v) else kv)
 | [],_,h=>by cases h;rfl
 | p::ps,_,#v[i,v',r,ex,h1,h3,h4]=>by
  subst ex;rw[QL,QL];by_cases a:i=n
  .rw[QH (by rw[h1];simp[K8,a]),QH a];exact#v[i,v,_,rfl,h1,he,oz he h4]
  .rw[QK (by rw[h1];simp[K8,a]),QK a];exact#v[i,v',_,rfl,h1,h3,oz he h4]
theorem sr (he:b8 K H e v):∀{ps} {xs},IVs K H ps xs->IVs K H (ps++[(.int n,e)]) (xs++[(n,v)])
 | [],_,h=>by cases h;exact#v[n,v,[],rfl,rfl,he,rfl]
 | p::ps,_,#v[i,v',r,ex,h1,h3,h4]=>by subst ex;exact#v[i,v',_,rfl,h1,h3,sr he h4]
def Fp (h:IVs K H ps xs)(he:b8 K H e v):IVs K H (ipD ps n e) (U0 xs n v):=by
 unfold ipD U0;rw[yj h];split
 .exact oz he h
 .exact sr he h
theorem DB:∀{ps} {xs} {j:Nat} {p},IVs K H ps xs->ps[j]? = some p->∃i v,xs[j]? = some (i,v)/\p.1 = .int i/\b8 K H p.2 v
 | [],_,_,_,h,e=>by cases e
 | _::_,_,0,_,#v[i,v,r,ex,h1,h3,h4],e=>by subst ex;cases e;exact#v[i,v,rfl,h1,h3]
 | _::_,_,j+1,_,#v[i,v,r,ex,h1,h3,h4],e=>by subst ex;obtain⟨b,a,f,d,c⟩:=DB h4 (by simpa using e);exact#v[b,a,by simpa using f,d,c]
end
section
variable {K:Qf}
def Bj (i)(hN:X.N.Nodup)(hi:autoParam (X.N[i]? = some x) eH)(hx:autoParam (Loc X.env.scope x) eM)(hs:autoParam (XT (.Dict [] [] p) (some<|.Name x pos') pos.line X.env=pure false) eH)(hf:autoParam (X.fn x=true\/X.env.scope.names.lookup x=some .local) eM) :
  Ss K X (.Assign [.Name x pos'] (.Dict [] [] p) pos) (aa DP<|M6 i) (fD i 9) :=
 #v[M3 hN hi hx AR hs hf,λG l j E F h H D r k S e q=>by
  unfold fD at e;split at e
  .rename_i hl;cases e;obtain⟨B,s,d,I⟩:=S.ex;intro a vs c b g;have f:Kp (n5 K G) H (upd H a<|.ext<|FrI a [] vs c):=Kp.upd b;have r:tT K B H (upd H a<|.ext<|FrI a [] vs c) (.dic true 9 []) (.ref a):=#v[rfl,a,_,rfl,b,i8,g,.inr #v[rfl,[],vs,c,rfl,rfl]];exact q _ _ (S.putC s d I f (I.fd.same<|j9.upd b) r hl).1
  .cases e]
noncomputable def tw (i:Nat)(v k:DE->M My):DE->M Out:=λE F=>(v E F).bind λp=>(k E p.2).bind λq=>(S9 E i).bind λd=>(K8 q.1).bind λn=>if d.1=true/\d.2.1=9/\d.2.2.length<XI then some (.nx<|E.set i<|some<|.dic true 9<|ipD d.2.2 n p.1,q.2) else none
def Da (i)(hu:X.A.units+9<XZ)(hv:Ev K X value te m)(hk:Ev K X e ty mb)(hK:X.K=K)(hN:autoParam (X.N[i]? = some x) eH)(hvis:autoParam (Vis X.env.scope x) eN)(hd:autoParam (nDb x) eL)(hcd:autoParam (nCd x) eL)
  (hs:autoParam (XT value (some<|.Subscript (.Name x px) e pos') pos.line X.env=pure false) eH) :
  Ss K X (.Assign [.Subscript (.Name x px) e pos'] value pos) (En (Z0 i) ty te) (tw i m mb):=by
 subst hK;refine#v[Dc (by lia) (P5 hN hvis hd hcd) hk.pe hv.pe hs,λG B0 H0 E F h H D r F' S e q=>?_];obtain⟨⟨d,N⟩,Y,e⟩:=bS9 e;obtain⟨⟨kd,F2⟩,L,e⟩:=bS9 e;obtain⟨⟨w,c',ps⟩,W,e⟩:=bS9 e;obtain⟨n,en,g⟩:=bS9 e;split at g;case isFalse=>cases g
 rename_i R;obtain⟨rfl,rfl,c⟩:=R;cases g;obtain rfl:=Q1 en;obtain⟨B,s,O,I⟩:=S.ex;have J:=N8 W;refine hv.ok G B E F h H _ d N I Y λv H1 z U T=>?_
 have p:=I.step z U;obtain⟨u,t,a,φ,rfl,hB,Q,P,hn,l⟩:=p.loc i _ J;obtain⟨dy,vs,V,rfl,k⟩:=l.is9;refine#v[_,t,hk.ok G B E N h H1 _ _ _ p L λy H2 b C A=>?_];have I2:=p.step b C;have S2:=S.step (z.trans b) C;have f:=k.same<|b.hid I.fB;simp only[b8]at A;subst A;refine#v[a,dy,vs,V,n,rfl,b a _ P Q,rfl,by rw[pW f];exact c,λj o Z=>?_];exact q h _<|S2.writeD s O I2 J t Z<|.inr #v[rfl,_,j,o,rfl,Fp f<|T.same<|b.hid I.fB]
noncomputable def ki (i:Nat)(k z:DE->M My):DE->M My:=λE F=>(k E F).bind λq=>(z E q.2).bind λr=>(S9 E i).bind λd=>(K8 q.1).bind λn=>if d.2.1=9 then some ((igD d.2.2 n).getD r.1,r.2) else none
def zN (i)(hk:Ev K X e ty mb)(hz:Ev K X f tx mz)(hK:X.K=K)(m2:M2 X (.Name x px) "get" apos e f cpos)(hN:autoParam (X.N[i]? = some x) eH)(hvis:autoParam (Vis X.env.scope x) eN)(hd:autoParam (nDb x) eL)(hcd:autoParam (nCd x) eL) :
  Ev K X (.Call (.Attribute (.Name x px) "get" apos) [e,f] [] cpos) (yU (Z0 i) ty tx) (ki i mb mz):=by
 subst hK;refine#v[xP (P5 hN hvis hd hcd) hk.pe hz.pe m2,λG B E F m H Q r F' I e q=>?_];obtain⟨⟨kd,U⟩,S,e⟩:=bS9 e;obtain⟨⟨z,F3⟩,t,e⟩:=bS9 e;obtain⟨⟨w,c',Z⟩,R,e⟩:=bS9 e;obtain⟨n,en,c⟩:=bS9 e;split at c;case isFalse=>cases c
 rename_i C;subst C;cases c;obtain rfl:=Q1 en;have P:=N8 R;obtain⟨u,A,a,V,rfl,hB,p,o,hn,h⟩:=I.loc i _ P;obtain⟨dy,vs,O,rfl,g⟩:=h.is9;refine#v[_,A,a,dy,vs,O,rfl,o,hk.ok G B E F m H _ _ _ I S λy T b N s=>hz.ok G B E U m T _ z _ (I.step b N) t λY H3 d L D=>?_];have j:=(g.same<|b.hid I.fB).same<|d.hid I.fB;simp only[b8]at s;subst s;refine#v[n,rfl,d a _ (b a _ o p) p,q _ _ (b.trans d) L ?_];rcases ye j with ⟨W,v,l,k,J⟩ | ⟨l,k⟩
 .rw[l,k];exact J
 .rw[l,k];exact D
def kW (i:Nat):DE->M (List My):=λE F=>(S9 E i).bind λd=>if d.2.1=9 then some (d.2.2.map λp=>.tuple [p.1,p.2],F) else none
def vE (i)(hN:autoParam (X.N[i]? = some x) eH)(hvis:autoParam (Vis X.env.scope x) eN)(hd:autoParam (nDb x) eL)(hcd:autoParam (nCd x) eL)
  (hbase:autoParam (XU (.Name x px) "items" X.env (eval (.Name x px) X.env)=eval (.Name x px) X.env) eH) (hline:autoParam ((apos.endLine == cpos.line)=true) eH) :
  Eib K X (.Tuple es tk tp) (.Call (.Attribute (.Name x px) "items" apos) [] [] cpos) (wq<|Z0 i) (kW i) :=
 #v[wg (P5 hN hvis hd hcd) hbase hline,λG B E F O H R V Z I e q=>by
  obtain⟨⟨w,W,P⟩,D,e⟩:=bS9 e;split at e;case isFalse=>cases e
  rename_i A;subst A;cases e;have C:=N8 D;obtain⟨u,s,a,N,rfl,U,z,m,T,h⟩:=I.loc i _ C;obtain⟨dy,vs,o,rfl,g⟩:=h.is9;refine#v[_,s,a,dy,vs,o,rfl,m,q _ H (Kp.refl) I.fd λM B2 k=>?_];have b:=k.1 a _ m z;have f:=g.same k.2;have hl:=pW f;refine#v[λj d p=>?_,#v[b,by rw[QI];exact hl]];rw[Rc]at p;obtain⟨Q,l,rfl⟩:=Re.1 p;obtain⟨n,v,r,L,J⟩:=DB f l;refine#v[#v[b,(QR.1 r).1],λx Y y=>?_];obtain⟨t,S,rfl,ht,rfl,c⟩:=y;rw[r]at c;cases c;refine#v[j9.upd ht,λbk=>?_];exact P0 bk ht #v[_,_,rfl,by rw[L];exact b8.int,_,_,rfl,J,rfl]]
end
end
section
section
variable {St:Nat->XH->Prop}
def Do (bt:Nat->Nat->Bool)(P:Nat->Xx->Prop)(dv:Xx)(n:Nat)(v:Xx):Prop:=(n=0/\v=dv)\/(0<n/\P (argBest bt<|n-1) v)
def Fw (bt:Nat->Nat->Bool)(P:Nat->Xx->Prop)(i:Nat)(old:Array Xx):Prop:=(i=0/\old = #[])\/∃j a,i=j+1/\P (argBest bt j) a/\old = #[a,a]
def uw (W:Walks prog w A.in1 I fp wr n P St)(bt) (hcmp:CmpOf prog w A.in1 .Gt P bt)(S) (hSf:S ∉ fp) :
  ∀k i s old c,n-i=k->i<=n->St i s.heap->Fw bt P i old ->
  s.heap.get? S=some { cls:=.type "list",dict:=none,data:=.seq old c,slots:=#[] } ->
  (∀v h' tk,Do bt P dv n v->(∀b o,b ∉ wr->b≠S->s.heap.get? b=some o->h'.get? b=some o)->R (.ok<|.ret v) { s with heap:=h',toks:=tk }) ->
  codeAny (model prog w) A (.builtin "max.loop" #v[[.ref I,.none,.ref S],[("default",dv)]]) R s:=by
 have D:=λh=>hSf<|W.sub _ h
 have p:(toString "max" ++ toString ".loop") = "max.loop":=by decide
 intro k;induction k with
 | zero =>
  intro i s old c M N r L z E;have y:i=n:=by lia
  refine UM F.entry_max_loop ?_;rw[TC UC _];rcases L with ⟨rfl,rfl⟩ | ⟨j,B,rfl,G,rfl⟩
  .refine QD<|So z rfl ?_;refine QD (VA<|W.done s _ _ (y▸r) λh' tk d=>?_);refine QD<|Th<|QF ?_;exact E dv h' tk (.inl #v[y.symm,rfl]) λb o a _ e=>d b o a e
  .refine QD<|So z rfl ?_;refine QD (VA<|W.done s _ _ (y▸r) λh' tk d=>?_);have m:=d S _ D z;refine QD ?_;refine Uk m rfl<|QD<|UR<|QF ?_;exact E B _ tk (.inr #v[by lia,by rw[<-y];exact G]) λb o a f e=>(RT _ _<|RM f).trans<|d b o a e
 | succ k K =>
  intro i s old c M N r L z E;have t:i<n:=by lia
  refine UM F.entry_max_loop ?_;rw[TC UC _];rcases L with ⟨rfl,rfl⟩ | ⟨j,B,rfl,J,rfl⟩
  .refine QD<|So z rfl ?_;refine QD (VA<|W.item 0 s _ _ t r λv h' tk G q d=>?_);have m:=d S _ D z;show XR _ A.in1 (updateSeq S (λ_=>#[v,v]) >>= _) _ _ _;refine QD ?_;refine Uk m rfl ?_;rw[p];refine QF #v[UG UC _,K 1 _ #[v,v] _ (by lia) t (W.frame _ _ _ q λb C o e=>?_) (.inr #v[0,v,rfl,G,rfl]) (RR _ m rfl) λH x g u l=>?_]
   .exact(RT _ _ (λh:S=b=>hSf (by rw[h];exact C))).trans e
   .exact E H x g u λb o a f e=>l b o a f<|(RT _ _<|RM f).trans<|d b o a e
  .refine QD<|So z rfl ?_;refine QD (VA<|W.item (j+1) s _ _ t r λv h' tk G q d=>?_);have m:=d S _ D z;show XR _ A.in1 (tryCatch (holding [v,v]<|richCompare .Gt v B >>= _) _ >>= _) _ _ _;refine QD<|VA<|Sq<|QD<|hcmp (j+1) (argBest bt j) v B _ _ _ G J ?_;refine QD<|Sq<|SD ?_;refine QD<|UR<|QF ?_;cases hb:bt (j+1) (argBest bt j) with
   | true =>
    simp only[SA];refine QD ?_;refine Uk m rfl<|QD<|UR ?_;rw[p];refine QF #v[UG UC _,K (j+2) _ #[v,v] _ (by lia) t (W.frame _ _ _ q λb C o e=>?_) (.inr #v[j+1,v,rfl,by simp only[argBest,hb];exact G,rfl]) (RR _ m rfl)
     λH x g u l=>?_]
    .exact(RT _ _ (λh:S=b=>hSf (by rw[h];exact C))).trans e
    .exact E H x g u λb o a f e=>l b o a f<|(RT _ _<|RM f).trans<|d b o a e
   | false =>simp only[RU];refine QD<|UR ?_;rw[p];refine QF #v[UG UC _,K (j+2) _ #[B,B] c (by lia) t q (.inr #v[j+1,B,rfl,by simp only[argBest,hb];exact J,rfl]) m λH x g u l=>?_];exact E H x g u λb o a f e=>l b o a f<|d b o a e
end
section
variable {s:Xz}
def vg (a d):argsOk "max" #v[[a],[("default",d)]]:=by kernel_rfl
def kM {id}(hk:builtinKind id=none)(hp:plainId id=true)
  (hb:entryFor table id=some b) (ha:argsOk id #v[args,kw])
  (hc:XR (model prog w) A.in1 (b #v[args,kw]) (λfin s'=>match fin with
   | .done f=>(match (Except.ok f:Result) with | .ok (.ret v)=>Q v s' | .ok _=>False | .error e=>E e s')
   | .again c'=>c'.quiet=true/\codeAny (model prog w) A c' (λr s'=>match r with | .ok (.ret v)=>Q v s' | .ok _=>False | .error e=>E e s') s') E s) :
  XR (model prog w) A (call (.builtin id) args kw) Q E s:=by
 refine UY<|Wp hp hb ?_;simp only[checkBuiltinCall,hk];cases hsig:Manifest.signature? id with
 | none=>exact QF hc
 | some a =>
  have c:Bind.checkArgs id a #v[args,kw]=pure ():=by simpa only[argsOk,hsig] using ha
  simp only[c];exact QF hc
def uR :Builtin.Builtins.bindParams "max" ["key","default"] 0 #v[[],[("default",dv)]]=pure [none,some dv]:=rfl
def lF (hh:A.handled=none)(hl:s.heap.IsList l (intItems xs))
  (h:∀v h' tk,Do (λi j=>decide (numAt xs i > numAt xs j)) (λi v=>(intItems xs)[i]? = some v) dv xs.size v->(∀b o,s.heap.get? b=some o->h'.get? b=some o)->Q v { s with heap:=h',toks:=tk }) :
  XR (model prog w) A (call (.builtin "max") [.ref l] [("default",dv)]) Q E s:=by
 have a:(toString "max" ++ toString ".loop") = "max.loop":=by decide
 refine kM F.kind_max F.plain_max F.entry_max (vg _ _) ?_;refine QD<|wpAny_of_eq uR ?_;refine QD<|QF ?_;refine QD (iter_intList hl λg e st d c=>?_);subst e;refine QD<|RI ?_;rw[a];have W:=Walks.list (prog:=prog) (w:=w) (A:=A.in1) hh _ l c<|intItems xs;refine QF #v[UG UC _,uw W _ (CmpOf.ints_gt (numAt xs)<|λ_ _=>VT) _ (λk=>Tf _<|d _ k) _ 0 _ #[] _ rfl (Sb _) (W.frame _ _ _ st λb _ o e=>QE _ e) (.inl #v[rfl,rfl]) (QV _ rfl) λv h' tk n m=>?_];exact h v h' tk (by simpa [intItems] using n) (old_kept λb o f e=>m b o f (QY<|QJ e)<|QE _ e)
end
section
variable {K:Qf}
def vp (hK:X.K=K)(hc:X.calm=true){σ:St}(I:Inv X π σ H s)(hq:SqL K H a (ns.map V.int))(ry:m6 y u)
  (q:Q (if ns=[] then y else .int (V1 ns)) H):XR (model X.prog X.w) X.A (call (.builtin "max") [.ref a] [("default",u)]) (EP X π σ Q) X.xe s:=by
 subst hK;obtain⟨b,o,p,M⟩:=I.list hq;have l:b.length=ns.length:=by rw[<-o.length,QI]
 have n:=ax o;obtain⟨c,g⟩:=n.allInts.items;have hl:=g▸p.isList;have C:c.size=ns.length:=by
  have:(intItems c).size=b.length:=by rw[<-g];simp
  rw[<-l,<-this];simp[intItems]
 have h:∀(i:Nat) v,b.toArray[i]? = some v->∃t,v = .int (ns.getD i 0) t:=λi v f=>by
  have f:b[i]? = some v:=by simpa using f
  obtain⟨n,_⟩:=QR.1 f;have D:(ns.map V.int)[i]? = some (V.int<|ns.getD i 0):=by rw[Rc,QT<|by lia];simp[QT<|show i<ns.length by lia]
  obtain⟨u,w,B⟩:=o.get D;rw[f]at w;cases w;exact B
 have d:∀i,i<ns.length->numAt c i=ns.getD i 0:=λi n=>by
  have m:i<b.length:=by simp[*]
  obtain⟨t,e⟩:=h i b[i] (by simp[m]);have e2:(intItems c)[i]? = some b[i]:=by rw[<-g];simp[m]
  obtain⟨L,A⟩:=VT e2;rw[e]at A;injection A with G _
  exact G.symm
 refine lF (I.ok.hd hc) hl λv P J f z=>?_
 rcases f with ⟨O,rfl⟩ | ⟨x,f⟩
 .have:ns=[]:=UF.1 (by lia);rw[QH this]at q;exact#v[y,H,I.kept z,ry,q]
 .have k:ns≠[]:=Vh.1 (by lia);rw[QK k]at q;obtain⟨N,E⟩:=argBest_gt (numAt c)<|c.size-1;obtain⟨t,e⟩:=VT f;subst e;generalize argBest (λi j=>decide (numAt c i > numAt c j)) (c.size-1)=j at *;have r:j<ns.length:=by lia
  have F:numAt c j=V1 ns:=by rw[d j r];refine Int.le_antisymm (dB<|getD_mem r) ?_;obtain⟨i,n,e⟩:=mem_getD<|Z8 k;have:=E i (by lia);rw[d i n,d j r]at this;rw[<-e];exact this
  rw[F];exact#v[.int<|V1 ns,H,I.kept z,#v[t,rfl],q]
def gw:List My->Option My
 | [.list ds,z]=>(X9 ds).bind λa=>if a=[] then(match z with
  | .int i=>some (.int i)
  | _=>none) else some (.int<|V1 a)
 | _=>none
def zY (X:Cx)(r:List V->Hp->VK->Prop):Prop:=∀{π} {s} {a:St} {H} {b} {y} {us} {z} {Q},Inv X π a H s->s0 b us->m6 y z->r (b++[y]) H Q->XR (model X.prog X.w) X.A (call (.builtin "max") us [("default",z)]) (EP X π a Q) X.xe s
def BX (hr:zY X r)(hm:X.mg "max" = none)(ha:PA X [e] (J8 te az))(hb:PE X e2 te2)(hg:autoParam (Gl X "max") eH)(he:autoParam (XJ [e] X.env=[(false,eval e X.env)]) eH):PE X (.Call (.Name "max" p) [e] [#v[some "default",e2,kp]] pos) (tCB r<|J8 te<|J8 te2 az):=by intro π s a H Q I h;refine Ub (aK I hg hm rfl ?_ (by decide)<|by decide);refine callWith_kw (thn (ha pos π s a H (λvs b=>te2 a b λy c=>r (vs++[y]) c Q) I h) ?_ ) (by rw[he];rfl) (by rw[he];rfl);rintro us s1 ⟨vs,b,k,f,i⟩;refine kws_cons (thn (hb π s1 a b _ k i) λz s2 #v[y,c,j,d,g]=>kws_nil ?_);exact hr j f d g
def BW (hK:X.K=K)(hc:X.calm=true):zY X (rDN K gw):=λ{π s v H f y us z Q} I r j h=>by
 obtain⟨D,B,p,d,bk,o,b,q⟩:=h;unfold gw at b;split at b <;> try cases b
 rename_i p w;obtain⟨l,e,hg⟩:=bS9 b;cases N9 e;obtain⟨C,i,c,⟨a,A,rfl,n,m⟩,t⟩:=EU o rfl;cases dX m;obtain⟨rfl,rfl⟩:f=[.ref a]/\y=i:=by
  match f,c with
  | [x],c=>cases c;exact#v[rfl,rfl]
  | x::x2::r,c=>simp at c
 obtain⟨u,rfl,k⟩:=T3 r;cases k;refine vp hK hc I (SqL.of<|f7 _ _ n) j ?_;by_cases g:l=[]
 .rw[QH g]at hg ⊢;cases w <;> simp at hg;subst hg;cases t;exact q _ H (j9.refl H) b8.int
 .rw[QK g]at hg ⊢;cases hg;exact q _ H (j9.refl H) b8.int
def BE (hK:X.K=K)(hc:X.calm=true)(hm:X.mg "max" = none)(ha:Eb K X e te m)(hb:Eb K X e2 te2 m2)(hg:autoParam (Gl X "max") eH)(he:autoParam (XJ [e] X.env=[(false,eval e X.env)]) eH)(he2:autoParam (XJ [e2] X.env=[(false,eval e2 X.env)]) eH)(he3:autoParam (XJ [e,e2] X.env=(false,eval e X.env)::XJ [e2] X.env) eH) :
  Ev K X (.Call (.Name "max" p) [e] [#v[some "default",e2,kp]] pos) (tCB (rDN K gw)<|J8 te<|J8 te2 az) (sN gw<|c8 m<|c8 m2 k8) :=
 #v[BX (BW hK hc) hm (A1 ha.pe K5 he) hb.pe hg he,zb (u9 ha (u9 hb B7 he2) he3).ok]
def sL:List My->Option My
 | [.int i,.int j,.int k]=>some<|.int<|max i<|max j k
 | _=>none
def Kd {e}{vs} (h:eE K fp B H ds vs)(eq:ds=[d,e,f]):∃v w x,vs=[v,w,x]/\M0 K fp B H d v/\M0 K fp B H e w/\M0 K fp B H f x:=by subst eq;obtain⟨v,r,rfl,g,w,j,rfl,c,x,i,rfl,b,a⟩:=h;cases a;exact#v[v,w,x,rfl,g,c,b]
def BF (hK:X.K=K)(hc:X.calm=true):D1 X (.builtin "max") (rDN K sL):=by
 intro π s u H y us Q I r h;obtain⟨D,B,E,z,bk,a,c,q⟩:=h;unfold sL at c;split at c <;> try cases c
 rename_i i j k;obtain⟨v,w,x,rfl,p,o,n⟩:=Kd a rfl;cases(p);cases(o);cases(n);cases r with
 | cons m r =>
  cases r with
  | cons l r =>
   cases r with
   | cons g r =>
    cases r;obtain⟨f,rfl⟩:=m;obtain⟨e,rfl⟩:=l;obtain⟨d,rfl⟩:=g;refine max_three_ints (I.ok.hd hc) λC A t=>?_
    refine#v[.int<|max i<|max j k,H,I.kept t,?_,q _ H (j9.refl H) b8.int];by_cases a:j > i
    .by_cases b:k > j
     .rw[QH a,QH b];exact#v[d,by congr 1;lia]
     .rw[QH a,QK b];exact#v[e,by congr 1;lia]
    .by_cases b:k > i
     .rw[QK a,QH b];exact#v[d,by congr 1;lia]
     .rw[QK a,QK b];exact#v[f,by congr 1;lia]
end
end
end L3
namespace L3
open PySem PySem.Spec PyProof.Rows L2 PySem.W
section

def yn (K:KdlSrc prog w T r d n P OK)(hh:A.handled=none)(hok:OK s.heap)(hn:n<=XI)
  (hR:∀h' tk acc c',(∀b o,s.heap.get? b=some o->h'.get? b=some o)->h'.get? s.heap.objs.size=some { cls:=.type "list",dict:=none,data:=.seq acc c',slots:=#[] }->ItemsOf P acc n->R (.ok<|.ret<|.ref s.heap.objs.size) { s with heap:=h',toks:=tk }) :
  codeAny (model prog w) A (.builtin "proto.collect" #v[[.ref r],[]]) R s:=by have a:=K.there _ hok;refine UM PySem.F.entry_proto_collect ?_;rw[TC PySem.F.plain_proto_collect _];refine QD<|RI ?_;refine QF #v[UG PySem.F.plain_list_iadd _,UM PySem.F.entry_list_iadd ?_];rw[TC PySem.F.plain_list_iadd _];have i:(s.heap.push { cls:=.type "list",data:=.seq ([]:List Xx).toArray }).get? s.heap.objs.size=some { cls:=.type "list",data:=.seq #[] }:=QV _ rfl;exact kdl_extend K hh (K.keep _ _ hok λb _ o e=>QE _ e) _ (Rr a.1) (Rr a.2) _ _ i (λh' tk f c' h g c=>hR h' tk f c' (λb o e=>h b o (QY<|QJ e)<|QE _ e) g c) hn
def nG (K:KdlSrc prog w T r d n P OK)(hh:A.handled=none)(hok:OK s.heap)(hn:n<=XI)
  (hQ:∀h' tk acc,(∀b o,s.heap.get? b=some o->h'.get? b=some o)->ItemsOf P acc n->Q acc.toList { s with heap:=h',toks:=tk }):XR (model prog w) A (collect<|.ref r) Q E s:=by refine QD (wpAny_runValue<|yn K hh hok hn λh' tk c g f e a=>?_);refine QD<|wpAny_load e ?_;exact QF<|hQ h' tk c f a
def nP (h:XR (model prog w) A.in1 (collect x) (λvs s1=>vs.length<64/\∃(kd:SortKind) (κ:Nat->Int),
   (2<=vs.length->∀h' Q,(∀b o,s1.heap.get? b=some o->h'.get? b=some o)->Q kd { s1 with heap:=h' }->XR (model prog w) A.in1.in1 (keyKind' vs.toArray) Q E { s1 with heap:=h' }) /\
   (∀h',(∀b o,s1.heap.get? b=some o->h'.get? b=some o)->gG prog w A.in1.in1 { s1 with heap:=h' } kd (pairsOf vs) κ) /\
   ∀out p,out.size=vs.length->(∀i,i<vs.length->out.toList[i]? = vs[p i]?)->SoS κ p vs.length->Q (.ref s1.heap.objs.size) { s1 with heap:=sortedHeap (s1.heap.push<|seqObj "list" vs.toArray 0) s1.heap.objs.size vs out }) E s) :
  XR (model prog w) A (call (.builtin "sorted") [x]) Q E s:=by
 refine Calls.call_function_entry kind_sorted plain_sorted entry_sorted (args_sorted1 _) ?_;refine QD<|QF ?_;refine QD (Rj h (?_ ) λ_ _ e=>e);rintro vs s1 ⟨j,kd,κ,a,f,d⟩;refine QD (wpAny_newList ?_ (by rw[Ry];omega ));have c:(s1.heap.push<|seqObj "list" vs.toArray 0).get? s1.heap.objs.size=some (seqObj "list" vs.toArray 0):=QV _ rfl;have keep:∀b o,s1.heap.get? b=some o->(s1.heap.push<|seqObj "list" vs.toArray 0).get? b=some o/\b≠s1.heap.objs.size:=λb o q=>#v[QE _ q,QY<|QJ q]
 refine QD (Sq (RO slot_list_sort #v[_,c,rfl] entry_list_sort (ll c j
  (λk h' Q g d=>a k h' Q (λb o e=>g b o (keep b o e).2 (keep b o e).1) d) (λh' g=>f h' λb o e=>g b o (keep b o e).2 (keep b o e).1) λout p r n l=>#v[_,rfl,?_])<|args_list_sort _))
 exact QF #v[_,rfl,d out p r n l]
end
section
variable {K:Qf}
def uP (hu:X.A.units+64<XZ){σ:St}{ds:List (List My)}(I:Inv X π σ H s)(rv:s0 zs its)(hlz:zs.length=ds.length)
  (hD:∀(i:Nat) z d,zs[i]? = some z->ds[i]? = some d->b8 X.K H (.tuple d) z) (hG:∀d∈ds,hJ d) (hK:∀i j di dj,i≠j->ds[i]? = some di->ds[j]? = some dj->ltM di dj=some (decide (κ i < κ j))) (h64:ds.length<64) :
  ∃kd,(2<=its.length->∀h' Q,(∀b o,s.heap.get? b=some o->h'.get? b=some o)->Q kd { s with heap:=h' }->XR (model X.prog X.w) X.A.in1.in1 (keyKind' its.toArray) Q X.xe { s with heap:=h' }) /\
   ∀h',(∀b o,s.heap.get? b=some o->h'.get? b=some o)->gG X.prog X.w X.A.in1.in1 { s with heap:=h' } kd (pairsOf its) κ:=by
 have ab:=rv.length.symm;have item:∀i v d,its[i]? = some v->ds[i]? = some d->∃as,Reads s.heap v (.tuple d) as:=λi v d l q=>by
  have N:i<zs.length:=by have:=(QR.1 l).1;lia
  obtain⟨u,G,S⟩:=rv.get<|QT N;rw[l]at G;cases G;exact P2 I _ _ _ (hD i _ d (QT N) q) S
 obtain⟨fs,K,hT⟩:=hZ (by lia) item hG;have U:∀{h'},(∀b o,s.heap.get? b=some o->h'.get? b=some o)->∀{g} {fs},aC s.heap g fs->aC h' g fs:=by
  intro h' k g;induction g with
  | nil=>intro fs t;cases fs with | nil=>exact t | cons _ _=>exact t.elim
  | cons v g L =>
   intro fs t;cases fs with
   | nil=>exact t.elim
   | cons f fs =>obtain⟨⟨a,o,T,n,l,q,G⟩,t⟩:=t;exact#v[#v[a,o,T,n,l,k _ _ q,G],L t]
 refine#v[rL fs,λh2 h' Q' k F=>?_,λh' k=>?_]
 .have m:∀i v d,its[i]? = some v->ds[i]? = some d->∃as,Reads h' v (.tuple d) as:=λi v d l q=>let #v[as,r]:=item i v d l q;#v[as,Vw k r]
  refine FH (U k K) (by have:=K.len;lia) (λf W=>?_) F;obtain⟨c,J,O⟩:=hZ (by lia) m hG;have:∀{g} {fs c},aC h' g fs->aC h' g c->fs=c:=by
   intro g;induction g with
   | nil =>
    intro fs c t w;cases fs with
    | cons _ _=>exact t.elim
    | nil =>
     cases c with
     | nil=>rfl
     | cons _ _=>exact w.elim
   | cons v g L =>
    intro fs c t w;cases fs with
    | nil=>exact t.elim
    | cons f fs =>
     cases c with
     | nil=>exact w.elim
     | cons f' c =>obtain⟨⟨a,o,T,n,l,q,G,S,e5⟩,t⟩:=t;obtain⟨⟨a',o',Z,n',p,A,g3,Y,g5⟩,w⟩:=w;rw[l]at p;cases p;rw[q]at A;cases A;rw[S]at Y;cases Y;rw[<-e5,<-g5,L t w]
  rw[this (U k K) J]at W;exact O _ f W
 .intro i j x y M R P E Q' F;rw[<-Tt,pairsOf_toList,Vm]at R P;have N:=(QR.1 R.1).1;have hj:=(QR.1 P.1).1;have di:ds[i]? = some (ds[i]'(by lia)):=QT (by lia);have dj:ds[j]? = some (ds[j]'(by lia)):=QT (by lia);obtain⟨as,C⟩:=item i _ _ R.1 di;obtain⟨bs,B⟩:=item j _ _ P.1 dj;have C:=Vw k C;have B:=Vw k B;have p:=hG _ (SI<|show i<ds.length by omega );have A:=hG _ (SI<|show j<ds.length by omega );have lt:=hK i j _ _ M di dj;have D:X.A.in1.in1.units+min (My.depthAll ds[i]+1) (My.depthAll ds[j]+1)<XZ:=by have e:X.A.in1.in1.units=X.A.units+1+1:=rfl;have:=p.2.1;lia
  unfold rL;split
  .exact pX C B p.1 A.1 (by lia) lt F
  .split
   .exact uy C B p.1 A.1 D lt F
   .exact ub C B p.1 A.1 D lt F
def rh (K:Frag)(k:NKey):List V->Hp->VK->Prop:=λb H Q=>∃(p:Xy) (c:List (k.K×Xy×V)) (a:List (List My)) (e:Nat->Int),b=[.ref p]/\H p=some (.ext<|NDi k p c)/\c.length=a.length/\(∀(i:Nat) z d,(c.map λx=>V.ref x.2.1)[i]? = some z->a[i]? = some d->b8 K H (.tuple d) z)/\(∀d∈a,hJ d) /\
 (∀i j g f,i≠j->a[i]? = some g->a[j]? = some f->ltM g f=some (decide (e i < e j)))/\a.length<64/\∀p b,H p=none->StK e (c.map λx=>V.ref x.2.1) b->Q (.ref p) (upd H p<|.lst b)
def nV (hh:X.A.handled=none)(hK:X.K=K)(hu:X.A.units+64<XZ):D1 X (.builtin "sorted") (rh K k):=by
 subst hK;intro g s R H ys us Q I r h;obtain⟨p,C,ds,Z,rfl,e,G,hD,hG,L,M,q⟩:=h;obtain⟨u,rfl,rx⟩:=T3 r;cases rx;obtain⟨z,hd,vs,w,o,es,ep,h1,h2,h3,N,h5⟩:=qU I e;have hl:es.size=C.length:=by have a:=Sn List.length N;rw[QI,RS]at a;rw[a,<-Um w]
 refine nP (nG (Cp hd) hh #v[o,h1,h2,h3] (by lia) λf S c hk l=>?_);have D:s0 (C.map λx=>V.ref x.2.1) c.toList:=by
  have e1:c.toList=vs.map λq=>Xx.ref q.2.1:=by
   have J:es.size=vs.length:=by have a:=Sn List.length N;rw[QI,RS]at a;exact a
   refine List.ext_getElem (by rw[RS,QI,l.1,J]) λj E W=>?_
   rw[RS]at E;obtain⟨g3,ev⟩:=l.2 j c[j]<|Array.getElem?_eq_getElem E;rw[Array.getElem_toList,ev,TN];have e2:es.toList[j]'(by rw[RS];exact g3)=es[j]:=Array.getElem_toList ..;rw[<-e2];simp only[N,TN]
  rw[e1];exact pf w
 have P:Inv X g R H { s with heap:=f,toks:=S }:=I.kept hk;have U:c.toList.length=C.length:=by rw[<-D.length,QI]
 obtain⟨kd,m1,m2⟩:=uP hu P D (by rw[QI];exact G) hD hG L M;refine#v[by simp[*],kd,Z,m1,m2,λout m a1 a2 Y=>?_];generalize hits:c.toList=its at *;generalize hzs:(C.map λx=>V.ref x.2.1)=zs at *;have y:=D.length;obtain⟨O,he⟩:=sortedHeap_at (out:=out)<|QV _ rfl;have d:((List.range its.length).map λi=>zs.getD (m i) .non).length=its.length:=by rw[QI,Uu]
 have v:∀i,i<its.length->((List.range its.length).map λi=>zs.getD (m i) .non)[i]? = zs[m i]?:=λi t=>by rw[Rc,Tc t];have ab:=Y.2.2 i t;show some (zs.getD (m i) .non)=_;rw[Rl,QT<|by lia];rfl
 have I2:Inv X g R (upd H f.objs.size<|.lst<|(List.range its.length).map λi=>zs.getD (m i) .non) { s with heap:=sortedHeap (f.push<|seqObj "list" its.toArray 0) f.objs.size its out,toks:=S } :=
  P.laid (λb o T=>by
   have B:=QJ T;rw[sortedHeap_old (QY B) (by rw[size_push'];exact SK B)];exact QE _ T) (QP _) #v[by rw[d,Ry];lia,out.toList,O,fC (by rw[d,atl out,a1]) (λi x u F hu=>by
   have t:i<its.length:=by have:=(QR.1 F).1;rwa [d]at this
   rw[v i t]at F;rw[a2 i t]at hu;obtain⟨u',E,W⟩:=D.get F;rw[E]at hu;rw[<-QU hu];exact W),by rw[he]]
 exact#v[.ref f.objs.size,_,I2,rfl,q _ _ (P.hok.fresh<|QP _) #v[by rw[d,y],m,by rw[y];exact Y,λi t=>v i<|by lia]]
end
end L3
namespace L3
open PySem PySem.Spec PyProof.Rows L2
section
variable {K:Qf}
def mx (i c)(hh:X.A.handled=none)(hK:X.K=K)(hu:X.A.units+64<XZ)(hm:X.mg "sorted" = none)(hv:XW "sorted" = some (.builtin "sorted"))(h9:autoParam (c≠9) eL)(hN:autoParam (X.N[i]? = some x) eH)(hvis:autoParam (Vis X.env.scope x) eN)(hd:autoParam (nDb x) eL)(hcd:autoParam (nCd x) eL)
  (hg:autoParam (Gl X "sorted") eH) (hs:autoParam (XJ [.Name x px] X.env=(false,eval (.Name x px) X.env)::XJ [] X.env) eH) (hpl:autoParam ((XO pos<|XJ [] X.env).any (·.1)=false) eH) :
  Ev K X (.Call (.Name "sorted" p) [.Name x px] [] pos) (tCB (rh K<|J5 c)<|J8 (Z0 i) az) (sN dD<|c8 (iL i c) k8) :=
 #v[Y9 (nV hh hK hu) hg hm hv (A1 (P5 hN hvis hd hcd) K5 hs) (by decide) (by decide) hs hpl,λG B E F σ H Q r F' I e q=>by
  obtain⟨⟨zs,F1⟩,m,e⟩:=bS9 e;obtain⟨⟨y,F2⟩,v,m⟩:=bS9 m;cases m;obtain⟨z,l,e⟩:=bS9 e;cases e;obtain⟨⟨w,c',P⟩,U,t⟩:=bS9 v;by_cases N:c'=c;case neg=>rw[QK N]at t;cases t
  rw[QH N]at t;have O:=N8 U;subst N;cases t;obtain⟨u,Y,a,φ,rfl,hB,ab,hx,hn,L⟩:=I.loc i _ O;obtain⟨k,rfl,J⟩:=L.not9 h9;have b:=xH J;unfold dD at l;dsimp only at l;split at l;case isFalse=>cases l
  rename_i M;cases l;obtain⟨h,g,s,n⟩:=M;have s:=s;rw[s]at b;have f:(k.map λx=>V.ref x.2.1).length=h.length:=by rw[b.length,QI]
  refine#v[_,Y,a,k,h,g,rfl,hx,by rw[<-f,QI],λi z d m v=>(nj b i z d m v).same f7,n.2.1,n.2.2,n.1,λp W C o=>?_];generalize (k.map λx=>V.ref x.2.1)=k at *;have O:Dw ((List.range h.length).map λi=>V.int<|g i) k W:=by
   obtain⟨hy,Z,hs,A⟩:=o;have T:∀i,i<k.length->je ((List.range h.length).map λi=>V.int<|g i) i = g i:=λi hi=>by unfold je;rw[Rl,Rc,Tc<|by lia];rfl
   refine#v[hy,Z,#v[λi j D R=>?_,hs.2.1,hs.2.2],A];have:=hs.1 i j D R;unfold Lx at this ⊢;rw[T _<|hs.2.2 i<|by lia,T _<|hs.2.2 j R];exact this
  have S:=xR O (by rw[QI,Uu,f]);rw[Rq,show(uN ∘ λi=>V.int<|g i) = g from rfl]at S;subst S;have:=(wu (ns:=(List.range h.length).map g) b).sort.dats;rw[tN n]at this;rw[s,cu]at q;exact q _ _ (Kp.upd C) (I.fd.same<|j9.upd C)<|bF I.bk C this]
end
end L3
namespace L3
open PySem PySem.W PySem.Spec PyProof.Rows L2
section

end
end L3
namespace Bz
open PySem L2 L3
def Bd (k:Nat)(z:Int):Prop:=z.natAbs<=2 ^ k
def Bd.mul (h1:Bd j a)(h2:Bd k b):Bd (j+k) (a*b):=by unfold Bd at *;rw[UW,TY];exact TR h1 h2
def Bd.add (h1:Bd k a)(h2:Bd k b):Bd (k+1) (a+b):=by unfold Bd at *;rw[Nat.pow_succ];have:=Int.natAbs_add_le a b;lia
def Bd.mono (h1:Bd j a)(h:j<=k):Bd k a:=QZ h1 (Rf (by decide) h)
theorem Bd.pow (h:Bd k a):∀n,Bd (k*n) (a ^ n)
 | 0=>by unfold Bd;simp
 | n+1=>by rw[RB,Nat.mul_succ];exact(Bd.pow h n).mul h
def Bd.big (h:Bd k a)(hk:k<400000):a.natAbs<X7:=by refine Ra h (QO (m:=2 ^ (k+1)) ?_<|gh<|by lia);exact RH (by decide) (by simp[*] )
def c_power:List DV->M My:=G1 ["one","n","top","bottom","turn"] (mSq (kT (P7 2<|u6 (bN 2)<|u6 (bN 3) Q6)<|sC<|.tuple [.int 1,.int 1])
  (mSq (aN (dh<|c8 (sV 1) k8) (bN 4)<|jj 2 3<|c8 (s2 K0 (sW 2)<|s2 ixD (sW 0)<|sC<|.int 0)<|c8 (s2 K0 (sW 3)<|s2 ixD (sW 0)<|sC<|.int 1) k8)
  (mRt<|G9<|c8 (sV 2)<|c8 (sV 3) k8)))
def bO:List DV->M My:=G1 ["flow"]<|mRt<|sN ak<|c8 (sW 0) k8
def c_mean_power:List DV->M My:=G1 ["flow","z","top","bottom","weighed","below","lot"] (mSq (kT (P7 2<|u6 (bN 2)<|u6 (bN 3) Q6)<|sV 1)
  (mSq (kT (P7 2<|u6 (bN 4)<|u6 (bN 5) Q6)<|sC<|.tuple [.int 0,.int 1])
  (mSq (aN (R1<|s1 vo<|sW 0) (bN 6) (mSq (G7 4<|s2 Q4 (s2 K0 (sW 4)<|sW 2)<|s2 K0 (sW 6)<|sW 5)
  (gy 5<|sV 3)))
  (mRt<|G9<|c8 (s2 K0 (sW 4)<|sW 3)<|c8 (s2 K0 (i3 bO<|vD (sV 0) l9)<|sW 5) k8))))
def c_rises:List DV->M My:=G1 ["flow","hands","z"]<|mRt<|i3 c_less<|vD (i3 c_power<|vD (sV 2)<|vD (sV 1) l9)<|vD (i3 c_mean_power<|vD (sV 0)<|vD (sV 2) l9) l9
section
variable {Q:My->FdS->Prop}
def CH (ha:Bd k a)(hb:Bd k b)(hk:k*n<399000)(hk1:k<399000)(hn:n<=1000)(q:Q (.tuple [.int<|a ^ n,.int<|b ^ n]) F):wp (c_power [.dat<|.tuple [.int a,.int b],.dat<|.int (n:Nat)] F) Q:=by
 refine D6.2 (w6.2<|dS.2<|i9.2 #v[_,rfl,j0<|w6.2<|T7.2<|aw.2<|c6.2<|B8.2<|B9 rfl<|h7.2<|d5 (yo<|by lia) ?_]);refine R9 (λi E f=>f=F/\∃o,E=[some<|.dat<|.tuple [.int a,.int b],some<|.dat<|.int n,some<|.dat<|.int<|a ^ i,some<|.dat<|.int<|b ^ i,o]) _ 0 _ F #v[rfl,none,by simp;rfl] ?_ ?_
 .rintro i d c E e ⟨rfl,o,rfl⟩;rw[Rx];have h:=(GG c).1;have g:k*i<=k*n:=Vk _ (by lia);refine#v[_,rfl,?_];refine jl (c6.2<|n9.2<|C2.2<|E3 rfl<|n9.2<|C2.2<|E3 rfl<|i9.2<|d5 rfl<|d5 (aj ((ha.pow i).big<|by lia)<|ha.big<|by lia) ?_);refine c6.2 (n9.2<|C2.2<|E3 rfl<|n9.2<|C2.2<|E3 rfl<|i9.2<|d5 rfl<|d5 (aj ((hb.pow i).big<|by lia)<|hb.big<|by lia) ?_);refine h7.2 #v[_,_,rfl,m5 rfl,m5 rfl,_,rfl,rfl,_,by rw[RB,RB];rfl]
 .rintro E e ⟨rfl,o,rfl⟩;rw[sG,Rx];walk_at "go";exact q
def hor (a b:Int):List Int->Int
 | []=>0
 | x::xs=>hor a b xs*a+x*b ^ xs.length
def iy (a b:Int)(ys:List Int):Int:=hor a b ys.reverse
def GQ (ys) (y):iy a b (ys++[y])=iy a b ys*a+y*b ^ ys.length:=by unfold iy;rw[List.reverse_append];show hor a b (y::ys.reverse)=_;rw[hor,SM]
theorem lN (ha:Bd k a)(hb:Bd k b):∀{xs},(∀x∈xs,Bd 400 x)->Bd (k*xs.length+400+xs.length) (hor a b xs)
 | [],_=>by unfold Bd;simp[hor]
 | x::xs,h=>by
  have e:=lN ha hb λy c=>h y<|QG _ c
  have d:=(h x QN).mul<|hb.pow xs.length;rw[hor,QM,Nat.mul_succ];exact(((e.mul ha).mono<|by simp[*] ).add<|d.mono (k:=k*xs.length+400+xs.length+k)<|by lia).mono (by lia)
def BO (ha:Bd k a)(hb:Bd k b)(hx:∀x∈xs,Bd 400 x)(hl:xs.length<=100)(hk:k*xs.length+2*k<390000)(hs:Bd 500 xs.sum)
  (q:Q (.tuple [.int<|hor a b xs*b,.int<|xs.sum*b ^ xs.length]) F):wp (c_mean_power [.dat<|fT xs,.dat<|.tuple [.int a,.int b]] F) Q:=by
 have m:∀n,n<=xs.length->Bd (k*xs.length+400+xs.length) (iy a b<|xs.reverse.take n):=λn p=>by
  have t:∀x∈(xs.reverse.take n).reverse,Bd 400 x:=λx h=>by have c:=Ws<|Xo.1 h;exact hx x<|Xo.1 c
  have c:=lN ha hb t;have e:(xs.reverse.take n).reverse.length=n:=by simp;simp[*]
  rw[e]at c;have:=Vk k p;exact c.mono (by lia)
 refine D6.2<|w6.2<|dS.2<|B8.2<|B9 rfl #v[_,rfl,j0<|w6.2<|dS.2<|i9.2 #v[_,rfl,j0<|w6.2<|T7.2<|K6.2<|qo.2<|C2.2<|E3 rfl<|d5 EH<|d5 rfl ?_]];refine R9 (λi E z=>z=F/\∃o,E=[some<|.dat<|fT xs,some<|.dat<|.tuple [.int a,.int b],some<|.dat<|.int a,some<|.dat<|.int b,some<|.dat<|.int<|iy a b<|xs.reverse.take i,some<|.dat<|.int<|b ^ i,o]) _ 0 _ F #v[rfl,none,by simp[hor];rfl] ?_ ?_
 .rintro i d l E j ⟨rfl,o,rfl⟩;rw[Rx];rw[<-List.map_reverse,Rc]at l;obtain⟨y,g,rfl⟩:=Re.1 l;have B:i<xs.length:=by have:=(QR.1 g).1;rwa [SM]at this
  have A:k*i<=k*xs.length:=Vk _ (by lia);have f:=hx y<|Xo.1<|RA g;have v:xs.reverse.take (i+1)=xs.reverse.take i++[y]:=by rw[Ut,g];rfl
  have u:(xs.reverse.take i).length=i:=by simp;lia
  refine#v[_,rfl,?_];refine w6.2 (N6.2<|n9.2<|n9.2<|C2.2<|E3 rfl<|C2.2<|E3 rfl<|d5 (aj ((m i<|by lia).big<|by lia)<|ha.big<|by lia) ?_);refine n9.2 (C2.2<|E3 rfl<|C2.2<|E3 rfl<|d5 (aj (f.big<|by decide)<|(hb.pow i).big<|by lia)<|d5 E8 #v[m5 rfl,j0 ?_]);have s:Big (b ^ i) b:=.inr #v[(hb.pow i).big (by lia),hb.big<|by lia];have w:gy 5 (sV 3) [some<|.dat<|fT xs,some<|.dat<|.tuple [.int a,.int b],some<|.dat<|.int a,some<|.dat<|.int b,some<|.dat<|.int<|iy a b (xs.reverse.take i)*a+y*b ^ i,some<|.dat<|.int<|b ^ i,some<|.dat<|.int y] j=some (.nx [some<|.dat<|fT xs,some<|.dat<|.tuple [.int a,.int b],some<|.dat<|.int a,some<|.dat<|.int b,some<|.dat<|.int<|iy a b (xs.reverse.take i)*a+y*b ^ i,some<|.dat<|.int<|b ^ i*b,some<|.dat<|.int y],j):=by show(if Big (b ^ i) b then _ else _)=_;rw[QH s];rfl
  refine#v[_,_,w,_,rfl,rfl,_,by rw[v,GQ,u,RB]]
 .rintro E j ⟨rfl,o,rfl⟩;rw[Rx,SM,QI,<-SM,SJ,SM];have e:iy a b xs.reverse=hor a b xs:=by unfold iy;rw[List.reverse_reverse]
  rw[e];have r:=lN ha hb hx;refine j0 (A4.2<|A6.2<|c6.2<|n9.2<|C2.2<|E3 rfl<|C2.2<|E3 rfl<|d5 (aj (r.big<|by lia)<|hb.big<|by lia) ?_);refine c6.2<|n9.2<|i7.2<|A8.2<|B8.2<|B9 rfl<|j3.2<|D6.2<|A4.2<|ao.2<|c6.2<|C2.2<|E3 rfl<|h7.2<|d5 wH<|l7 ?_;exact C2.2 (E3 rfl<|d5 (aj (hs.big<|by decide)<|(hb.pow _).big<|by lia)<|h7.2 #v[n6 rfl,l7 q])
def rF (ha:Bd k a)(hb:Bd k b)(hx:∀x∈xs,Bd 400 x)(hl:xs.length<=100)(hh:h<=3)(hk:k*xs.length+3*k<190000)(hs:Bd 500 xs.sum)
  (q:Q (.bool<|decide (a ^ h*(xs.sum*b ^ xs.length)<hor a b xs*b*b ^ h)) F):wp (c_rises [.dat<|fT xs,.dat<|.int (h:Nat),.dat<|.tuple [.int a,.int b]] F) Q:=by have c:k*h<=k*3:=Vk _ hh;refine D6.2<|A4.2<|i7.2<|A8.2<|i7.2<|A8.2<|B8.2<|B9 rfl<|A8.2<|B8.2<|B9 rfl<|j3.2 ?_;refine CH ha hb (by lia) (by lia) (by lia)<|A8.2<|i7.2<|A8.2<|B8.2<|B9 rfl<|A8.2<|B8.2<|B9 rfl<|j3.2 ?_;refine BO ha hb hx hl (by lia) hs<|j3.2 ?_;exact iS ((ha.pow h).big<|by lia) ((hb.pow h).big<|by lia) (((lN ha hb hx).mul hb).big<|by lia) ((hs.mul<|hb.pow _).big<|by lia)<|l7 q
end
end Bz
namespace L3
open PySem PySem.Spec PyProof.Rows L2
section
variable {F:FdS}
def Gv {Q:Out->FdS->Prop}{k:DE->M My}(he:S9 E i=some (true,9,ps))(q:wp (v E F) λx F1=>wp (k E F1) λy F2=>∃n,y = .int n/\ps.length<=1000/\Q (.nx<|E.set i<|some<|.dic true 9<|ipD ps n x) F2):wp (tw i v k E F) Q:=by
 unfold tw;rw[d4];refine j8 q λx F1 h=>?_
 rw[d4];refine j8 h λy F2 h=>?_
 obtain⟨n,rfl,hl,h⟩:=h;rw[he,QX];rw[show K8 (.int n)=some n from rfl,QX,QH #v[rfl,rfl,Ra hl (by rw[Ry];decide)]];exact d6.2 h
def CY {Q:My->FdS->Prop}{z:DE->M My}(he:S9 E i=some (w,9,ps))(q:wp (k E F) λy F1=>wp (z E F1) λr F2=>∃n,y = .int n/\Q ((igD ps n).getD r) F2):wp (ki i k z E F) Q:=by
 unfold ki;rw[d4];refine j8 q λy F1 h=>?_
 rw[d4];refine j8 h λr F2 b=>?_
 obtain⟨n,rfl,a⟩:=b;rw[he,QX];rw[show K8 (.int n)=some n from rfl,QX,QH rfl];exact d6.2 a
def AZ {Q:List My->FdS->Prop}(he:S9 E i=some (w,9,ps))(q:Q (ps.map λp=>.tuple [p.1,p.2]) F):wp (kW i E F) Q:=by unfold kW;rw[he,QX,QH rfl];exact d6.2 q
end
abbrev zD (p:Int×Int):My×My:=(.int p.1,.int p.2)
def Y2 (ds:List (Int×Int))(n:Int):Option Int:=(ds.find? λp=>decide (p.1=n)).map (·.2)
def cH (ds:List (Int×Int))(n v:Int):List (Int×Int):=if (Y2 ds n).isSome then ds.map (λp=>if p.1=n then(p.1,v) else p) else ds++[(n,v)]
theorem yq (n):∀ds,igD (ds.map zD) n=(Y2 ds n).map .int
 | []=>rfl
 | p::ds=>by
  have a:=yq n ds;unfold igD Y2 at a ⊢;rw[QL];by_cases e:p.1=n
  .rw[Rv (by simp[K8,e]),Rv<|by simp[e]];rfl
  .rw[Rw (by simp[K8,e]),Rw<|by simp[e]];exact a
def HV (ds) (n v):ipD (ds.map zD) n (.int v)=(cH ds n v).map zD:=by
 unfold ipD cH;rw[yq,Us];split
 .rw[Rq,Rq];refine SN λp _=>?_
  show(if K8 (.int p.1)=some n then _ else _)=zD (if p.1=n then _ else _);by_cases e:p.1=n
  .rw[QH (by rw[e];rfl),QH e]
  .rw[QK (show ¬K8 (.int p.1)=some n from λz=>e<|QU z),QK e]
 .rw[Sw];rfl
def yS (ds) (n v):(cH ds n v).length<=ds.length+1:=by
 unfold cH;split
 .rw[QI];simp[*]
 .simp
def uU (nd:(ds.map (·.1)).Nodup):((cH ds n v).map (·.1)).Nodup:=by
 unfold cH;split
 .rw[Rq];have:((·.1) ∘ λp:Int×Int=>if p.1=n then(p.1,v) else p) = λp:Int×Int=>p.1:=by funext p;show(if p.1=n then(p.1,v) else p).1=p.1;split <;> rfl
  rw[this];exact nd
 .rename_i f;rw[Sw,Xe];refine#v[nd,by simp,λa g b c e=>f ?_];simp only[QL,RK,Rn]at c;subst c;obtain⟨p,d,h⟩:=Rt.1 g;unfold Y2;rw[Us,List.find?_isSome];exact#v[p,d,Rg<|h.trans e]
def zQ {P:Int×Int->Prop}(h:∀p∈ds,P p)(hv:P (n,v)):∀p∈cH ds n v,P p:=λp a=>by
 unfold cH at a;split at a
 .obtain⟨q,b,rfl⟩:=Rt.1 a;split
  .rename_i e;rw[e];exact hv
  .exact h q b
 .rcases UH.1 a with a | a
  .exact h p a
  .rw[Rn.1 a];exact hv
def yY (h:Y2 ds n=some v):(n,v)∈ds:=by obtain⟨p,a,rfl⟩:=Re.1 h;have c:=List.mem_of_find?_eq_some a;have b:=List.find?_some a;rw[<-Rh b];exact c
def Ci (r:List Rat):∀a,r.foldl (· + ·) a=a+r.foldl (· + ·) 0:=by
 induction r with
 | nil=>intro a;simp[Rat.add_zero]
 | cons x r b =>intro a;rw[Wi,Wi,b<|a+x,b<|0+x];grind
def tX (x) (r):Bz.sumQ (x::r)=x+Bz.sumQ r:=by unfold Bz.sumQ;rw[Wi,Ci];grind
def sZ (f:Int->Rat)(ds:List (Int×Int)):Rat:=Bz.sumQ (ds.map λp=>(p.2:Rat)*f p.1)
def dm (f) (p) (ds):sZ f (p::ds)=(p.2:Rat)*f p.1+sZ f ds:=by unfold sZ;rw[QL,tX]
theorem xV (f):∀{ds},(ds.map (·.1)).Nodup->sZ f (cH ds n<|(Y2 ds n).getD 0+a)=sZ f ds+(a:Rat)*f n
 | [],_=>by
  show sZ f [(n,0+a)]=_;rw[dm];push_cast;simp[sZ];grind
 | p::ds,nd=>by
  rw[QL,Tx]at nd;have b:=xV f (n:=n) (a:=a) nd.2;by_cases e:p.1=n
  .have g:Y2 (p::ds) n=some p.2:=by unfold Y2;rw[Rv<|by simp[e]];rfl
   have m:cH (p::ds) n (p.2+a)=(p.1,p.2+a)::ds:=by
    unfold cH;rw[g,QH (show(some p.2).isSome=true from rfl),QL,QH e];congr 1;have:∀q∈ds,(if q.1=n then(q.1,p.2+a) else q)=q:=λq c=>by rw[QK λz=>nd.1<|Rt.2 #v[q,c,z.trans e.symm]]
    rw[SN this,List.map_id']
   rw[g,Option.getD_some,m,dm,dm,<-e];push_cast;grind
  .have g:Y2 (p::ds) n=Y2 ds n:=by unfold Y2;rw[Rw<|by simp[e]]
   have m:∀v,cH (p::ds) n v=p::cH ds n v:=λv=>by
    unfold cH;rw[g];split
    .rw[QL,QK e]
    .rfl
   rw[g,m,dm,dm,b];grind
end L3
namespace Bz
open PySem L2 L3
def wf (f:Nat->Int):Nat->List Int->Int
 | _,[]=>0
 | j,x::r=>x*f j+wf f (j+1) r
theorem gM :∀{xs} {j},(∀x∈xs,0<=x)->(∀k,j<=k->k<j+xs.length->f k<=g k)->wf f j xs<=wf g j xs
 | [],j,_,_=>TV _
 | x::r,j,h,hf=>by have c:=gM (j:=j+1) (λy a=>h y<|QG _ a) (λk c b=>hf k (by lia) (by rw[QM];lia));have b:=RL (hf j (QP _) (by rw[QM];simp[*] ))<|h x QN;rw[wf,wf];lia
theorem W0 :∀xs j,wf (λk=>c*f k+d*g k) j xs=c*wf f j xs+d*wf g j xs
 | [],j=>by simp[wf]
 | x::r,j=>by rw[wf,wf,wf,W0 r<|j+1];grind
theorem yL :∀{xs} {j},(∀k,j<=k->k<j+xs.length->f k=g k)->wf f j xs=wf g j xs
 | [],j,_=>rfl
 | x::r,j,hf=>by rw[wf,wf,yL (j:=j+1)<|λk b a=>hf k (by lia) (by rw[QM];lia),hf j (QP _) (by rw[QM];simp[*] )]
theorem cJ:∀xs j,wf (λ_=>1) j xs=xs.sum
 | [],j=>rfl
 | x::r,j=>by rw[wf,cJ r,Sj,VN]
theorem rE:∀xs j,wf (λk=>(k:Int)) j xs=E7 (en j xs)
 | [],j=>rfl
 | x::r,j=>by rw[wf,rE r,en];simp only[E7,QL,Sj];rw[Wq x]
theorem kC :∀{xs} {j},(∀k,j<=k->f k=0)->wf f j xs=0
 | [],j,_=>rfl
 | x::r,j,h=>by rw[wf,kC λk a=>h k (by lia),h j<|QP _];simp
theorem zt:∀xs j m,wf (λk=>if k=j+m then 1 else 0) j xs=xs.getD m 0
 | [],j,m=>by simp[wf]
 | x::r,j,0=>by
  rw[wf,kC λk b=>QK<|by lia];simp
 | x::r,j,m+1=>by have a:=zt r (j+1) m;rw[wf,QK<|by simp[*] ];rw[show j+(m+1)=j+1+m by lia,a];simp
def HR (h:∀x∈xs,0<=x)(hf:∀k,0<=f k):0<=wf f j xs:=by
 have:=gM (j:=j) h λk _ _=>hf k
 rwa [kC λ_ _=>rfl]at this
theorem xw :∀xs j h,wf (λk=>a ^ k*b ^ (j+xs.length+h-k)) j xs=a ^ j*hor a b xs*b ^ (h+1)
 | [],j,h=>by simp[wf,hor]
 | x::xs,j,h=>by have c:=xw (a:=a) (b:=b) xs (j+1) h;rw[wf,QM];rw[show j+1+xs.length+h=j+(xs.length+1)+h by lia]at c;rw[c,show j+(xs.length+1)+h-j=xs.length+(h+1) by lia,hor,Uw,RB];grind
def qf (xs) (h):wf (λk=>a ^ k*b ^ (xs.length+h-k)) 0 xs=hor a b xs*b ^ (h+1):=by have:=xw (a:=a) (b:=b) xs 0 h;rw[Rx,Xk,Int.one_mul]at this;exact this
theorem qX (h0:0<a)(h1:a<b):∀m:Nat,b ^ (m+1)-a ^ (m+1)<=((m:Int)+1)*(b-a)*b ^ m
 | 0=>by simp[RB]
 | m+1=>by
  have d:=qX h0 h1 m;have h:0<=a ^ (m+1):=Sa<|RY h0;have g:0<=b ^ (m+1):=Sa (RY<|by lia);have f:b ^ (m+1+1)-a ^ (m+1+1)=(b ^ (m+1)-a ^ (m+1))*a+b ^ (m+1)*(b-a):=by rw[RB b<|m+1,RB a<|m+1];grind
  have c:0<=(m+1)*(b-a)*b ^ m:=RD (RD (by lia)<|by lia) (Sa<|RY<|by lia);have i:(b ^ (m+1)-a ^ (m+1))*a<=(m+1)*(b-a)*b ^ m*b:=by refine Xh (SQ d<|by lia) (RL (by lia) c)
  have e:(((m+1:Nat))+1)*(b-a)*b ^ (m+1)=(m+1)*(b-a)*b ^ m*b+b ^ (m+1)*(b-a):=by rw[RB b m];push_cast;grind
  rw[f,e];simp[*]
theorem rX (h0:0<a)(h1:a<b):∀j:Nat,a ^ (j+1)*(b+((j:Int)+1)*(b-a))<b ^ (j+1+1)
 | 0=>by
  rw[RB,Xk,RB,RB,Xk];have:=Ua (a:=b-a) (b:=b-a) (by lia) (by lia);have e:1*b*b-1*a*(b+((0:Nat)+1)*(b-a))=(b-a)*(b-a):=by grind
  omega
 | j+1=>by
  have d:=rX h0 h1 j;have c:0<a ^ (j+1):=RY h0;have f:=Int.mul_lt_mul_of_pos_right d (show 0<b by lia);have p:0<=a ^ (j+1)*((j+2)*((b-a)*(b-a))):=RD (Sa c) (RD (by lia)<|RD (by lia)<|by lia);have e:a ^ (j+1)*(b+(j+1)*(b-a))*b=a ^ (j+1+1)*(b+(((j+1:Nat))+1)*(b-a))+a ^ (j+1)*((j+2)*((b-a)*(b-a))):=by rw[RB a<|j+1];push_cast;grind
  rw[RB b<|j+1+1];omega
def JI (h0:0<a)(h1:a<b){k:Nat} (hn:1<=n)(hk:k<n) :
  a ^ h*b ^ n+((k:Int)-h)*(a-b)*(a ^ h*b ^ (n-1))+(if k<h then 1 else 0)<=a ^ k*b ^ (n+h-k):=by
 have o:0<b:=by lia
 by_cases c:k<h
 .obtain⟨j,p⟩:∃j,h=k+(j+1):=#v[h-k-1,by lia];obtain⟨N,g⟩:∃N,n=N+1:=#v[n-1,by simp[*] ];subst p g;rw[QH c,show N+1+(k+(j+1))-k=N+(j+1+1) by lia,Nat.add_sub_cancel,RB b N,Uw b N<|j+1+1,Uw a k];have t:=rX h0 h1 j;have e:0<a ^ k*b ^ N:=Ua (RY h0)<|RY o;have d:=RL (show a ^ (j+1)*(b+(j+1)*(b-a))+1<=b ^ (j+1+1) by omega )<|Sa e;have l:a ^ k*(b ^ N*b ^ (j+1+1))=a ^ k*b ^ N*b ^ (j+1+1):=by grind
  have i:a ^ k*a ^ (j+1)*(b ^ N*b)+(k-((k+(j+1):Nat)) )*(a-b)*(a ^ k*a ^ (j+1)*b ^ N)=a ^ k*b ^ N*(a ^ (j+1)*(b+(j+1)*(b-a))):=by push_cast;grind
  rw[l,i];have q:a ^ k*b ^ N*(a ^ (j+1)*(b+(j+1)*(b-a))+1)=a ^ k*b ^ N*(a ^ (j+1)*(b+(j+1)*(b-a)))+a ^ k*b ^ N:=by grind
  rw[q]at d;lia
 .rw[QK c];by_cases f:k=h
  .subst f;rw[show n+k-k=n by simp[*] ];simp
  .obtain⟨m,f⟩:∃m,k=h+(m+1):=#v[k-h-1,by lia];subst f;obtain⟨N,g⟩:∃N,n=N+(m+1):=#v[n-(m+1),by lia];subst g;rw[show N+(m+1)+h-(h+(m+1))=N by lia,show N+(m+1)-1=N+m by simp[*],Uw b N<|m+1,Uw b N m,Uw a h];have t:=qX h0 h1 m;have e:0<a ^ h*b ^ N:=Ua (RY h0)<|RY o;have d:=RL t<|Sa e;have l:a ^ h*b ^ N*(b ^ (m+1)-a ^ (m+1))=a ^ h*(b ^ N*b ^ (m+1))-a ^ h*a ^ (m+1)*b ^ N:=by grind
   have i:(((h+(m+1):Nat))-h)*(a-b)*(a ^ h*(b ^ N*b ^ m)) = -(a ^ h*b ^ N*((m+1)*(b-a)*b ^ m)):=by push_cast;grind
   rw[l]at d;rw[i];lia
def sJ {h:Nat}(nn:∀x∈xs,0<=x)(hn:1<=xs.length)(h0:0<a)(h1:a<b)(hS:xs.getD h 0≠xs.sum\/E7 (en 0 xs)<(h:Int)*xs.sum)(hW:E7 (en 0 xs)<=(h:Int)*xs.sum) :
  xs.sum*a ^ h*b ^ xs.length<hor a b xs*b ^ (h+1):=by
 have y:0<b:=by lia
 have t:=gM (j:=0) nn λk _ B=>JI h0 h1 (h:=h) hn (show k<xs.length by lia)
 rw[qf]at t;have w:0<a ^ h*b ^ (xs.length-1):=Ua (RY h0)<|RY y;generalize hc:a ^ h*b ^ (xs.length-1)=c at *;have e:wf (λk:Nat=>a ^ h*b ^ xs.length+((k:Int)-h)*(a-b)*c+(if k<h then 1 else 0)) 0 xs=(a ^ h*b ^ xs.length-(h:Int)*(a-b)*c)*xs.sum+(a-b)*c*E7 (en 0 xs)+wf (λk=>if k<h then 1 else 0) 0 xs:=by have l:=W0 (c:=a ^ h*b ^ xs.length-(h:Int)*(a-b)*c) (d:=(a-b)*c) (f:=λ_=>1) (g:=λk=>(k:Int)) xs 0;have i:=W0 (c:=1) (d:=1) (f:=λk:Nat=>(a ^ h*b ^ xs.length-(h:Int)*(a-b)*c)*1+(a-b)*c*(k:Int)) (g:=λk=>if k<h then 1 else 0) xs 0;rw[l,cJ,rE]at i;rw[yL (g:=λk:Nat=>1*((a ^ h*b ^ xs.length-(h:Int)*(a-b)*c)*1+(a-b)*c*(k:Int))+1*(if k<h then 1 else 0)) λk _ _=>by grind,i];simp[*]
 rw[e]at t;have C:0<=wf (λk=>if k<h then(1:Int) else 0) 0 xs:=HR nn λk=>by split <;> decide
 have v:(a ^ h*b ^ xs.length-(h:Int)*(a-b)*c)*xs.sum+(a-b)*c*E7 (en 0 xs)=xs.sum*a ^ h*b ^ xs.length+(b-a)*c*((h:Int)*xs.sum-E7 (en 0 xs)):=by grind
 rw[v]at t;have n:0<(b-a)*c:=Ua (by simp[*] ) w;by_cases m:E7 (en 0 xs)<(h:Int)*xs.sum
 .have:=Ua n (show 0<(h:Int)*xs.sum-E7 (en 0 xs) by simp[*] );lia
 .have hS:xs.getD h 0≠xs.sum:=hS.resolve_right m;have A:=RD (Sa n) (show 0<=(h:Int)*xs.sum-E7 (en 0 xs) by simp[*] );have u:0<wf (λk=>if k<h then(1:Int) else 0) 0 xs:=by
   apply SR;intro s;have s:wf (λk=>if k<h then(1) else 0) 0 xs=0:=by lia
   have l:=W0 (c:=1) (d:=-1) (f:=λ_=>1) (g:=λk=>if k=0+h then 1 else 0) xs 0;have i:=W0 (c:=1) (d:=-((h:Int)+1)) (f:=λk=>1*1 + -1*(if k=0+h then 1 else 0)) (g:=λk=>if k<h then 1 else 0) xs 0;have p:=W0 (c:=1) (d:=-(h:Int)) (f:=λk=>(k:Int)) (g:=λ_=>1) xs 0;rw[l,cJ,zt,s]at i;rw[cJ,rE,show 1*E7 (en 0 xs) + -h*xs.sum=E7 (en 0 xs)-h*xs.sum by grind]at p;have o:=gM (j:=0) (f:=λk=>1*(1*1 + -1*(if k=0+h then 1 else 0)) + -((h:Int)+1)*(if k<h then 1 else 0)) (g:=λk=>1*(k:Int) + -(h:Int)*1) nn λk _ _=>by
    by_cases r:k=0+h
    .rw[QH r,QK<|by simp[*] ];lia
    .rw[QK r];by_cases q:k<h
     .rw[QH q];lia
     .rw[QK q];lia
   rw[i,p]at o;have:=rJ nn h;have z:-((h:Int)+1)*0=0:=by simp
   rw[z]at o;lia
  lia
theorem up2 (hb:1<=b):∀k:Nat,2*b*b*(b-1) ^ k<=b ^ k*(2*b*b-2*(k:Int)*b+(k:Int)*((k:Int)-1))
 | 0=>by simp
 | k+1=>by
  have f:=SQ (up2 hb k) (show 0<=b-1 by simp[*] );have a:0<=b ^ k:=Sa (RY<|by lia);have c:0<=(k:Int)*(k-1):=by
   cases k with
   | zero=>decide
   | succ k=>exact RD (by lia) (by push_cast;simp[*] )
  have p:=RD a c;have e:2*b*b*(b-1) ^ (k+1)=2*b*b*(b-1) ^ k*(b-1):=by rw[RB];grind
  have d:b ^ (k+1)*(2*b*b-2*((k+1:Nat))*b+((k+1:Nat))*(((k+1:Nat))-1))=b ^ k*(2*b*b-2*k*b+k*(k-1))*(b-1)+b ^ k*(k*(k-1)):=by rw[RB];push_cast;grind
  rw[e,d];omega
theorem IR (hb:1<=b):∀h:Nat,b ^ h*(b-(h:Int))<=b*(b-1) ^ h
 | 0=>by simp
 | h+1=>by
  have d:=SQ (IR hb h) (show 0<=b-1 by simp[*] );have c:0<=b ^ h*h:=RD (Sa<|RY<|by lia) (by simp[*] );have a:b*(b-1) ^ (h+1)=b*(b-1) ^ h*(b-1):=by rw[RB];grind
  have e:b ^ h*(b-h )*(b-1)=b ^ (h+1)*(b-((h+1:Nat)) )+b ^ h*h:=by rw[RB];push_cast;grind
  rw[a];omega
def uu {h:Nat}(nn:∀x∈xs,0<=x)(hb:1<=b)(hl:xs.length<=9)(hs:xs.sum<=120)(hB:4096<=b)(hW:(h:Int)*xs.sum<E7 (en 0 xs)) :
  hor (b-1) b xs*b ^ (h+1)<=xs.sum*(b-1) ^ h*b ^ xs.length:=by
 have a:0<b:=by lia
 rw[<-qf];have i:=(dZ nn).1;have e:2*b*b*wf (λk=>(b-1) ^ k*b ^ (xs.length+h-k)) 0 xs<=2*b*b*(xs.sum*(b-1) ^ h*b ^ xs.length):=by
  have t:=gM (j:=0) (f:=λk=>2*b*b*((b-1) ^ k*b ^ (xs.length+h-k))+0*0) (g:=λk=>b ^ (xs.length+h)*(2*b*b-2*b*(k:Int))+b ^ (xs.length+h)*((k:Int)*((k:Int)-1))) nn λk _ o=>by
   have u:=RL (up2 hb k)<|Sa (RY a:0<b ^ (xs.length+h-k));have y:b ^ (xs.length+h)=b ^ (xs.length+h-k)*b ^ k:=by rw[<-Uw];congr 1;lia
   have w:b ^ (xs.length+h-k)*(2*b*b*(b-1) ^ k)=2*b*b*((b-1) ^ k*b ^ (xs.length+h-k))+0*0:=by grind
   have v:b ^ (xs.length+h-k)*(b ^ k*(2*b*b-2*(k:Int)*b+(k:Int)*(k-1)))=b ^ (xs.length+h)*(2*b*b-2*b*k )+b ^ (xs.length+h)*(k*(k-1)):=by rw[y];grind
   rw[w,v]at u;exact u
  have n:=W0 (c:=2*b*b) (d:=0) (f:=λk=>(b-1) ^ k*b ^ (xs.length+h-k)) (g:=λ_=>0) xs 0;have m:=W0 (c:=b ^ (xs.length+h)) (d:=b ^ (xs.length+h)) (f:=λk:Nat=>2*b*b-2*b*(k:Int)) (g:=λk:Nat=>(k:Int)*((k:Int)-1)) xs 0;have l:=W0 (c:=2*b*b) (d:=-(2*b)) (f:=λ_=>1) (g:=λk=>(k:Int)) xs 0;rw[cJ,rE]at l;rw[yL (f:=λk:Nat=>2*b*b-2*b*(k:Int)) (g:=λk:Nat=>2*b*b*1 + -(2*b)*(k:Int)) λk _ _=>by grind,l]at m;rw[n,m]at t;have d:=gM (j:=0) (f:=λk:Nat=>(k:Int)*((k:Int)-1)) (g:=λ_=>56*1+0*1) nn λk _ o=>by
   have:(k:Int)*(k-1)<=8*7:=by
    cases k with
    | zero=>decide
    | succ k=>exact WH (by push_cast;lia) (by push_cast;lia) (by push_cast;simp[*] ) (by decide)
   lia
  rw[W0 (g:=λ_=>1),cJ]at d;have z:=RL (show 1<=E7 (en 0 xs)-h*xs.sum by lia) (show 0<=2*b by lia);have B:=RL (IR hb h) (show 0<=2*b*(xs.sum*b ^ xs.length) from RD (by lia)<|RD i<|Sa<|RY a);have s:2*b*(xs.sum*b ^ xs.length)*(b*(b-1) ^ h)=2*b*b*(xs.sum*(b-1) ^ h*b ^ xs.length):=by grind
  have r:2*b*(xs.sum*b ^ xs.length)*(b ^ h*(b-h ))=b ^ (xs.length+h)*(2*b*b*xs.sum-2*b*(h*xs.sum)):=by rw[Uw];grind
  rw[s,r]at B;have p:=RL (show 2*b*b*xs.sum + -(2*b)*E7 (en 0 xs)+wf (λk:Nat=>k*(k-1)) 0 xs<=2*b*b*xs.sum-2*b*(h*xs.sum) by
   have:2*b*(E7 (en 0 xs)-h*xs.sum) = -(-(2*b)*E7 (en 0 xs))-2*b*(h*xs.sum):=by grind
   lia)<|Sa (RY a:0<b ^ (xs.length+h))
  have q:b ^ (xs.length+h)*(2*b*b*xs.sum + -(2*b)*E7 (en 0 xs)+wf (λk:Nat=>k*(k-1)) 0 xs)=b ^ (xs.length+h)*(2*b*b*xs.sum + -(2*b)*E7 (en 0 xs))+b ^ (xs.length+h)*wf (λk:Nat=>k*(k-1)) 0 xs:=by grind
  rw[q]at p;lia
 exact Int.le_of_mul_le_mul_left e (Ua (by lia) a)
def qu (nn:∀x∈xs,0<=x)(h0:0<a)(h1:a<=b)(hS:xs.getD h 0=xs.sum) :
  hor a b xs*b ^ (h+1)<=xs.sum*a ^ h*b ^ xs.length:=by
 have d:0<b:=by lia
 rw[<-qf];have i:∀k,a ^ k<=b ^ k:=λk=>by
  induction k with
  | zero=>simp
  | succ k l =>rw[RB,RB];exact WH l h1 (by lia)<|Sa<|RY d
 have t:=gM (j:=0) (f:=λk=>a ^ k*b ^ (xs.length+h-k)) (g:=λk=>(a ^ h*b ^ xs.length+b ^ (xs.length+h))*1 + -(b ^ (xs.length+h))*(if k=0+h then 1 else 0)) nn λk _ m=>by
  by_cases c:k=0+h
  .rw[QH c,c,Rx,show xs.length+h-h=xs.length by simp[*] ];lia
  .rw[QK c];have p:=SQ (i k)<|Sa (RY d:0<b ^ (xs.length+h-k));rw[<-Uw,show k+(xs.length+h-k)=xs.length+h by lia]at p;have q:0<=a ^ h*b ^ xs.length:=RD (Sa<|RY h0)<|Sa<|RY d;lia
 rw[W0,cJ,zt,hS]at t;have e:(a ^ h*b ^ xs.length+b ^ (xs.length+h))*xs.sum + -(b ^ (xs.length+h))*xs.sum=xs.sum*a ^ h*b ^ xs.length:=by grind
 lia
end Bz
namespace K69
open PySem L2 L3
section
def top (i:Nat):XF:=PySem.Challenge.pw_hatchwaits_k69_whole_rests_runs_swings.main.body.getD i<|.Pass #v[0,0,0,0]
abbrev Lj:XF:=top 5
abbrev KG:XF:=top 6
abbrev KQ:XF:=top 7
abbrev KH:XF:=top 9
abbrev KR:XF:=top 10
abbrev Lz:XF:=top 11
abbrev NT:XF:=top 12
abbrev MR:XF:=top 13
abbrev MS:XF:=top 14
abbrev NU:XF:=top 15
abbrev MT:XF:=top 16
abbrev NV:XF:=top 17
abbrev KU:XF:=top 18
abbrev KY:XF:=top 22
abbrev MU:XF:=top 23
abbrev MV:XF:=top 25
abbrev LA:XF:=top 26
abbrev NW:XF:=top 27
abbrev LQ:XF:=top 29
abbrev KZ:XF:=top 31
abbrev MW:XF:=top 32
abbrev LB:XF:=top 33
abbrev KP:XF:=top 35
abbrev KA:XF:=top 37
abbrev Kx:XF:=top 38
abbrev La:XF:=top 39
abbrev MX:XF:=top 40
abbrev Kz:XF:=top 41
abbrev Lk:XF:=top 42
abbrev Ls:XF:=top 44
abbrev KW:XF:=top 45
abbrev KO:XF:=top 47
abbrev Ll:XF:=top 49
abbrev Lm:XF:=top 50
abbrev Lb:XF:=top 51
abbrev Kt:XF:=top 52
abbrev LC:XF:=top 53
abbrev Ln:XF:=top 54
abbrev KN:XF:=top 55
abbrev KI:XF:=top 56
abbrev Lc:XF:=top 57
abbrev Kn:XF:=top 58
abbrev ini_NoPaper:XF:=tj<|top 2
def it_NoPaper:IniTxt ini_NoPaper "NoPaper.__init__" ["word","number"]:=#v[#v[rfl,rfl,rfl,by decide +kernel,rfl,by decide +kernel,by decide +kernel],by decide +kernel,(.cons<|.cons .nil),by decide,by decide,λ_ _ _ _ _ _ us hl=>by rcases us with _ | ⟨a,_ | ⟨b,_ | ⟨c,_ | _⟩⟩⟩;all_goals first | rfl | cases hl]
abbrev ini_NoRest:XF:=tj<|top 3
def it_NoRest:IniTxt ini_NoRest "NoRest.__init__" ["word"]:=#v[#v[rfl,rfl,rfl,by decide +kernel,rfl,by decide +kernel,by decide +kernel],by decide +kernel,(.cons .nil),by decide,by decide,λ_ _ _ _ _ _ us hl=>by rcases us with _ | ⟨a,_ | ⟨b,_ | _⟩⟩;all_goals first | rfl | cases hl]
structure Txt K (mg:Str->Option Xx):Prop where
 abs:mg "abs" = none
 all:mg "all" = none
 bool:mg "bool" = none
 enumerate:mg "enumerate" = none
 int:mg "int" = none
 isinstance:mg "isinstance" = none
 len:mg "len" = none
 list:mg "list" = none
 max:mg "max" = none
 min:mg "min" = none
 range:mg "range" = none
 repr:mg "repr" = none
 sorted:mg "sorted" = none
 sum:mg "sum" = none
 tuple:mg "tuple" = none
 zip:mg "zip" = none
 g_NOUGHT:GD K mg "NOUGHT" (.tuple [.int 0,.int 1])
 g_ONE:GD K mg "ONE" (.tuple [.int 1,.int 1])
 err_NoPaper:Ii K mg "WaitError" "NoPaper" []
 err_NoRest:Ii K mg "WaitError" "NoRest" []
 exs_NoPaper:ExS K mg "NoPaper"
 exs_NoRest:ExS K mg "NoRest"
section

def lE:FnScope ["thing"] ["thing"] (defScope Lj):={}
abbrev S5:=T2
def MY (Fn:Fun K "is_number" "is_number" Lj f fd)(T:Txt K mg) :FnOk P w K mg base CX0 1 f fd ["thing"] (spD K 1 S5):=by
 refine y9 Fn lE λb A a s H E c=>?_
 exact#v[_,(i6<|j7<|eW (gf "int" (x8 0) (by decide) T.isinstance T.int Ge)<|ia<|Fk<|gf "bool" (x8 0) (by decide) T.isinstance T.bool Ct)]
def dH:FnScope ["least","thing"] ["least","thing"] (defScope KG):={}
abbrev L5:=L6
def LI (Fn:Fun K "is_number_from" "is_number_from" KG f fd)(T:Txt K mg)(KB:b7 P w K mg base "is_number" 1 ["thing"] (spD K 1 S5)):FnOk P w K mg base CX0 2 f fd ["least","thing"] (spD K 2 L5):=by
 refine y9 Fn dH λc A a s H E b=>?_
 exact#v[_,(i6<|j7<|eW (j4 KB b<|i5 (g9 1) d7)<|ia<|cE DG (x8 1)<|x8 0)]
def gB:FnScope ["many","thing"] ["many","thing"] (defScope KQ):={}
abbrev K1:=R6
def Mq (Fn:Fun K "is_tuple_of" "is_tuple_of" KQ f fd)(T:Txt K mg) :FnOk P w K mg base CX0 1 f fd ["many","thing"] (spD K 2 K1):=by
 refine y9 Fn gB λc A a s H E b=>?_
 exact#v[_,(i6<|j7<|eW (gf "tuple" (x8 1) (by decide) T.isinstance T.tuple S8)<|ia<|cE (Y8 rfl b.units) (Ev.bw<|A7 (pY rfl) T.len qi<|u9 (x8 1) B7)<|x8 0)]
def O6:FnScope ["one","other"] ["one","other"] (defScope KH):={}
abbrev J0:=J3
def LJ (Fn:Fun K "common_divisor" "common_divisor" KH f fd)(T:Txt K mg) :FnOk P w K mg base CX0 1 f fd ["one","other"] (spD K 2 J0):=by
 refine y9 Fn O6 λb A a s H E c=>?_
 exact#v[_,(d8 (hX 0 1 rfl O6.nd<|c7 (A7 (xf) T.abs ze<|u9 (x8 0) B7)<|c7 (A7 (xf) T.abs ze<|u9 (x8 1) B7) j6)
   (d8 (mO (K9 HX (x8 1)<|Ev.bw f8)<|i6<|hX 0 1 rfl O6.nd<|c7 (g9 1)<|c7 (u0 Ga (x8 0)<|x8 1) j6)
   (i6<|j7<|g9 0)))]
def V8:FnScope ["thing","top","bottom"] ["thing"] (defScope KR):={}
def C7:List DV->M My:=G1 ["thing","top","bottom"] (mSq (mIf (cS<|uT<|i3 K1<|vD (sC<|.int 2)<|vD (sV 0) l9) (mRt<|sC<|.bool false) mNx)
  (mSq (kT (P7 2<|u6 (bN 1)<|u6 (bN 2) Q6)<|sV 0)
  (mRt<|lR (i3 S5<|vD (sV 1) l9)<|lR (i3 L5<|vD (sC<|.int 1)<|vD (sV 2) l9)<|s2 (eqD false) (i3 J0<|vD (sV 1)<|vD (sV 2) l9)<|sC<|.int 1)))
def Mr (Fn:Fun K "is_fraction" "is_fraction" KR f fd)(T:Txt K mg)(Kv:b7 P w K mg base "is_tuple_of" 1 ["many","thing"] (spD K 2 K1))(KB:b7 P w K mg base "is_number" 1 ["thing"] (spD K 1 S5))(KJ:b7 P w K mg base "is_number_from" 2 ["least","thing"] (spD K 2 L5))(Kq:b7 P w K mg base "common_divisor" 1 ["one","other"] (spD K 2 J0)):FnOk P w K mg base CX0 3 f fd ["thing"] (spD K 1 C7):=by
 refine y9 Fn V8 λc A b s H E a=>?_
 exact#v[_,(d8 (V6 (V9<|M5<|Ev.bw<|j4 Kv a<|i5 f8<|i5 (g9 0) d7) (i6<|j7 aX) C5)
   (d8 (eR (g9 0)<|J4 rfl<|j5 (P6 V8.nd)<|j5 (P6 V8.nd) B5)
   (i6<|j7<|eW (j4 KB a<|i5 (g9 1) d7)<|eW (j4 KJ a<|i5 f8<|i5 (g9 2) d7)<|ia<|cE (Y8 rfl a.units) (Ev.bw<|j4 Kq a<|i5 (g9 1)<|i5 (g9 2) d7)<|Ev.bw f8)))]
def bo:FnScope ["top","bottom","divisor"] ["top","bottom"] (defScope Lz):={}
abbrev N5:=D7
def Nt (Fn:Fun K "fraction" "fraction" Lz f fd)(T:Txt K mg)(Kq:b7 P w K mg base "common_divisor" 1 ["one","other"] (spD K 2 J0)):FnOk P w K mg base CX0 2 f fd ["top","bottom"] (spD K 2 N5):=by
 refine y9 Fn bo λc A a s H E b=>?_
 exact#v[_,(d8 (z9 2 bo.nd<|j4 Kq b<|i5 (g9 0)<|i5 (g9 1) d7)
   (d8 (V6 (K9 tD (x8 1)<|Ev.bw f8) (i6<|z9 2 bo.nd<|fm aZ<|x8 2) C5)
   (i6<|j7<|A3<|c7 (u0 rG (x8 0)<|x8 2)<|c7 (u0 rG (x8 1)<|x8 2) j6)))]
def BU:FnScope ["one","other"] ["one","other"] (defScope NT):={}
abbrev iR:=ip
def Py (Fn:Fun K "plus" "plus" NT f fd)(T:Txt K mg)(Ko:b7 P w K mg base "fraction" 2 ["top","bottom"] (spD K 2 N5)):FnOk P w K mg base CX0 3 f fd ["one","other"] (spD K 2 iR):=by
 refine y9 Fn BU λc A a s H E b=>?_
 exact#v[_,(i6<|j7<|j4 Ko b<|i5 (u0 (G4 rfl) (Ev.bw<|u0 (C6 rfl) (Ev.bw<|A2 0)<|Ev.bw<|A2 1)<|Ev.bw<|u0 (C6 rfl) (Ev.bw<|A2 1)<|Ev.bw<|A2 0)<|i5 (u0 (C6 rfl) (Ev.bw<|A2 0)<|Ev.bw<|A2 1) d7)]
def zW:FnScope ["one","other"] ["one","other"] (defScope MR):={}
abbrev bT:=gm
def OV (Fn:Fun K "minus" "minus" MR f fd)(T:Txt K mg)(Ko:b7 P w K mg base "fraction" 2 ["top","bottom"] (spD K 2 N5)):FnOk P w K mg base CX0 3 f fd ["one","other"] (spD K 2 bT):=by
 refine y9 Fn zW λc A a s H E b=>?_
 exact#v[_,(i6<|j7<|j4 Ko b<|i5 (u0 X4 (Ev.bw<|u0 (C6 rfl) (Ev.bw<|A2 0)<|Ev.bw<|A2 1)<|Ev.bw<|u0 (C6 rfl) (Ev.bw<|A2 1)<|Ev.bw<|A2 0)<|i5 (u0 (C6 rfl) (Ev.bw<|A2 0)<|Ev.bw<|A2 1) d7)]
def wG:FnScope ["one","other"] ["one","other"] (defScope MS):={}
abbrev bz:=fS
def OW (Fn:Fun K "times" "times" MS f fd)(T:Txt K mg)(Ko:b7 P w K mg base "fraction" 2 ["top","bottom"] (spD K 2 N5)):FnOk P w K mg base CX0 3 f fd ["one","other"] (spD K 2 bz):=by
 refine y9 Fn wG λc A a s H E b=>?_
 exact#v[_,(i6<|j7<|j4 Ko b<|i5 (u0 (C6 rfl) (Ev.bw<|A2 0)<|Ev.bw<|A2 1)<|i5 (u0 (C6 rfl) (Ev.bw<|A2 0)<|Ev.bw<|A2 1) d7)]
def AC:FnScope ["one","other"] ["one","other"] (defScope NU):={}
abbrev kQ:=Bz.c_over
def Pz (Fn:Fun K "over" "over" NU f fd)(T:Txt K mg)(Ko:b7 P w K mg base "fraction" 2 ["top","bottom"] (spD K 2 N5)):FnOk P w K mg base CX0 3 f fd ["one","other"] (spD K 2 kQ):=by
 refine y9 Fn AC λc A a s H E b=>?_
 exact#v[_,(i6<|j7<|j4 Ko b<|i5 (u0 (C6 rfl) (Ev.bw<|A2 0)<|Ev.bw<|A2 1)<|i5 (u0 (C6 rfl) (Ev.bw<|A2 0)<|Ev.bw<|A2 1) d7)]
def bh:FnScope ["one","n","top","bottom","turn"] ["one","n"] (defScope MT):={}
abbrev tq:=Bz.c_power
def OX (Fn:Fun K "power" "power" MT f fd)(T:Txt K mg) :FnOk P w K mg base CX0 1 f fd ["one","n"] (spD K 2 tq):=by
 refine y9 Fn bh λb A a s H E c=>?_
 exact#v[_,(d8 (eR (eV (.tuple [.int 1,.int 1]) rfl)<|J4 rfl<|j5 (P6 bh.nd)<|j5 (P6 bh.nd) B5)
   (d8 (X8 rfl (bP (c7 (g9 1) j6) T.range) (P6 bh.nd)<|i6<|hX 2 3 rfl bh.nd<|c7 (u0 (C6 rfl) (x8 2)<|Ev.bw<|A2 0)<|c7 (u0 (C6 rfl) (x8 3)<|Ev.bw<|A2 0) j6)
   (i6<|j7<|A3<|c7 (g9 2)<|c7 (g9 3) j6)))]
def Cm:FnScope ["one","other"] ["one","other"] (defScope NV):={}
abbrev N4:=Bz.c_less
def PB (Fn:Fun K "less" "less" NV f fd)(T:Txt K mg) :FnOk P w K mg base CX0 1 f fd ["one","other"] (spD K 2 N4):=by
 refine y9 Fn Cm λb A a s H E c=>?_
 exact#v[_,(i6<|j7<|cE tD (Ev.bw<|u0 (C6 rfl) (Ev.bw<|A2 0)<|Ev.bw<|A2 1)<|Ev.bw<|u0 (C6 rfl) (Ev.bw<|A2 1)<|Ev.bw<|A2 0)]
def iw:FnScope ["pairs","weighed"] ["pairs"] (defScope KU):={}
abbrev jm:=bV
def NX (Fn:Fun K "mean_of" "mean_of" KU f fd)(T:Txt K mg)(Ko:b7 P w K mg base "fraction" 2 ["top","bottom"] (spD K 2 N5)):FnOk P w K mg base CX0 3 f fd ["pairs"] (spD K 1 jm):=by
 refine y9 Fn iw λc A a s H E b=>?_
 exact#v[_,(d8 (z9 1 iw.nd<|A7 (dP rfl rfl) T.sum gH<|u9 (Ev.bw<|aE (defScope KU) ["number","lot"] (N2<|x8 0) (J4 rfl<|j5 (P9)<|j5 (P9) B5) F0<|u0 (C6 rfl) (x8 0)<|x8 1) B7)
   (i6<|j7<|j4 Ko b<|i5 (g9 1)<|i5 (A7 (dP rfl rfl) T.sum gH<|u9 (Ev.bw<|aE (defScope KU) ["number","lot"] (N2<|x8 0) (J4 rfl<|j5 (P9)<|j5 (P9) B5) F0<|g9 1) B7) d7))]
def nk:FnScope ["beats"] ["beats"] (defScope KY):={}
def V0:List DV->M My:=G1 ["beats"]<|mRt<|sN ak<|c8 (sLC (R1<|sW 0) 2 [] (P7 2<|u6 (bN 0)<|u6 (bN 1) Q6) M4<|sV 1) k8
def Nu (Fn:Fun K "all_lots" "all_lots" KY f fd)(T:Txt K mg) :FnOk P w K mg base CX0 1 f fd ["beats"] (spD K 1 V0):=by
 refine y9 Fn nk λb A a s H E c=>?_
 exact#v[_,(i6<|j7<|A7 (dP rfl rfl) T.sum gH<|u9 (Ev.bw<|aE (defScope KY) ["beat","lot"] (N2<|x8 0) (J4 rfl<|j5 (P9)<|j5 (P9) B5) F0<|g9 1) B7)]
def dF:FnScope ["parts","told","part"] ["parts"] (defScope MU):={}
abbrev cY:=Bz.c_added
def OY (Fn:Fun K "added" "added" MU f fd)(T:Txt K mg)(LR:b7 P w K mg base "plus" 3 ["one","other"] (spD K 2 iR)):FnOk P w K mg base CX0 4 f fd ["parts"] (spD K 1 cY):=by
 refine y9 Fn dF λc A a s H E b=>?_
 exact#v[_,(d8 (z9 1 dF.nd<|pH T.g_NOUGHT)
   (d8 (X8 rfl (aG<|g9 0) (P6 dF.nd)<|i6<|z9 1 dF.nd<|j4 LR b<|i5 (g9 1)<|i5 (g9 2) d7)
   (i6<|j7<|g9 1)))]
def zX:FnScope ["flow"] ["flow"] (defScope MV):={}
abbrev kG:=bO
def OZ (Fn:Fun K "total" "total" MV f fd)(T:Txt K mg) :FnOk P w K mg base CX0 1 f fd ["flow"] (spD K 1 kG):=by
 refine y9 Fn zX λb A a s H E c=>?_
 exact#v[_,(i6<|j7<|A7 (dP rfl rfl) T.sum gH<|u9 (x8 0) B7)]
def mD:FnScope ["flow","k"] ["flow","k"] (defScope LA):={}
abbrev iM:=ar
def Nv (Fn:Fun K "share_of" "share_of" LA f fd)(T:Txt K mg)(Ko:b7 P w K mg base "fraction" 2 ["top","bottom"] (spD K 2 N5))(Lu:b7 P w K mg base "total" 1 ["flow"] (spD K 1 kG)):FnOk P w K mg base CX0 3 f fd ["flow","k"] (spD K 2 iM):=by
 refine y9 Fn mD λc A a s H E b=>?_
 exact#v[_,(d8 (V6 (V9<|vY Ir tD (Ev.bw f8) (x8 1)<|Ev.bw<|A7 (pY rfl) T.len qi<|u9 (x8 0) B7) (i6<|j7<|eV (.tuple [.int 0,.int 1]) rfl) C5)
   (i6<|j7<|j4 Ko b<|i5 (mM (lZ rfl) (x8 0)<|x8 1)<|i5 (j4 Lu b<|i5 (g9 0) d7) d7))]
def BR:FnScope ["flow"] ["flow"] (defScope NW):={}
abbrev gN:=iK
def PD (Fn:Fun K "mean" "mean" NW f fd)(T:Txt K mg)(LS:b7 P w K mg base "mean_of" 3 ["pairs"] (spD K 1 jm)):FnOk P w K mg base CX0 4 f fd ["flow"] (spD K 1 gN):=by
 refine y9 Fn BR λc A a s H E b=>?_
 exact#v[_,(i6<|j7<|j4 LS b<|i5 (zH (g9 0) rfl T.enumerate T.list Ar) d7)]
def iZ:FnScope ["flow","hands","brought","most"] ["flow","hands"] (defScope LQ):={}
abbrev u7:=Bz.c_word_of
def NY (Fn:Fun K "word_of" "word_of" LQ f fd)(T:Txt K mg)(LU:b7 P w K mg base "mean" 4 ["flow"] (spD K 1 gN))(Ku:b7 P w K mg base "less" 1 ["one","other"] (spD K 2 N4))(LD:b7 P w K mg base "share_of" 3 ["flow","k"] (spD K 2 iM)):FnOk P w K mg base CX0 5 f fd ["flow","hands"] (spD K 2 u7):=by
 refine y9 Fn iZ λc A b s H E a=>?_
 exact#v[_,(d8 (hX 2 3 rfl iZ.nd<|c7 (j4 LU a<|i5 (g9 0) d7)<|c7 (A3<|c7 (g9 1)<|c7 f8 j6) j6)
   (d8 (V6 (M5<|Ev.bw<|j4 Ku a<|i5 (g9 2)<|i5 (g9 3) d7) (i6<|j7 J7) C5)
   (d8 (V6 (M5<|Ev.bw<|j4 Ku a<|i5 (g9 3)<|i5 (g9 2) d7) (i6<|j7 J7) C5)
   (i6<|j7<|Jd (K9 (Y8 rfl a.units) (Ev.bw<|j4 LD a<|i5 (g9 0)<|i5 (g9 1) d7)<|Ev.bw<|pH T.g_ONE) J7 J7))))]
def C8:FnScope ["flow","z","top","bottom","weighed","below","lot"] ["flow","z"] (defScope KZ):={}
abbrev dw:=Bz.c_mean_power
def MG (Fn:Fun K "mean_power" "mean_power" KZ f fd)(T:Txt K mg)(Lu:b7 P w K mg base "total" 1 ["flow"] (spD K 1 kG)):FnOk P w K mg base CX0 2 f fd ["flow","z"] (spD K 2 dw):=by
 refine y9 Fn C8 λc A a s H E b=>?_
 exact#v[_,(d8 (eR (g9 1)<|J4 rfl<|j5 (P6 C8.nd)<|j5 (P6 C8.nd) B5)
   (d8 (eR (eV (.tuple [.int 0,.int 1]) rfl)<|J4 rfl<|j5 (P6 C8.nd)<|j5 (P6 C8.nd) B5)
   (d8 (X8 rfl (aG<|Hr<|x8 0) (P6 C8.nd) (d8 (z9 4 C8.nd<|u0 (G4 rfl) (Ev.bw<|u0 (C6 rfl) (x8 4)<|x8 2)<|Ev.bw<|u0 (C6 rfl) (x8 6)<|x8 5)
   (i6<|rl 5 C8.nd<|g9 3)))
   (i6<|j7<|A3<|c7 (u0 (C6 rfl) (x8 4)<|x8 3)<|c7 (u0 (C6 rfl) (Ev.bw<|j4 Lu b<|i5 (g9 0) d7)<|x8 5) j6))))]
def wU:FnScope ["flow","hands","z"] ["flow","hands","z"] (defScope MW):={}
abbrev bG:=Bz.c_rises
def Pa (Fn:Fun K "rises" "rises" MW f fd)(T:Txt K mg)(Ku:b7 P w K mg base "less" 1 ["one","other"] (spD K 2 N4))(Ld:b7 P w K mg base "mean_power" 2 ["flow","z"] (spD K 2 dw))(MZ:b7 P w K mg base "power" 1 ["one","n"] (spD K 2 tq)):FnOk P w K mg base CX0 3 f fd ["flow","hands","z"] (spD K 3 bG):=by
 refine y9 Fn wU λc A a s H E b=>?_
 exact#v[_,(i6<|j7<|j4 Ku b<|i5 (j4 MZ b<|i5 (g9 2)<|i5 (g9 1) d7)<|i5 (j4 Ld b<|i5 (g9 0)<|i5 (g9 2) d7) d7)]
def mV:FnScope ["flow","hands","thing"] ["flow","hands","thing"] (defScope LB):={}
def KL:List DV->M My:=G1 ["flow","hands","thing"] (mSq (mIf (cS<|uT<|i3 C7<|vD (sV 2) l9) (O5 "NoPaper"<|c8 (sC<|.str "shape")<|c8 (s1 gY<|sC<|.int 1) k8) mNx)
  (mSq (mIf (uOr (cS<|uT<|i3 N4<|vD (sC<|.tuple [.int 0,.int 1])<|vD (sV 2) l9)<|cS<|uT<|i3 N4<|vD (sV 2)<|vD (sC<|.tuple [.int 1,.int 1]) l9) (O5 "NoPaper"<|c8 (sC<|.str "between")<|c8 (s1 gY<|sC<|.int 1) k8) mNx)
  (mSq (mIf (uT<|i3 bG<|vD (sV 0)<|vD (sV 1)<|vD (sV 2) l9) (O5 "NoPaper"<|c8 (sC<|.str "rises")<|c8 (s1 gY<|sC<|.int 1) k8) mNx)
  (mRt<|sC<|.bool true))))
def Nw (Fn:Fun K "lets_run" "lets_run" LB f fd)(T:Txt K mg)(Ks:b7 P w K mg base "is_fraction" 3 ["thing"] (spD K 1 C7))(Ku:b7 P w K mg base "less" 1 ["one","other"] (spD K 2 N4))(Lv:b7 P w K mg base "rises" 3 ["flow","hands","z"] (spD K 3 bG)):FnOk P w K mg base (CXe P w) 4 f fd ["flow","hands","thing"] (spX K mg 3 KL):=by
 refine gv Fn mV λm A l s H E k=>?_
 obtain⟨i,j,g,h,d,e,c,a,b⟩:=T.err_NoPaper;exact#v[_,(G0 (cV (V9<|M5<|Ev.bw<|j4 Ks k<|i5 (g9 2) d7) (R5<|O7 "NoPaper" U6 c a (k.mono<|by decide) b.mgc<|c7 J7<|c7 (fm aZ<|Ev.bw f8) j6)<|Q8 C5)
   (G0 (cV (Ew.t<|qW (V9<|M5<|Ev.bw<|j4 Ku k<|i5 (pH T.g_NOUGHT)<|i5 (g9 2) d7)<|qC<|V9<|M5<|Ev.bw<|j4 Ku k<|i5 (g9 2)<|i5 (pH T.g_ONE) d7) (R5<|O7 "NoPaper" U6 c a (k.mono<|by decide) b.mgc<|c7 J7<|c7 (fm aZ<|Ev.bw f8) j6)<|Q8 C5)
   (G0 (cV (M5<|Ev.bw<|j4 Lv k<|i5 (g9 0)<|i5 (g9 1)<|i5 (g9 2) d7) (R5<|O7 "NoPaper" U6 c a (k.mono<|by decide) b.mgc<|c7 J7<|c7 (fm aZ<|Ev.bw f8) j6)<|Q8 C5)
   (Q8<|i6<|j7 aX))))]
def U7:FnScope ["flow","hands","word","bottom"] ["flow","hands"] (defScope KP):={}
def KC:List DV->M My:=G1 ["flow","hands","word","bottom"] (mSq (G7 2<|i3 u7<|vD (sV 0)<|vD (sV 1) l9)
  (mSq (mIf (uB<|s2 (inD true) (sW 2)<|sC<|.tuple [.str "runs",.str "still"]) (O5 "NoRest"<|c8 (sV 2) k8) mNx)
  (mSq (G7 3<|sC<|.int 2)
  (mSq (mWh (uT<|i3 bG<|vD (sV 0)<|vD (sV 1)<|vD (G9<|c8 (s2 bY (sW 3)<|sC<|.int 1)<|c8 (sV 3) k8) l9)<|gy 3<|sC<|.int 2)
  (mRt<|G9<|c8 (s2 bY (sW 3)<|sC<|.int 1)<|c8 (sV 3) k8)))))
def Na (Fn:Fun K "run_paper" "run_paper" KP f fd)(T:Txt K mg)(Kj:b7 P w K mg base "word_of" 5 ["flow","hands"] (spD K 2 u7))(Lv:b7 P w K mg base "rises" 3 ["flow","hands","z"] (spD K 3 bG)):FnOk P w K mg base (CXe P w) 6 f fd ["flow","hands"] (spX K mg 2 KC):=by
 refine gv Fn U7 λn A l s H E k=>?_
 have m:(A.deeper<|PyProof.Rows.envOfC "run_paper" (defScope KP) s.heap.objs.size f n).units+65<XZ:=by have:=k.un;lia
 obtain⟨i,j,g,h,d,e,c,a,b⟩:=T.err_NoRest;exact#v[_,(G0 (nh<|z9 2 U7.nd<|j4 Kj k<|i5 (g9 0)<|i5 (g9 1) d7)
   (G0 (cV (K9 (wz rfl m) (x8 2)<|Ev.bw<|eV (.tuple [.str "runs",.str "still"]) rfl) (R5<|O7 "NoRest" U6 c a (k.mono<|by decide) b.mgc<|c7 (g9 2) j6)<|Q8 C5)
   (Q8 (d8 (z9 3 U7.nd f8)
   (d8 (mO (M5<|Ev.bw<|j4 Lv k<|i5 (g9 0)<|i5 (g9 1)<|i5 (A3<|c7 (u0 X4 (x8 3)<|Ev.bw f8)<|c7 (g9 3) j6) d7)<|i6<|rl 3 U7.nd f8)
   (i6<|j7<|A3<|c7 (u0 X4 (x8 3)<|Ev.bw f8)<|c7 (g9 3) j6))))))]
def eY:FnScope ["beats"] ["beats"] (defScope KA):={}
def B6:List DV->M My:=G1 ["beats"]<|mRt<|sN gw<|c8 (uE (R1<|sW 0) 4 [] (P7 2<|u6 (bN 0)<|u6 (bN 1) Q6) M4 (R1<|sV 0) (P7 2<|u6 (bN 2)<|u6 (bN 3) Q6) M4<|sV 3)<|c8 (sC<|.int 0) k8
def LV (Fn:Fun K "greatest_work" "greatest_work" KA f fd)(T:Txt K mg) :FnOk P w K mg base CX0 1 f fd ["beats"] (spD K 1 B6):=by
 refine y9 Fn eY λb A a s H E c=>?_
 exact#v[_,(i6<|j7<|BE rfl rfl T.max (Ev.bw<|xi (defScope KA) ["beat","lot","rank","work"] (N2<|x8 0) (J4 rfl<|j5 (P9)<|j5 (P9) B5) F0 (aG<|g9 0) (J4 rfl<|j5 (P9)<|j5 (P9) B5) F0<|g9 3)<|Ev.bw f8)]
def dg:FnScope ["beats","thing"] ["beats","thing"] (defScope Kx):={}
def J6:List DV->M My:=G1 ["beats","thing"] (mSq (mIf (uOr (cS<|uT<|i3 K1<|vD (sC<|.int 2)<|vD (sV 1) l9)<|uOr (cS<|uT<|i3 C7<|vD (s2 ixD (sW 1)<|sC<|.int 0) l9)<|cS<|uT<|s1 (jQ "tuple")<|s2 ixD (sW 1)<|sC<|.int 1) (mRt<|sC<|.bool false) mNx)
  (mRt<|lR (s2 geD (sN ua<|c8 (s2 ixD (sW 1)<|sC<|.int 1) k8)<|sN hU<|c8 (sC<|.int 1)<|c8 (i3 B6<|vD (sV 0) l9) k8)<|sN zi<|c8 (sLC (R1<|s2 ixD (sW 1)<|sC<|.int 1) 1 [] (bN 0) M4<|i3 C7<|vD (sV 0) l9) k8))
def LK (Fn:Fun K "is_shaped_back" "is_shaped_back" Kx f fd)(T:Txt K mg)(Kv:b7 P w K mg base "is_tuple_of" 1 ["many","thing"] (spD K 2 K1))(Ks:b7 P w K mg base "is_fraction" 3 ["thing"] (spD K 1 C7))(Kr:b7 P w K mg base "greatest_work" 1 ["beats"] (spD K 1 B6)):FnOk P w K mg base CX0 4 f fd ["beats","thing"] (spD K 2 J6):=by
 refine y9 Fn dg λc A b s H E a=>?_
 exact#v[_,(d8 (V6 (Ew.t<|qW (V9<|M5<|Ev.bw<|j4 Kv a<|i5 f8<|i5 (g9 1) d7)<|qW (V9<|M5<|Ev.bw<|j4 Ks a<|i5 (A2 1) d7)<|qC<|V9<|M5<|Ev.bw<|gf "tuple" (Ev.bw<|A2 1) (by decide) T.isinstance T.tuple S8) (i6<|j7 aX) C5)
   (i6<|j7<|eW (cE DG (Ev.bw<|A7 (pY rfl) T.len qi<|u9 (Ev.bw<|A2 1) B7)<|Ev.bw<|A7 (qY rfl rfl) T.max lj<|u9 (Ev.bw f8)<|u9 (Ev.bw<|j4 Kr a<|i5 (g9 0) d7) B7)<|ia<|A7 (EN rfl rfl) T.all FL<|u9 (Ev.bw<|aE (defScope Kx) ["part"] (N2<|Ev.bw<|A2 1) (P9) F0<|j4 Ks a<|i5 (g9 0) d7) B7))]
def nv:FnScope ["heights"] ["heights"] (defScope La):={}
def V3:List DV->M My:=G1 ["heights"]<|mRt<|sLC (tI (s2 Q4 (G9<|c8 (sC<|.tuple [.int 0,.int 1]) k8)<|sW 0)<|sV 0) 2 [] (P7 2<|u6 (bN 0)<|u6 (bN 1) Q6) M4<|i3 bT<|vD (sV 1)<|vD (sV 0) l9
def Nx (Fn:Fun K "steps_of" "steps_of" La f fd)(T:Txt K mg)(Lw:b7 P w K mg base "minus" 3 ["one","other"] (spD K 2 bT)):FnOk P w K mg base CX0 4 f fd ["heights"] (spD K 1 V3):=by
 refine y9 Fn nv λc A a s H E b=>?_
 exact#v[_,(i6<|j7<|aE (defScope La) ["ahead","height_here"] (Ei.bw<|BB (u0 (G4 rfl) (Ev.bw<|A3<|c7 (pH T.g_NOUGHT) j6)<|x8 0) (g9 0) T.zip) (J4 rfl<|j5 (P9)<|j5 (P9) B5) F0<|j4 Lw b<|i5 (g9 1)<|i5 (g9 0) d7)]
def df:FnScope ["parts","told","part"] ["parts"] (defScope MX):={}
def cX:List DV->M My:=G1 ["parts","told","part"] (mSq (G7 1<|s2 ixD (sW 0)<|sC<|.int 0)
  (mSq (aN (R1<|sV 0) (bN 2)<|mIf (uT<|i3 N4<|vD (sV 2)<|vD (sV 1) l9) (G7 1<|sV 2) mNx)
  (mRt<|sV 1)))
def Pb (Fn:Fun K "least" "least" MX f fd)(T:Txt K mg)(Ku:b7 P w K mg base "less" 1 ["one","other"] (spD K 2 N4)):FnOk P w K mg base CX0 2 f fd ["parts"] (spD K 1 cX):=by
 refine y9 Fn df λc A a s H E b=>?_
 exact#v[_,(d8 (z9 1 df.nd<|A2 0)
   (d8 (X8 rfl (aG<|g9 0) (P6 df.nd)<|i6<|V6 (M5<|Ev.bw<|j4 Ku b<|i5 (g9 2)<|i5 (g9 1) d7) (i6<|z9 1 df.nd<|g9 2) C5)
   (i6<|j7<|g9 1)))]
def D9:FnScope ["beats","heights","lots","beat","lot","rank","work","weighed"] ["beats","heights"] (defScope Kz):={}
def K4:List DV->M My:=G1 ["beats","heights","lots","beat","lot","rank","work","weighed"] (mSq (fD 2 9)
  (mSq (aN (R1<|sV 0) (P7 2<|u6 (bN 3)<|u6 (bN 4) Q6)<|aN (R1<|sV 3) (P7 2<|u6 (bN 5)<|u6 (bN 6) Q6)<|tw 2 (s2 Q4 (ki 2 (sV 6)<|sC<|.int 0)<|sW 4)<|sV 6)
  (mSq (G7 7<|sLC (kW 2) 2 [1] (P7 2<|u6 (bN 0)<|u6 (bN 1) Q6) M4<|i3 bz<|vD (G9<|c8 (sV 1)<|c8 (sC<|.int 1) k8)<|vD (s2 ixD (sW 2)<|s2 bY (sW 0)<|sC<|.int 1) l9)
  (mRt<|i3 kQ<|vD (i3 cY<|vD (sV 7) l9)<|vD (G9<|c8 (i3 V0<|vD (sV 0) l9)<|c8 (sC<|.int 1) k8) l9))))
def Ms (Fn:Fun K "mean_height" "mean_height" Kz f fd)(T:Txt K mg)(Ly:b7 P w K mg base "times" 3 ["one","other"] (spD K 2 bz))(NZ:b7 P w K mg base "over" 3 ["one","other"] (spD K 2 kQ))(LF:b7 P w K mg base "all_lots" 1 ["beats"] (spD K 1 V0))(Nb:b7 P w K mg base "added" 4 ["parts"] (spD K 1 cY)):FnOk P w K mg base CX0 5 f fd ["beats","heights"] (spD K 2 K4):=by
 refine y9 Fn D9 λd A b s H E a=>?_
 have c:(A.deeper<|PyProof.Rows.envOfC "mean_height" (defScope Kz) s.heap.objs.size f d).units+65<XZ:=by have:=a.un;lia
 exact#v[_,(d8 (Bj 2 D9.nd)
   (d8 (X8 rfl (aG<|g9 0) (J4 rfl<|j5 (P6 D9.nd)<|j5 (P6 D9.nd) B5)<|i6<|X8 rfl (aG<|g9 3) (J4 rfl<|j5 (P6 D9.nd)<|j5 (P6 D9.nd) B5)<|i6<|Da 2 (Ra (Td (by decide) _) c) (u0 (G4 rfl) (Ev.bw<|zN 2 (g9 6) f8 rfl #v[rfl,rfl,rfl,rfl])<|x8 4) (g9 6) rfl)
   (d8 (nZ 7 (hN:=D9.nd) (defScope Kz) ["work","lot","heights"] (vE 2) (J4 rfl<|j5 (P9)<|j5 (P9) B5) F0<|j4 Ly a<|i5 (A3<|c7 (g9 1)<|c7 f8 j6)<|i5 (mM (lZ rfl) (x8 2)<|Ev.bw<|u0 X4 (x8 0)<|Ev.bw f8) d7)
   (i6<|j7<|j4 NZ a<|i5 (j4 Nb a<|i5 (g9 7) d7)<|i5 (A3<|c7 (j4 LF a<|i5 (g9 0) d7)<|c7 f8 j6) d7))))]
def L4:FnScope ["beats","hands","thing","drop","heights","steps","k","rise"] ["beats","hands","thing"] (defScope Lk):={}
def KD:List DV->M My:=G1 ["beats","hands","thing","drop","heights","steps","k","rise"] (mSq (mIf (cS<|uT<|i3 J6<|vD (sV 0)<|vD (sV 2) l9) (O5 "NoPaper"<|c8 (sC<|.str "shape")<|c8 (s1 gY<|sC<|.int 1) k8) mNx)
  (mSq (kT (P7 2<|u6 (bN 3)<|u6 (bN 4) Q6)<|sV 2)
  (mSq (mIf (cS<|uT<|i3 N4<|vD (sC<|.tuple [.int 0,.int 1])<|vD (sV 3) l9) (O5 "NoPaper"<|c8 (sC<|.str "drop")<|c8 (s1 gY<|sC<|.int 1) k8) mNx)
  (mSq (G7 5<|i3 V3<|vD (sV 4) l9)
  (mSq (aN (rK<|sV 5) (P7 2<|u6 (bN 6)<|u6 (bN 7) Q6)<|mIf (cS<|uT<|i3 N4<|vD (sC<|.tuple [.int 0,.int 1])<|vD (sV 7) l9) (O5 "NoPaper"<|c8 (sC<|.str "step")<|c8 (sV 6) k8) mNx)
  (mSq (mIf (uT<|i3 N4<|vD (i3 bz<|vD (G9<|c8 (sV 1)<|c8 (sC<|.int 1) k8)<|vD (i3 cX<|vD (sV 5) l9) l9)<|vD (i3 iR<|vD (i3 K4<|vD (sV 0)<|vD (sV 4) l9)<|vD (sV 3) l9) l9) (O5 "NoPaper"<|c8 (sC<|.str "fall")<|c8 (s1 gY<|sC<|.int 1) k8) mNx)
  (mRt<|sC<|.bool true)))))))
def Nc (Fn:Fun K "lets_back" "lets_back" Lk f fd)(T:Txt K mg)(KM:b7 P w K mg base "is_shaped_back" 4 ["beats","thing"] (spD K 2 J6))(Ku:b7 P w K mg base "less" 1 ["one","other"] (spD K 2 N4))(LG:b7 P w K mg base "steps_of" 4 ["heights"] (spD K 1 V3))(LR:b7 P w K mg base "plus" 3 ["one","other"] (spD K 2 iR))(KS:b7 P w K mg base "mean_height" 5 ["beats","heights"] (spD K 2 K4))(Ly:b7 P w K mg base "times" 3 ["one","other"] (spD K 2 bz))(Nd:b7 P w K mg base "least" 2 ["parts"] (spD K 1 cX)):FnOk P w K mg base (CXe P w) 6 f fd ["beats","hands","thing"] (spX K mg 3 KD):=by
 refine gv Fn L4 λo A m s H E d=>?_
 obtain⟨k,l,h,j,e,g,c,a,b⟩:=T.err_NoPaper;exact#v[_,(G0 (cV (V9<|M5<|Ev.bw<|j4 KM d<|i5 (g9 0)<|i5 (g9 2) d7) (R5<|O7 "NoPaper" U6 c a (d.mono<|by decide) b.mgc<|c7 J7<|c7 (fm aZ<|Ev.bw f8) j6)<|Q8 C5)
   (G0 (nh<|eR (g9 2)<|J4 rfl<|j5 (P6 L4.nd)<|j5 (P6 L4.nd) B5)
   (G0 (cV (V9<|M5<|Ev.bw<|j4 Ku d<|i5 (pH T.g_NOUGHT)<|i5 (g9 3) d7) (R5<|O7 "NoPaper" U6 c a (d.mono<|by decide) b.mgc<|c7 J7<|c7 (fm aZ<|Ev.bw f8) j6)<|Q8 C5)
   (G0 (nh<|z9 5 L4.nd<|j4 LG d<|i5 (g9 4) d7)
   (G0 (GM rfl vt (Cw (g9 5) T.enumerate) (J4 rfl<|j5 (P6 L4.nd)<|j5 (P6 L4.nd) B5)<|R5<|cV (V9<|M5<|Ev.bw<|j4 Ku d<|i5 (pH T.g_NOUGHT)<|i5 (g9 7) d7) (R5<|O7 "NoPaper" U6 c a (d.mono<|by decide) b.mgc<|c7 J7<|c7 (g9 6) j6)<|Q8 C5)
   (G0 (cV (M5<|Ev.bw<|j4 Ku d<|i5 (j4 Ly d<|i5 (A3<|c7 (g9 1)<|c7 f8 j6)<|i5 (j4 Nd d<|i5 (g9 5) d7) d7)<|i5 (j4 LR d<|i5 (j4 KS d<|i5 (g9 0)<|i5 (g9 4) d7)<|i5 (g9 3) d7) d7) (R5<|O7 "NoPaper" U6 c a (d.mono<|by decide) b.mgc<|c7 J7<|c7 (fm aZ<|Ev.bw f8) j6)<|Q8 C5)
   (Q8<|i6<|j7 aX)))))))]
def pZ:FnScope ["way"] ["way"] (defScope Ls):={}
def Y3:List DV->M My:=G1 ["way"]<|mRt<|sN ak<|c8 (uE (R1<|sW 0) 3 [] (bN 0) M4 (R1<|sV 0) (P7 2<|u6 (bN 1)<|u6 (bN 2) Q6) M4<|sV 2) k8
def Oa (Fn:Fun K "work_in" "work_in" Ls f fd)(T:Txt K mg) :FnOk P w K mg base CX0 1 f fd ["way"] (spD K 1 Y3):=by
 refine y9 Fn pZ λb A a s H E c=>?_
 exact#v[_,(i6<|j7<|A7 (dP rfl rfl) T.sum gH<|u9 (Ev.bw<|xi (defScope Ls) ["beat","rank","work"] (N2<|x8 0) (P9) F0 (aG<|g9 0) (J4 rfl<|j5 (P9)<|j5 (P9) B5) F0<|g9 2) B7)]
def V4:FnScope ["beats","brought","told","work","lot"] ["beats"] (defScope KW):={}
def w8:List DV->M My:=G1 ["beats","brought","told","work","lot"] (mSq (G7 1<|sLC (R1<|sW 0) 2 [] (P7 2<|u6 (bN 0)<|u6 (bN 1) Q6) M4<|G9<|c8 (i3 Y3<|vD (G9<|c8 (sV 0) k8) l9)<|c8 (sV 1) k8)
  (mSq (uv 2<|CT (sC<|.list [.int 0])<|s2 Q4 (sN xS<|c8 (sLC (R1<|sW 1) 2 [] (P7 2<|u6 (bN 0)<|u6 (bN 1) Q6) M4<|sV 0) k8)<|sC<|.int 1)
  (mSq (aN (R1<|sV 1) (P7 2<|u6 (bN 3)<|u6 (bN 4) Q6)<|iY (λi j=>i+j) 2 (sV 3)<|sV 4)
  (mRt<|sN Y1<|c8 (sW 2) k8))))
def Ob (Fn:Fun K "flow_of" "flow_of" KW f fd)(T:Txt K mg)(LX:b7 P w K mg base "work_in" 1 ["way"] (spD K 1 Y3)):FnOk P w K mg base CX0 2 f fd ["beats"] (spD K 1 w8):=by
 refine y9 Fn V4 λc A a s H E b=>?_
 exact#v[_,(d8 (nZ 1 (hN:=V4.nd) (defScope KW) ["beat","lot"] (N2<|x8 0) (J4 rfl<|j5 (P9)<|j5 (P9) B5) F0<|A3<|c7 (j4 LX b<|i5 (A3<|c7 (g9 0) j6) d7)<|c7 (g9 1) j6)
   (d8 (yz 2 V4.nd<|FU (Ev.bw<|eV (.list [.int 0]) rfl)<|Ev.bw<|u0 (G4 rfl) (Ev.bw<|A7 (Fq rfl rfl) T.max lj<|u9 (Ev.bw<|aE (defScope KW) ["work","lot"] (N2<|x8 1) (J4 rfl<|j5 (P9)<|j5 (P9) B5) F0<|g9 0) B7)<|Ev.bw f8)
   (d8 (X8 rfl (aG<|g9 1) (J4 rfl<|j5 (P6 V4.nd)<|j5 (P6 V4.nd) B5)<|i6<|xx 2 rfl (g9 3)<|g9 4)
   (i6<|j7<|ai (Y7 rfl) T.tuple S8<|u9 (x8 2) B7))))]
def R7:FnScope ["beats","hands","most","flow","word","many"] ["beats","hands","most"] (defScope KO):={}
def Ky:List DV->M My:=G1 ["beats","hands","most","flow","word","many"] (mSq (G7 3<|i3 w8<|vD (sV 0) l9)
  (mSq (G7 4<|i3 u7<|vD (sV 3)<|vD (sV 1) l9)
  (mSq (mIf (uB<|s2 (eqD true) (sW 4)<|sC<|.str "rests") (O5 "NoRest"<|c8 (sV 4) k8) mNx)
  (mSq (G7 5<|sN sL<|c8 (sC<|.int 1)<|c8 (sW 2)<|c8 (i3 B6<|vD (sV 0) l9) k8)
  (mRt<|G9<|c8 (i3 bT<|vD (G9<|c8 (sV 1)<|c8 (sC<|.int 1) k8)<|vD (i3 gN<|vD (sV 3) l9) l9)<|c8 (sN Y1<|c8 (sLC (dh<|c8 (sV 5) k8) 1 [] (bN 0) M4<|G9<|c8 (s2 Q4 (sW 0)<|sC<|.int 1)<|c8 (sC<|.int 1) k8) k8) k8)))))
def MH (Fn:Fun K "back_paper" "back_paper" KO f fd)(T:Txt K mg)(Km:b7 P w K mg base "flow_of" 2 ["beats"] (spD K 1 w8))(Kj:b7 P w K mg base "word_of" 5 ["flow","hands"] (spD K 2 u7))(Kr:b7 P w K mg base "greatest_work" 1 ["beats"] (spD K 1 B6))(Lw:b7 P w K mg base "minus" 3 ["one","other"] (spD K 2 bT))(LU:b7 P w K mg base "mean" 4 ["flow"] (spD K 1 gN)):FnOk P w K mg base (CXe P w) 6 f fd ["beats","hands","most"] (spX K mg 3 Ky):=by
 refine gv Fn R7 λo A n s H E d=>?_
 obtain⟨l,m,h,j,e,g,c,a,b⟩:=T.err_NoRest;exact#v[_,(G0 (nh<|z9 3 R7.nd<|j4 Km d<|i5 (g9 0) d7)
   (G0 (nh<|z9 4 R7.nd<|j4 Kj d<|i5 (g9 3)<|i5 (g9 1) d7)
   (G0 (cV (K9 (og rfl d.units) (x8 4)<|Ev.bw J7) (R5<|O7 "NoRest" U6 c a (d.mono<|by decide) b.mgc<|c7 (g9 4) j6)<|Q8 C5)
   (Q8 (d8 (z9 5 R7.nd<|A7 (BF rfl rfl) T.max lj<|u9 (Ev.bw f8)<|u9 (x8 2)<|u9 (Ev.bw<|j4 Kr d<|i5 (g9 0) d7) B7)
   (i6<|j7<|A3<|c7 (j4 Lw d<|i5 (A3<|c7 (g9 1)<|c7 f8 j6)<|i5 (j4 LU d<|i5 (g9 3) d7) d7)<|c7 (ai (Y7 rfl) T.tuple S8<|u9 (Ev.bw<|aE (defScope KO) ["k"] (Ei.bw<|bP (c7 (g9 5) j6) T.range) (P9) F0<|A3<|c7 (u0 (G4 rfl) (x8 0)<|Ev.bw f8)<|c7 f8 j6) B7) j6))))))]
def kO (K:Qf):Sp:=λf H Q _=>∃(a:Xy) (b:List Int),f=[.ref a]/\SqL K H a (b.map V.int)/\b.length<=63 /\
 ∀d c e,Feeds.At d c e (qp b)->j9 H e->Q (.ref d) e
def Jz {ns:List Int}(h:ns.length<=63):uI (ns.map V.int) none (some 63)=ns.map V.int:=by unfold uI;have e:HT.sIx (ns.map V.int).length (ns.map V.int).length (some 63)=min 63 (ns.map V.int).length:=HT.sIx_nat _ _ 63;rw[e,HT.sIx_none,List.drop_zero,Nat.sub_zero,VQ (by rw[QI];simp[*] )]
def kD:FnScope ["_law_script"] ["_law_script"] (defScope Ll):={}
def Nf (F:Fun K "_law_feed" "_law_feed" Ll f fd):FnOk P w K mg base CX0 1 f fd ["_law_script"] (kO K):=by
 refine F.ok kD (λl H Q E h=>?_) (λr A d s H l Q E t h=>?_)
 .obtain⟨a,i,rfl,_⟩:=h;rfl
 .obtain⟨a,i,rfl,n,hl,k⟩:=h;refine#v[_,R4<|iF<|kI<|A1 (wc Aj (pv 0) CM<|tL x6)<|A1 x6<|A1 x6 K5,?_];refine#v[_,rfl,63,rfl,a,_,rfl,n,λq m=>#v[RJ<|eO (by show 3<=1000;decide),λp g=>?_]];rw[Jz hl]at g ⊢;have c:=l6 i8 g;refine k p q _ #v[i8,by rw[f9 c];exact i8,hl,(by show(0)<=0;decide),(by show(0)<=0;decide),RM c] λb o e=>?_
  have j:upd H q (.lst<|i.map V.int) b=some o:=by rw[f9<|l6 e m];exact e
  rw[f9<|l6 j g];exact j
def L8:FnScope ["_law_feed_here","_law_many","_law_found","_law_at","_law_cell","_law_first"] ["_law_feed_here","_law_many"] (defScope Lm):={}
def Ng (Fn:Fun K "_law_draw" "_law_draw" Lm f fd)(T:Txt K mg):FnOk P w K mg base CX0 1 f fd ["_law_feed_here","_law_many"] (spD K 2 A0):=by
 refine Fn.ok L8 (λvs H Q E h=>?_) (λa2 A ap s H vs Q E hr h=>?_)
 .obtain⟨G,B,F,U,d,F',hl,_⟩:=h;exact hl
 .obtain⟨G,B,F,U,dd,F',hl,fB,bk,fa,ha,R,q⟩:=h;obtain⟨m,rfl⟩:∃m,U=[.feed,.dat<|.int m]:=by
   unfold A0 at R;split at R
   .exact#v[_,rfl]
   .cases R
  obtain⟨v,r,rfl,_,⟨d,c,rfl,rfl⟩,v2,r2,rfl,_,Y,rfl⟩:=ha;have Y:v2 = .int m:=by simpa only[DVr,b8] using Y
  subst Y;obtain⟨⟨r0,F1⟩,e1,e2⟩:=bS9 R;cases e2;replace e1:fw m F=some (r0,F1):=e1;have ac:0<m/\m<1073741824/\F.t<199999:=by
   unfold fw at e1;split at e1
   .assumption
   .cases e1
  obtain⟨M,O,al⟩:=ac;obtain⟨j,a,l,t⟩:=F;obtain⟨⟨S,hc,L,am,a0,N⟩,an⟩:=fa;simp only at S hc L am a0 al;have k:∀(r:Int) (H':Hp) (F2:FdS),fw m #v[j,a,l,t]=some (r,F2)->Feeds.At d c H' F2->(∀b o,H b=some o->b≠d->H' b=some o)->Q (.int r) H':=λr H' F2 er a1 kp=>by rw[er]at e1;cases e1;exact q _ H' (λb o e nb=>kp b o e λz=>nb<|by simp[n5,z]) #v[a1,an.but S #v[λ_ z=>(by cases z),λ_ z=>(by cases z)] kp] b8.int
  have ab:fw m #v[j,a,l,t]=some (if 0<l then(l % m,#v[j,a,l / m,t+1]) else if 10 ^ 18<=(FdS.cellL #v[j,a,l,t])/\a<j.length then((FdS.cellL #v[j,a,l,t]) % m,#v[j,a+1,(FdS.cellL #v[j,a,l,t]) / m,t+1]) else((FdS.mixL #v[j,a,l,t]) % m,#v[j,a+1,l,t+1])):=by unfold fw;rw[QH #v[M,O,al]]
  have W:c≠d:=RM N;refine#v[_,D5 (mK (bR zR (cb R8 (pv 0) x6<|λ_ _=>rfl) x6<|cG _)
    (D5 (M3 (i:=2) L8.nd rfl (Or.inl rfl)<|G5 ay (cb R8 (pv 0) x6<|λ_ _=>rfl)<|pv 1)
     (D5 (kR (G5 lJ (cb R8 (pv 0) x6<|λ_ _=>rfl)<|pv 1)<|qt (pv 0) x6 dq<|λ_=>rfl)<|R4<|iF<|pv 2)) gr)
   (D5 (M3 (i:=3) L8.nd rfl (Or.inl rfl)<|cb R8 (pv 0) x6<|λ_ _=>rfl)
   (D5 (kR (G5 cM (pv 3) x6)<|qt (pv 0) x6 dq<|λ_=>rfl)
   (D5 (M3 (i:=4) L8.nd rfl (Or.inl rfl) (nA (bR zR (Y9 U3 (by rfl) T.len PySem.boot_len<|A1 (cb R8 (pv 0) x6<|λ_ _=>rfl) K5) x6<|cG _)
    (cb R8 (cb R8 (pv 0) x6<|λ_ _=>rfl) (G5 ay (pv 3)<|Y9 U3 (by rfl) T.len PySem.boot_len<|A1 (cb R8 (pv 0) x6<|λ_ _=>rfl) K5)<|λ_ _=>rfl) x6))
   (D5 (mK (PW.pt<|vZ (bR Dt (pv 4) (G5 yA x6 x6)<|cG _)<|sv<|bR Dm (pv 3) (Y9 U3 (by rfl) T.len PySem.boot_len<|A1 (cb R8 (pv 0) x6<|λ_ _=>rfl) K5)<|cG _)
    (D5 (kR (G5 lJ (pv 4)<|pv 1)<|qt (pv 0) x6 dq<|λ_=>rfl)<|R4<|iF<|G5 ay (pv 4)<|pv 1) gr)
   (D5 (M3 (i:=5) L8.nd rfl (Or.inl rfl)<|G5 ay (G5 cL (G5 cM (G5 cM (G5 cM (G5 ay (pv 4) x6)<|G5 cL (G5 cL x6<|pv 3)<|pv 3)<|G5 cL x6<|pv 3) x6) x6) x6)
   (D5 (M3 (i:=5) L8.nd rfl (Or.inl rfl)<|G5 ay (G5 cM (G5 cM (G5 cL (pv 5)<|pv 5)<|G5 cL x6<|pv 3) x6) x6)
   (R4<|iF<|G5 ay (G5 lJ (G5 ay (G5 cL (pv 5) x6) x6) x6)<|pv 1))))))),?_]
  refine#v[_,rfl,d,_,_,_,rfl,rfl,SqL.of S,rfl,_,_,rfl,rfl,_,rfl,?_];refine ux (λg=>?_) (λg=>?_)
  .have g:0<l:=Rh g;refine#v[_,rfl,d,_,_,_,rfl,rfl,SqL.of S,rfl,_,rfl,_,_,rfl,rfl,M,?_];refine#v[_,rfl,d,_,_,_,rfl,rfl,SqL.of S,rfl,_,rfl,_,_,rfl,rfl,#v[M,O],_,rfl,d,_,_,2,rfl,rfl,S,rfl,_,rfl,?_];exact k _ _ #v[j,a,l / m,t+1] (by rw[ab,QH g]) #v[i8,by rw[f9 W];exact hc,L,am,by simp only;lia,N] (λb o e D=>by rw[f9 D];exact e)
  .have g:¬0<l:=λz=>g<|Rg z
   refine#v[_,rfl,d,_,_,_,rfl,rfl,SqL.of S,rfl,?_];refine#v[_,rfl,_,_,rfl,rfl,_,rfl,d,_,_,1,rfl,rfl,S,rfl,?_];have C:(upd H d<|.lst [.ref c,.int<|a+1,.int l]) d=some (.lst [.ref c,.int<|a+1,.int l]):=i8;have J:(upd H d<|.lst [.ref c,.int<|a+1,.int l]) c=some (.lst<|j.map V.int):=by rw[f9 W];exact hc
   have X:∀b o,H b=some o->b≠d->(upd H d<|.lst [.ref c,.int<|a+1,.int l]) b=some o:=λb o e D=>by rw[f9 D];exact e
   show qF _ _ _ _<|upd H d<|.lst [.ref c,.int<|a+1,.int l];generalize upd H d (.lst [.ref c,.int<|a+1,.int l])=H1 at C J X;have big:10 ^ 18<=(FdS.cellL #v[j,a,l,t])/\a<j.length->Q (.int<|FdS.cellL #v[j,a,l,t] % m) (upd H1 d<|.lst [.ref c,.int<|a+1,.int<|FdS.cellL #v[j,a,l,t] / m]):=λD =>
    k _ _ #v[j,a+1,FdS.cellL #v[j,a,l,t] / m,t+1] (by rw[ab,QK g,QH D]) #v[i8,by rw[f9 W];exact J,L,by simp only;lia,by simp only;lia,N] (λb o e D=>by rw[f9 D];exact X b o e D)
   have n:¬(10 ^ 18<=(FdS.cellL #v[j,a,l,t])/\a<j.length)->Q (.int<|FdS.mixL #v[j,a,l,t] % m) H1:=λD =>
    k _ _ #v[j,a+1,l,t+1] (by rw[ab,QK g,QK D]) #v[C,J,L,by simp only;lia,by simp only;lia,N] X
   unfold FdS.mixL FdS.fst at n;simp only at n;refine#v[_,rfl,d,_,_,_,rfl,rfl,SqL.of C,rfl,c,_,rfl,.inl<|SqL.of J,_,_,rfl,rfl,_,rfl,?_];refine ux (λI=>?_) (λhe=>?_)
   .have I:=Rh I;rw[QI]at I;have h0:¬j=[]:=by intro e;rw[e]at I;simp at I
    refine#v[_,rfl,d,_,_,_,rfl,rfl,SqL.of C,rfl,_,rfl,_,rfl,d,_,_,_,rfl,rfl,SqL.of C,rfl,c,_,rfl,.inl<|SqL.of J,_,_,rfl,rfl,(by rw[QI];exact I),c,_,_,_,rfl,rfl,SqL.of J,zj (F:=#v[j,a,l,t]) h0,?_];generalize FdS.cellL #v[j,a,l,t]=z at big n;obtain⟨q1,q2⟩:=qr (x:=(z % 1000003+47*a*a+31*a+907)*40009) (m:=999961) (by decide);have tl:¬(10 ^ 18<=(z:Int)/\a<j.length)->Q (.int<|((z % 1000003+47*a*a+31*a+907)*40009 % 999961*((z % 1000003+47*a*a+31*a+907)*40009 % 999961)+38317*a+101) % 2097143*48271 % 2147483629 / 7 % m) H1:=n;refine#v[_,rfl,_,_,rfl,rfl,#v[by decide,by decide,by decide],_,_,rfl,rfl,_,rfl,?_];refine ux (λu=>#v[_,rfl,_,rfl,d,_,_,_,rfl,rfl,SqL.of C,rfl,c,_,rfl,.inl<|SqL.of J,_,_,rfl,rfl,_,rfl,ux (λp=>?_)<|λp=>?_]) (λu=>Jc ?_)
    .have u:=Rh u;have p:=Rh p;rw[QI]at p;exact#v[_,rfl,_,rfl,_,_,rfl,rfl,#v[M,O],_,rfl,d,_,_,2,rfl,rfl,C,rfl,_,rfl,_,rfl,_,_,rfl,rfl,M,big #v[u,p]]
    .have Z:=tl λD=>p (Rg (by rw[QI];exact D.2))
     walk_at "ka"
    .have Z:=tl λD=>u<|Rg D.1
     walk_at "ka"
   .have I:¬(0:Int)<(j.map V.int).length:=λz=>he<|Rg z
    have h0:j=[]:=by
     cases j with
     | nil=>rfl
     | cons x y=>exact absurd (by simp only[QI,QM];lia) I
    have ad:FdS.cellL #v[j,a,l,t]=0:=by unfold FdS.cellL;rw[QH h0]
    rw[ad]at big n;obtain⟨q1,q2⟩:=qr (x:=((0:Int) % 1000003+47*a*a+31*a+907)*40009) (m:=999961) (by decide);have tl:=n;refine#v[_,rfl,_,_,rfl,rfl,#v[by decide,by decide,by decide],_,_,rfl,rfl,_,rfl,?_];refine ux (λu=>#v[_,rfl,_,rfl,d,_,_,_,rfl,rfl,SqL.of C,rfl,c,_,rfl,.inl<|SqL.of J,_,_,rfl,rfl,_,rfl,ux (λp=>?_)<|λp=>?_]) (λu=>Jc ?_)
    .have u:=Rh u;have p:=Rh p;rw[QI]at p;exact#v[_,rfl,_,rfl,_,_,rfl,rfl,#v[M,O],_,rfl,d,_,_,2,rfl,rfl,C,rfl,_,rfl,_,rfl,_,_,rfl,rfl,M,big #v[u,p]]
    .have Z:=tl λD=>p (Rg (by rw[QI];exact D.2))
     walk_at "ka"
    .have Z:=tl λD=>u<|Rg D.1
     walk_at "ka"
def Y0:FnScope ["_law_feed_here","_law_work","_law_low","_law_one"] ["_law_feed_here","_law_work"] (defScope Lb):={}
def J9:List DV->M My:=G1 ["_law_feed_here","_law_work","_law_low","_law_one"] (mSq (mIf (uB<|s2 (eqD false) (sW 1)<|sC<|.int 0) (mRt<|sC<|.tuple []) mNx)
  (mSq (mIf (uOr (uB<|s2 (eqD false) (sW 1)<|sC<|.int 1)<|tM (uB<|s2 ltD (sW 1)<|sC<|.int 4)<|uB<|s2 (eqD false) (i3 A0<|vF 0<|vD (sC<|.int 2) l9)<|sC<|.int 0) (mRt<|G9<|c8 (G9<|c8 (i3 A0<|vF 0<|vD (sC<|.int 2) l9)<|c8 (sV 1) k8) k8) mNx)
  (mSq (G7 2<|sN hU<|c8 (sC<|.int 1)<|c8 (s2 bY (sW 1)<|sC<|.int 3) k8)
  (mSq (G7 3<|s2 Q4 (sW 2)<|i3 A0<|vF 0<|vD (s2 Q4 (s2 bY (sN Ah<|c8 (sC<|.int 3)<|c8 (s2 bY (sW 1)<|sC<|.int 1) k8)<|sW 2)<|sC<|.int 1) l9)
  (mRt<|G9<|c8 (G9<|c8 (i3 A0<|vF 0<|vD (sC<|.int 2) l9)<|c8 (sV 3) k8)<|c8 (G9<|c8 (i3 A0<|vF 0<|vD (sC<|.int 2) l9)<|c8 (s2 bY (sW 1)<|sW 3) k8) k8)))))
def MI (Fn:Fun K "_law_split" "_law_split" Lb f fd)(T:Txt K mg)(Ke:b7 P w K mg base "_law_draw" 1 ["_law_feed_here","_law_many"] (spD K 2 A0)):FnOk P w K mg base CX0 2 f fd ["_law_feed_here","_law_work"] (spD K 2 J9):=by
 refine y9 Fn Y0 λc A b s H E a=>?_
 exact#v[_,(d8 (V6 (K9 (Y8 rfl a.units) (x8 1)<|Ev.bw f8) (i6<|j7<|eV (.tuple []) rfl) C5)
   (d8 (V6 (Ew.t<|qW (K9 (Y8 rfl a.units) (x8 1)<|Ev.bw f8)<|qC<|Ew.t<|xc (K9 tD (x8 1)<|Ev.bw f8)<|qR<|K9 (Y8 rfl a.units) (Ev.bw<|j4 Ke a<|U4 0<|i5 f8 d7)<|Ev.bw f8) (i6<|j7<|A3<|c7 (A3<|c7 (j4 Ke a<|U4 0<|i5 f8 d7)<|c7 (g9 1) j6) j6) C5)
   (d8 (z9 2 Y0.nd<|A7 (qY rfl rfl) T.max lj<|u9 (Ev.bw f8)<|u9 (Ev.bw<|u0 X4 (x8 1)<|Ev.bw f8) B7)
   (d8 (z9 3 Y0.nd<|u0 (G4 rfl) (x8 2)<|Ev.bw<|j4 Ke a<|U4 0<|i5 (u0 (G4 rfl) (Ev.bw<|u0 X4 (Ev.bw<|A7 (Gs rfl rfl) T.min FV<|u9 (Ev.bw f8)<|u9 (Ev.bw<|u0 X4 (x8 1)<|Ev.bw f8) B7)<|x8 2)<|Ev.bw f8) d7)
   (i6<|j7<|A3<|c7 (A3<|c7 (j4 Ke a<|U4 0<|i5 f8 d7)<|c7 (g9 3) j6)<|c7 (A3<|c7 (j4 Ke a<|U4 0<|i5 f8 d7)<|c7 (u0 X4 (x8 1)<|x8 3) j6) j6)))))]
def A9:FnScope ["_law_feed_here","_law_hands","_law_way","_law_few","_law_apart","_law_found","_law_k","_law_comers","_law_beat"] ["_law_feed_here","_law_hands"] (defScope Kt):={}
def l5:List DV->M My:=G1 ["_law_feed_here","_law_hands","_law_way","_law_few","_law_apart","_law_found","_law_k","_law_comers","_law_beat"] (mSq (G7 2<|i3 A0<|vF 0<|vD (sC<|.int 4) l9)
  (mSq (mIf (uB<|s2 (eqD false) (sW 2)<|sC<|.int 0) (mRt<|G9<|c8 (G9<|c8 (i3 J9<|vF 0<|vD (sV 1) l9)<|c8 (s2 Q4 (sC<|.int 1)<|i3 A0<|vF 0<|vD (sC<|.int 12) l9) k8) k8) mNx)
  (mSq (mIf (uB<|s2 (eqD false) (sW 2)<|sC<|.int 1) (mSq (G7 3<|s2 Q4 (sC<|.int 1)<|i3 A0<|vF 0<|vD (sC<|.int 12) l9)
  (mSq (G7 4<|s2 Q4 (sC<|.int 1)<|i3 A0<|vF 0<|vD (sV 1) l9)
  (mSq (lg 5 0 [((i3 J9<|vF 0<|vD (s2 bY (sW 1)<|sW 4) l9),(sV 3)),((i3 J9<|vF 0<|vD (s2 Q4 (sW 1)<|sW 4) l9),(sV 3))])
  (mRt<|sN Y1<|c8 (sLC (R1<|sN dD<|c8 (iL 5 0) k8) 1 [5] (bN 0) M4<|G9<|c8 (sV 0)<|c8 (ig 1 0<|sV 0) k8) k8)))) mNx)
  (mSq (fD 5 0)
  (mSq (aN (dh<|c8 (s2 Q4 (sC<|.int 1)<|i3 A0<|vF 0<|vD (sC<|.int 4) l9) k8) (bN 6) (mSq (G7 7<|s2 ixD (sC<|.list [.int 0,.int 1,.int 2,.int 2])<|i3 A0<|vF 0<|vD (sC<|.int 4) l9)
  (mSq (G7 8<|sN Y1<|c8 (sLC (dh<|c8 (sV 7) k8) 1 [0] (bN 0) M4<|G9<|c8 (i3 A0<|vF 1<|vD (sC<|.int 2) l9)<|c8 (s2 Q4 (sC<|.int 1)<|i3 A0<|vF 1<|vD (sC<|.int 3) l9) k8) k8)
  (rM 5 0 (s2 Q4 (sC<|.int 1)<|i3 A0<|vF 0<|vD (sC<|.int 12) l9)<|sV 8))))
  (mRt<|sN Y1<|c8 (sLC (R1<|sN dD<|c8 (iL 5 0) k8) 1 [5] (bN 0) M4<|G9<|c8 (sV 0)<|c8 (ig 1 0<|sV 0) k8) k8))))))
def MJ (Fn:Fun K "_law_beats" "_law_beats" Kt f fd)(T:Txt K mg)(Ke:b7 P w K mg base "_law_draw" 1 ["_law_feed_here","_law_many"] (spD K 2 A0))(KF:b7 P w K mg base "_law_split" 2 ["_law_feed_here","_law_work"] (spD K 2 J9)):FnOk P w K mg base CX0 3 f fd ["_law_feed_here","_law_hands"] (spD K 2 l5):=by
 refine y9 Fn A9 λd A c s H E a=>?_
 have b:(A.deeper<|PyProof.Rows.envOfC "_law_beats" (defScope Kt) s.heap.objs.size f d).units+65<XZ:=by have:=a.un;lia
 exact#v[_,(d8 (z9 2 A9.nd<|j4 Ke a<|U4 0<|i5 f8 d7)
   (d8 (V6 (K9 (Y8 rfl a.units) (x8 2)<|Ev.bw f8) (i6<|j7<|A3<|c7 (A3<|c7 (j4 KF a<|U4 0<|i5 (g9 1) d7)<|c7 (u0 (G4 rfl) (Ev.bw f8)<|Ev.bw<|j4 Ke a<|U4 0<|i5 f8 d7) j6) j6) C5)
   (d8 (V6 (K9 (Y8 rfl a.units) (x8 2)<|Ev.bw f8) (d8 (z9 3 A9.nd<|u0 (G4 rfl) (Ev.bw f8)<|Ev.bw<|j4 Ke a<|U4 0<|i5 f8 d7)
   (d8 (z9 4 A9.nd<|u0 (G4 rfl) (Ev.bw f8)<|Ev.bw<|j4 Ke a<|U4 0<|i5 (g9 1) d7)
   (d8 (yg 5 0 A9.nd (Ra (Td (by decide) _) b) (gb (j4 KF a<|U4 0<|i5 (u0 X4 (x8 1)<|x8 4) d7) (g9 3)<|gb (j4 KF a<|U4 0<|i5 (u0 (G4 rfl) (x8 1)<|x8 4) d7) (g9 3) zy) rfl)
   (i6<|j7<|ai (Y7 rfl) T.tuple S8<|u9 (Ev.bw<|aE (defScope Kt) ["_law_beat","_law_found"] (N2<|Ev.bw<|mx 5 0 a.hd rfl (Ra (Td (by decide) _) b) T.sorted jw) (P9) F0<|A3<|c7 (g9 0)<|c7 (rQ 1 0 (Ra (Td (by decide) _) b) (g9 0) rfl<|λ_ _=>rfl) j6) B7)))) C5)
   (d8 (Bi 5 0 A9.nd)
   (d8 (X8 rfl (bP (c7 (u0 (G4 rfl) (Ev.bw f8)<|Ev.bw<|j4 Ke a<|U4 0<|i5 f8 d7) j6) T.range) (P6 A9.nd) (d8 (z9 7 A9.nd<|mM (lZ rfl) (Ev.bw<|eV (.list [.int 0,.int 1,.int 2,.int 2]) rfl)<|Ev.bw<|j4 Ke a<|U4 0<|i5 f8 d7)
   (d8 (z9 8 A9.nd<|ai (Y7 rfl) T.tuple S8<|u9 (Ev.bw<|aE (defScope Kt) ["_law_j","_law_feed_here"] (Ei.bw<|bP (c7 (g9 7) j6) T.range) (P9) F0<|A3<|c7 (j4 Ke a<|U4 1<|i5 f8 d7)<|c7 (u0 (G4 rfl) (Ev.bw f8)<|Ev.bw<|j4 Ke a<|U4 1<|i5 f8 d7) j6) B7)
   (i6<|Cc 5 0 (Ra (Td (by decide) _) b) (u0 (G4 rfl) (Ev.bw f8)<|Ev.bw<|j4 Ke a<|U4 0<|i5 f8 d7) (g9 8) rfl))))
   (i6<|j7<|ai (Y7 rfl) T.tuple S8<|u9 (Ev.bw<|aE (defScope Kt) ["_law_beat","_law_found"] (N2<|Ev.bw<|mx 5 0 a.hd rfl (Ra (Td (by decide) _) b) T.sorted jw) (P9) F0<|A3<|c7 (g9 0)<|c7 (rQ 1 0 (Ra (Td (by decide) _) b) (g9 0) rfl<|λ_ _=>rfl) j6) B7))))))]
def X2:FnScope ["_law_flow","_law_hands","_law_found","e"] ["_law_flow","_law_hands"] (defScope LC):={}
def u8:List DV->M My:=G1 ["_law_flow","_law_hands","_law_found","e"] (mSq (G7 2<|sC<|.tuple [.str "other"])
  (mSq (vL 2 "told" KC (vD (sV 0)<|vD (sV 1) l9)<|hdB "NoRest" 3 2 [.inl "no",.inr "word"])
  (mRt<|sV 2)))
def Ny (Fn:Fun K "_law_run" "_law_run" LC f fd)(T:Txt K mg)(Lo:CalleeX P w K mg base "run_paper" 6 ["flow","hands"] (spX K mg 2 KC)):FnOk P w K mg base CX0 7 f fd ["_law_flow","_law_hands"] (spD K 2 u8):=by
 refine y9 Fn X2 λx A p s H E u=>?_
 obtain⟨o,g,m,n,k,l,j,i,a⟩:=T.err_NoRest;obtain⟨h,b,c⟩:=T.exs_NoRest;have d:h=g:=by have z:=b.symm.trans a.mgc;cases z;rfl
 subst d;exact#v[_,(d8 (z9 2 X2.nd<|eV (.tuple [.str "other"]) rfl)
   (d8 (xh 2 3 Lo (u.mono<|by decide) (λt r=>(i5 (g9 0)<|i5 (g9 1) d7)) (fO<|fO gI) (JA a (by decide) (by decide)<|by decide) (λe y fs t r q v=>by subst q;exact Dx (zZ<|wF v xI) X2.nd) (λy q=>by subst q;exact#v[a.cat,a.hd,c]) b X2.nd)
   (i6<|j7<|g9 2)))]
def U8:FnScope ["_law_beats_here","_law_hands","_law_found","e"] ["_law_beats_here","_law_hands"] (defScope Ln):={}
def m8:List DV->M My:=G1 ["_law_beats_here","_law_hands","_law_found","e"] (mSq (G7 2<|sC<|.tuple [.str "other"])
  (mSq (vL 2 "told" Ky (vD (sV 0)<|vD (sV 1)<|vD (sC<|.int 3) l9)<|hdB "NoRest" 3 2 [.inl "no",.inr "word"])
  (mRt<|sV 2)))
def Nh (Fn:Fun K "_law_back" "_law_back" Ln f fd)(T:Txt K mg)(Le:CalleeX P w K mg base "back_paper" 6 ["beats","hands","most"] (spX K mg 3 Ky)):FnOk P w K mg base CX0 7 f fd ["_law_beats_here","_law_hands"] (spD K 2 m8):=by
 refine y9 Fn U8 λx A p s H E u=>?_
 obtain⟨o,g,m,n,k,l,j,i,a⟩:=T.err_NoRest;obtain⟨h,b,c⟩:=T.exs_NoRest;have d:h=g:=by have z:=b.symm.trans a.mgc;cases z;rfl
 subst d;exact#v[_,(d8 (z9 2 U8.nd<|eV (.tuple [.str "other"]) rfl)
   (d8 (xh 2 3 Le (u.mono<|by decide) (λt r=>(i5 (g9 0)<|i5 (g9 1)<|i5 f8 d7)) (fO<|fO<|fO gI) (JA a (by decide) (by decide)<|by decide) (λe y fs t r q v=>by subst q;exact Dx (zZ<|wF v xI) U8.nd) (λy q=>by subst q;exact#v[a.cat,a.hd,c]) b U8.nd)
   (i6<|j7<|g9 2)))]
def Q7:FnScope ["_law_flow","_law_hands","_law_thing","_law_found"] ["_law_flow","_law_hands","_law_thing"] (defScope KN):={}
def i4:List DV->M My:=G1 ["_law_flow","_law_hands","_law_thing","_law_found"] (mSq (G7 3<|sC<|.bool false)
  (mSq (oi "NoPaper" 3 KL (vD (sV 0)<|vD (sV 1)<|vD (sV 2) l9)<|.bool false)
  (mRt<|sV 3)))
def LY (Fn:Fun K "_law_lets_run" "_law_lets_run" KN f fd)(T:Txt K mg)(LH:CalleeX P w K mg base "lets_run" 4 ["flow","hands","thing"] (spX K mg 3 KL)):FnOk P w K mg base CX0 5 f fd ["_law_flow","_law_hands","_law_thing"] (spD K 3 i4):=by
 refine y9 Fn Q7 λt A o s H E r=>?_
 obtain⟨l,n,j,k,h,i,g,c,d⟩:=T.err_NoPaper;obtain⟨m,b,a⟩:=T.exs_NoPaper;exact#v[_,(d8 (z9 3 Q7.nd aX)
   (d8 (rA 3 LH (r.mono<|by decide) (λq p=>(i5 (g9 0)<|i5 (g9 1)<|i5 (g9 2) d7)) (fO<|fO<|fO gI) (λe q p=>yQ) (λH=>b8.bl) b a Q7.nd)
   (i6<|j7<|g9 3)))]
def P1:FnScope ["_law_beats_here","_law_hands","_law_thing","_law_found"] ["_law_beats_here","_law_hands","_law_thing"] (defScope KI):={}
def d9:List DV->M My:=G1 ["_law_beats_here","_law_hands","_law_thing","_law_found"] (mSq (G7 3<|sC<|.bool false)
  (mSq (oi "NoPaper" 3 KD (vD (sV 0)<|vD (sV 1)<|vD (sV 2) l9)<|.bool false)
  (mRt<|sV 3)))
def LL (Fn:Fun K "_law_lets_back" "_law_lets_back" KI f fd)(T:Txt K mg)(Lp:CalleeX P w K mg base "lets_back" 6 ["beats","hands","thing"] (spX K mg 3 KD)):FnOk P w K mg base CX0 7 f fd ["_law_beats_here","_law_hands","_law_thing"] (spD K 3 d9):=by
 refine y9 Fn P1 λt A o s H E r=>?_
 obtain⟨l,n,j,k,h,i,g,c,d⟩:=T.err_NoPaper;obtain⟨m,b,a⟩:=T.exs_NoPaper;exact#v[_,(d8 (z9 3 P1.nd aX)
   (d8 (rA 3 Lp (r.mono<|by decide) (λq p=>(i5 (g9 0)<|i5 (g9 1)<|i5 (g9 2) d7)) (fO<|fO<|fO gI) (λe q p=>yQ) (λH=>b8.bl) b a P1.nd)
   (i6<|j7<|g9 3)))]
def W5:FnScope ["_law_feed_here","_law_bottom","_law_tops","_law_k"] ["_law_feed_here"] (defScope Lc):={}
def v7:List DV->M My:=G1 ["_law_feed_here","_law_bottom","_law_tops","_law_k"] (mSq (G7 1<|s2 Q4 (sC<|.int 2)<|i3 A0<|vF 0<|vD (sC<|.int 99) l9)
  (mSq (uv 2<|Ax<|c8 (s2 Q4 (sC<|.int 1)<|i3 A0<|vF 0<|vD (sC<|.int 3) l9) k8)
  (mSq (aN (dh<|c8 (sC<|.int 2) k8) (bN 3)<|xU 2<|s2 Q4 (s2 Q4 (s2 ixD (sW 2)<|s1 gY<|sC<|.int 1)<|sC<|.int 1)<|i3 A0<|vF 0<|vD (sC<|.int 3) l9)
  (mRt<|G9<|c8 (G9<|c8 (s2 bY (sW 1)<|sC<|.int 1)<|c8 (sV 1) k8)<|c8 (G9<|c8 (G9<|c8 (sC<|.int 1)<|c8 (s2 Q4 (sC<|.int 2)<|i3 A0<|vF 0<|vD (sC<|.int 99) l9) k8)<|c8 (sN Y1<|c8 (sLC (R1<|sW 2) 1 [] (bN 0) M4<|G9<|c8 (sV 0)<|c8 (sC<|.int 1) k8) k8) k8) k8))))
def Nz (Fn:Fun K "_law_own" "_law_own" Lc f fd)(T:Txt K mg)(Ke:b7 P w K mg base "_law_draw" 1 ["_law_feed_here","_law_many"] (spD K 2 A0)):FnOk P w K mg base CX0 2 f fd ["_law_feed_here"] (spD K 1 v7):=by
 refine y9 Fn W5 λc A b s H E a=>?_
 exact#v[_,(d8 (z9 1 W5.nd<|u0 (G4 rfl) (Ev.bw f8)<|Ev.bw<|j4 Ke a<|U4 0<|i5 f8 d7)
   (d8 (yz 2 W5.nd<|Fg<|c7 (u0 (G4 rfl) (Ev.bw f8)<|Ev.bw<|j4 Ke a<|U4 0<|i5 f8 d7) j6)
   (d8 (X8 rfl (bP (c7 f8 j6) T.range) (P6 W5.nd)<|i6<|Ey 2 rfl<|u0 (G4 rfl) (Ev.bw<|u0 (G4 rfl) (Ev.bw<|mM (lZ rfl) (x8 2)<|Ev.bw<|fm aZ<|Ev.bw f8)<|Ev.bw f8)<|Ev.bw<|j4 Ke a<|U4 0<|i5 f8 d7)
   (i6<|j7<|A3<|c7 (A3<|c7 (u0 X4 (x8 1)<|Ev.bw f8)<|c7 (g9 1) j6)<|c7 (A3<|c7 (A3<|c7 f8<|c7 (u0 (G4 rfl) (Ev.bw f8)<|Ev.bw<|j4 Ke a<|U4 0<|i5 f8 d7) j6)<|c7 (ai (Y7 rfl) T.tuple S8<|u9 (Ev.bw<|aE (defScope Lc) ["_law_top"] (N2<|x8 2) (P9) F0<|A3<|c7 (g9 0)<|c7 f8 j6) B7) j6) j6))))]
end
end
section
section

def O9:FnScope ["_law_script","_law_feed_here","_law_k","_law_hands","_law_beats_here","_law_flow","_law_word","_law_ran","_law_back_here","_law_part","_law_paper","_law_due","_law_lets"] ["_law_script"] (defScope Kn):={}
def L7:XF->List XF
 | .For _ _ b _ _=>b
 | _=>[]
def Z4:DE->M Out:=(G7 3<|s2 Q4 (sC<|.int 1)<|i3 A0<|vF 1<|vD (sC<|.int 3) l9)
abbrev XL:=λP w K mg base f dr A outer s H E=>P4 CX0 P w K mg base ["_law_script","_law_feed_here","_law_k","_law_hands","_law_beats_here","_law_flow","_law_word","_law_ran","_law_back_here","_law_part","_law_paper","_law_due","_law_lets"] "law" (defScope Kn) f dr A outer s H E
def pS (T:Txt K mg)(hr:Room 7 (A.deeper<|PyProof.Rows.envOfC "law" (defScope Kn) s.heap.objs.size f dr))(hu5:(A.deeper<|PyProof.Rows.envOfC "law" (defScope Kn) s.heap.objs.size f dr).units+65<XZ)(Ke:b7 P w K mg base "_law_draw" 1 ["_law_feed_here","_law_many"] (spD K 2 A0))(Kh:b7 P w K mg base "_law_beats" 3 ["_law_feed_here","_law_hands"] (spD K 2 l5))(Km:b7 P w K mg base "flow_of" 2 ["beats"] (spD K 1 w8))(Kj:b7 P w K mg base "word_of" 5 ["flow","hands"] (spD K 2 u7))(Ki:b7 P w K mg base "_law_back" 7 ["_law_beats_here","_law_hands"] (spD K 2 m8))(Kk:b7 P w K mg base "_law_run" 7 ["_law_flow","_law_hands"] (spD K 2 u8))(Kl:b7 P w K mg base "_law_own" 2 ["_law_feed_here"] (spD K 1 v7))(Kf:b7 P w K mg base "_law_lets_back" 7 ["_law_beats_here","_law_hands","_law_thing"] (spD K 3 d9))(Kg:b7 P w K mg base "_law_lets_run" 5 ["_law_flow","_law_hands","_law_thing"] (spD K 3 i4)):∃ts,Ss K (XL P w K mg base f dr A outer s H E).nox (nth (L7<|nth (defBody Kn) 1) 0) ts Z4:=by exact#v[_,(z9 3 O9.nd<|u0 (G4 rfl) (Ev.bw f8)<|Ev.bw<|j4 Ke hr<|U4 1<|i5 f8 d7)]
def Z2:DE->M Out:=(G7 4<|i3 l5<|vF 1<|vD (sV 3) l9)
def pU (T:Txt K mg)(hr:Room 7 (A.deeper<|PyProof.Rows.envOfC "law" (defScope Kn) s.heap.objs.size f dr))(hu5:(A.deeper<|PyProof.Rows.envOfC "law" (defScope Kn) s.heap.objs.size f dr).units+65<XZ)(Ke:b7 P w K mg base "_law_draw" 1 ["_law_feed_here","_law_many"] (spD K 2 A0))(Kh:b7 P w K mg base "_law_beats" 3 ["_law_feed_here","_law_hands"] (spD K 2 l5))(Km:b7 P w K mg base "flow_of" 2 ["beats"] (spD K 1 w8))(Kj:b7 P w K mg base "word_of" 5 ["flow","hands"] (spD K 2 u7))(Ki:b7 P w K mg base "_law_back" 7 ["_law_beats_here","_law_hands"] (spD K 2 m8))(Kk:b7 P w K mg base "_law_run" 7 ["_law_flow","_law_hands"] (spD K 2 u8))(Kl:b7 P w K mg base "_law_own" 2 ["_law_feed_here"] (spD K 1 v7))(Kf:b7 P w K mg base "_law_lets_back" 7 ["_law_beats_here","_law_hands","_law_thing"] (spD K 3 d9))(Kg:b7 P w K mg base "_law_lets_run" 5 ["_law_flow","_law_hands","_law_thing"] (spD K 3 i4)):∃ts,Ss K (XL P w K mg base f dr A outer s H E).nox (nth (L7<|nth (defBody Kn) 1) 1) ts Z2:=by exact#v[_,(z9 4 O9.nd<|j4 Kh hr<|U4 1<|i5 (g9 3) d7)]
def Y6:DE->M Out:=(G7 5<|i3 w8<|vD (sV 4) l9)
def pO (T:Txt K mg)(hr:Room 7 (A.deeper<|PyProof.Rows.envOfC "law" (defScope Kn) s.heap.objs.size f dr))(hu5:(A.deeper<|PyProof.Rows.envOfC "law" (defScope Kn) s.heap.objs.size f dr).units+65<XZ)(Ke:b7 P w K mg base "_law_draw" 1 ["_law_feed_here","_law_many"] (spD K 2 A0))(Kh:b7 P w K mg base "_law_beats" 3 ["_law_feed_here","_law_hands"] (spD K 2 l5))(Km:b7 P w K mg base "flow_of" 2 ["beats"] (spD K 1 w8))(Kj:b7 P w K mg base "word_of" 5 ["flow","hands"] (spD K 2 u7))(Ki:b7 P w K mg base "_law_back" 7 ["_law_beats_here","_law_hands"] (spD K 2 m8))(Kk:b7 P w K mg base "_law_run" 7 ["_law_flow","_law_hands"] (spD K 2 u8))(Kl:b7 P w K mg base "_law_own" 2 ["_law_feed_here"] (spD K 1 v7))(Kf:b7 P w K mg base "_law_lets_back" 7 ["_law_beats_here","_law_hands","_law_thing"] (spD K 3 d9))(Kg:b7 P w K mg base "_law_lets_run" 5 ["_law_flow","_law_hands","_law_thing"] (spD K 3 i4)):∃ts,Ss K (XL P w K mg base f dr A outer s H E).nox (nth (L7<|nth (defBody Kn) 1) 2) ts Y6:=by exact#v[_,(z9 5 O9.nd<|j4 Km hr<|i5 (g9 4) d7)]
def Z7:DE->M Out:=(G7 6<|i3 u7<|vD (sV 5)<|vD (sV 3) l9)
def pF (T:Txt K mg)(hr:Room 7 (A.deeper<|PyProof.Rows.envOfC "law" (defScope Kn) s.heap.objs.size f dr))(hu5:(A.deeper<|PyProof.Rows.envOfC "law" (defScope Kn) s.heap.objs.size f dr).units+65<XZ)(Ke:b7 P w K mg base "_law_draw" 1 ["_law_feed_here","_law_many"] (spD K 2 A0))(Kh:b7 P w K mg base "_law_beats" 3 ["_law_feed_here","_law_hands"] (spD K 2 l5))(Km:b7 P w K mg base "flow_of" 2 ["beats"] (spD K 1 w8))(Kj:b7 P w K mg base "word_of" 5 ["flow","hands"] (spD K 2 u7))(Ki:b7 P w K mg base "_law_back" 7 ["_law_beats_here","_law_hands"] (spD K 2 m8))(Kk:b7 P w K mg base "_law_run" 7 ["_law_flow","_law_hands"] (spD K 2 u8))(Kl:b7 P w K mg base "_law_own" 2 ["_law_feed_here"] (spD K 1 v7))(Kf:b7 P w K mg base "_law_lets_back" 7 ["_law_beats_here","_law_hands","_law_thing"] (spD K 3 d9))(Kg:b7 P w K mg base "_law_lets_run" 5 ["_law_flow","_law_hands","_law_thing"] (spD K 3 i4)):∃ts,Ss K (XL P w K mg base f dr A outer s H E).nox (nth (L7<|nth (defBody Kn) 1) 3) ts Z7:=by exact#v[_,(z9 6 O9.nd<|j4 Kj hr<|i5 (g9 5)<|i5 (g9 3) d7)]
def Z5:DE->M Out:=(jj 7 8<|c8 (i3 u8<|vD (sV 5)<|vD (sV 3) l9)<|c8 (i3 m8<|vD (sV 4)<|vD (sV 3) l9) k8)
def oM (T:Txt K mg)(hr:Room 7 (A.deeper<|PyProof.Rows.envOfC "law" (defScope Kn) s.heap.objs.size f dr))(hu5:(A.deeper<|PyProof.Rows.envOfC "law" (defScope Kn) s.heap.objs.size f dr).units+65<XZ)(Ke:b7 P w K mg base "_law_draw" 1 ["_law_feed_here","_law_many"] (spD K 2 A0))(Kh:b7 P w K mg base "_law_beats" 3 ["_law_feed_here","_law_hands"] (spD K 2 l5))(Km:b7 P w K mg base "flow_of" 2 ["beats"] (spD K 1 w8))(Kj:b7 P w K mg base "word_of" 5 ["flow","hands"] (spD K 2 u7))(Ki:b7 P w K mg base "_law_back" 7 ["_law_beats_here","_law_hands"] (spD K 2 m8))(Kk:b7 P w K mg base "_law_run" 7 ["_law_flow","_law_hands"] (spD K 2 u8))(Kl:b7 P w K mg base "_law_own" 2 ["_law_feed_here"] (spD K 1 v7))(Kf:b7 P w K mg base "_law_lets_back" 7 ["_law_beats_here","_law_hands","_law_thing"] (spD K 3 d9))(Kg:b7 P w K mg base "_law_lets_run" 5 ["_law_flow","_law_hands","_law_thing"] (spD K 3 i4)):∃ts,Ss K (XL P w K mg base f dr A outer s H E).nox (nth (L7<|nth (defBody Kn) 1) 4) ts Z5:=by exact#v[_,(hX 7 8 rfl O9.nd<|c7 (j4 Kk hr<|i5 (g9 5)<|i5 (g9 3) d7)<|c7 (j4 Ki hr<|i5 (g9 4)<|i5 (g9 3) d7) j6)]
def U9:DE->M Out:=(kT (P7 2<|u6 (bN 9)<|u6 (bN 10) Q6)<|i3 v7<|vF 1 l9)
def pk (T:Txt K mg)(hr:Room 7 (A.deeper<|PyProof.Rows.envOfC "law" (defScope Kn) s.heap.objs.size f dr))(hu5:(A.deeper<|PyProof.Rows.envOfC "law" (defScope Kn) s.heap.objs.size f dr).units+65<XZ)(Ke:b7 P w K mg base "_law_draw" 1 ["_law_feed_here","_law_many"] (spD K 2 A0))(Kh:b7 P w K mg base "_law_beats" 3 ["_law_feed_here","_law_hands"] (spD K 2 l5))(Km:b7 P w K mg base "flow_of" 2 ["beats"] (spD K 1 w8))(Kj:b7 P w K mg base "word_of" 5 ["flow","hands"] (spD K 2 u7))(Ki:b7 P w K mg base "_law_back" 7 ["_law_beats_here","_law_hands"] (spD K 2 m8))(Kk:b7 P w K mg base "_law_run" 7 ["_law_flow","_law_hands"] (spD K 2 u8))(Kl:b7 P w K mg base "_law_own" 2 ["_law_feed_here"] (spD K 1 v7))(Kf:b7 P w K mg base "_law_lets_back" 7 ["_law_beats_here","_law_hands","_law_thing"] (spD K 3 d9))(Kg:b7 P w K mg base "_law_lets_run" 5 ["_law_flow","_law_hands","_law_thing"] (spD K 3 i4)):∃ts,Ss K (XL P w K mg base f dr A outer s H E).nox (nth (L7<|nth (defBody Kn) 1) 5) ts U9:=by exact#v[_,(eR (j4 Kl hr<|U4 1 d7)<|J4 rfl<|j5 (P6 O9.nd)<|j5 (P6 O9.nd) B5)]
def Q5:DE->M Out:=(dA 11 [((sC<|.str "rests"),(sC<|.list [.str "no",.str "told"])),((sC<|.str "swings"),(sC<|.list [.str "no",.str "no"]))] (uf<|c8 (s2 ixD (sW 7)<|sC<|.int 0)<|c8 (s2 ixD (sW 8)<|sC<|.int 0) k8) (sV 6) (sC<|.list [.str "told",.str "no"])<|mRt<|sC<|.bool false)
def ql (T:Txt K mg)(hr:Room 7 (A.deeper<|PyProof.Rows.envOfC "law" (defScope Kn) s.heap.objs.size f dr))(hu5:(A.deeper<|PyProof.Rows.envOfC "law" (defScope Kn) s.heap.objs.size f dr).units+65<XZ)(Ke:b7 P w K mg base "_law_draw" 1 ["_law_feed_here","_law_many"] (spD K 2 A0))(Kh:b7 P w K mg base "_law_beats" 3 ["_law_feed_here","_law_hands"] (spD K 2 l5))(Km:b7 P w K mg base "flow_of" 2 ["beats"] (spD K 1 w8))(Kj:b7 P w K mg base "word_of" 5 ["flow","hands"] (spD K 2 u7))(Ki:b7 P w K mg base "_law_back" 7 ["_law_beats_here","_law_hands"] (spD K 2 m8))(Kk:b7 P w K mg base "_law_run" 7 ["_law_flow","_law_hands"] (spD K 2 u8))(Kl:b7 P w K mg base "_law_own" 2 ["_law_feed_here"] (spD K 1 v7))(Kf:b7 P w K mg base "_law_lets_back" 7 ["_law_beats_here","_law_hands","_law_thing"] (spD K 3 d9))(Kg:b7 P w K mg base "_law_lets_run" 5 ["_law_flow","_law_hands","_law_thing"] (spD K 3 i4))(hq:Sss K (XL P w K mg base f dr A outer s H E).nox rest u mu):∃ts,Sss K (XL P w K mg base f dr A outer s H E).nox ((nth (L7<|nth (defBody Kn) 1) 6)::(nth (L7<|nth (defBody Kn) 1) 7)::rest) ts (mSq Q5 mu):=by exact#v[_,(xg (vz 11 O9.nd hr.units (gb J7 (eV (.list [.str "no",.str "told"]) rfl)<|gb J7 (eV (.list [.str "no",.str "no"]) rfl) zy) (Ev.bw<|oO<|c7 (A2 7)<|c7 (A2 8) j6) (g9 6) (eV (.list [.str "told",.str "no"]) rfl) (i6<|j7 aX) rfl #v[rfl,rfl,rfl,rfl]) hq)]
def Q9:DE->M Out:=(mIf (uB<|s2 (eqD true) (sLC (R1<|G9<|c8 (sV 7)<|c8 (sV 8) k8) 1 [6] (bN 0) (tM (uB<|s2 (eqD false) (s2 ixD (sW 0)<|sC<|.int 0)<|sC<|.str "no")<|uB<|s2 (eqD true) (s2 ixD (sW 0)<|sC<|.int 1)<|sW 1)<|s2 ixD (sW 0)<|sC<|.int 1)<|sC<|.list []) (mRt<|sC<|.bool false) mNx)
def qg (T:Txt K mg)(hr:Room 7 (A.deeper<|PyProof.Rows.envOfC "law" (defScope Kn) s.heap.objs.size f dr))(hu5:(A.deeper<|PyProof.Rows.envOfC "law" (defScope Kn) s.heap.objs.size f dr).units+65<XZ)(Ke:b7 P w K mg base "_law_draw" 1 ["_law_feed_here","_law_many"] (spD K 2 A0))(Kh:b7 P w K mg base "_law_beats" 3 ["_law_feed_here","_law_hands"] (spD K 2 l5))(Km:b7 P w K mg base "flow_of" 2 ["beats"] (spD K 1 w8))(Kj:b7 P w K mg base "word_of" 5 ["flow","hands"] (spD K 2 u7))(Ki:b7 P w K mg base "_law_back" 7 ["_law_beats_here","_law_hands"] (spD K 2 m8))(Kk:b7 P w K mg base "_law_run" 7 ["_law_flow","_law_hands"] (spD K 2 u8))(Kl:b7 P w K mg base "_law_own" 2 ["_law_feed_here"] (spD K 1 v7))(Kf:b7 P w K mg base "_law_lets_back" 7 ["_law_beats_here","_law_hands","_law_thing"] (spD K 3 d9))(Kg:b7 P w K mg base "_law_lets_run" 5 ["_law_flow","_law_hands","_law_thing"] (spD K 3 i4)):∃ts,Ss K (XL P w K mg base f dr A outer s H E).nox (nth (L7<|nth (defBody Kn) 1) 8) ts Q9:=by exact#v[_,(V6 (K9 (og rfl hr.units) (Ev.bw<|aE (defScope Kn) ["_law_one","_law_word"] (N2<|Ev.bw<|A3<|c7 (g9 7)<|c7 (g9 8) j6) (P9) (Bl<|Ew.t<|xc (K9 (Y8 rfl hr.units) (Ev.bw<|A2 0)<|Ev.bw J7)<|qR<|K9 (og rfl hr.units) (Ev.bw<|A2 0)<|x8 1)<|A2 0)<|Ev.bw<|eV (.list []) rfl) (i6<|j7 aX) C5)]
def O0:DE->M Out:=(mIf (uB<|s2 (eqD false) (s2 ixD (sW 7)<|sC<|.int 0)<|sC<|.str "told") (G7 9<|s2 ixD (sW 7)<|sC<|.int 1) mNx)
def oZ (T:Txt K mg)(hr:Room 7 (A.deeper<|PyProof.Rows.envOfC "law" (defScope Kn) s.heap.objs.size f dr))(hu5:(A.deeper<|PyProof.Rows.envOfC "law" (defScope Kn) s.heap.objs.size f dr).units+65<XZ)(Ke:b7 P w K mg base "_law_draw" 1 ["_law_feed_here","_law_many"] (spD K 2 A0))(Kh:b7 P w K mg base "_law_beats" 3 ["_law_feed_here","_law_hands"] (spD K 2 l5))(Km:b7 P w K mg base "flow_of" 2 ["beats"] (spD K 1 w8))(Kj:b7 P w K mg base "word_of" 5 ["flow","hands"] (spD K 2 u7))(Ki:b7 P w K mg base "_law_back" 7 ["_law_beats_here","_law_hands"] (spD K 2 m8))(Kk:b7 P w K mg base "_law_run" 7 ["_law_flow","_law_hands"] (spD K 2 u8))(Kl:b7 P w K mg base "_law_own" 2 ["_law_feed_here"] (spD K 1 v7))(Kf:b7 P w K mg base "_law_lets_back" 7 ["_law_beats_here","_law_hands","_law_thing"] (spD K 3 d9))(Kg:b7 P w K mg base "_law_lets_run" 5 ["_law_flow","_law_hands","_law_thing"] (spD K 3 i4)):∃ts,Ss K (XL P w K mg base f dr A outer s H E).nox (nth (L7<|nth (defBody Kn) 1) 9) ts O0:=by exact#v[_,(V6 (K9 (Y8 rfl hr.units) (Ev.bw<|A2 7)<|Ev.bw J7) (i6<|z9 9 O9.nd<|A2 7) C5)]
def G2:DE->M Out:=(mIf (uB<|s2 (eqD false) (s2 ixD (sW 8)<|sC<|.int 0)<|sC<|.str "told") (G7 10<|s2 ixD (sW 8)<|sC<|.int 1) mNx)
def oq (T:Txt K mg)(hr:Room 7 (A.deeper<|PyProof.Rows.envOfC "law" (defScope Kn) s.heap.objs.size f dr))(hu5:(A.deeper<|PyProof.Rows.envOfC "law" (defScope Kn) s.heap.objs.size f dr).units+65<XZ)(Ke:b7 P w K mg base "_law_draw" 1 ["_law_feed_here","_law_many"] (spD K 2 A0))(Kh:b7 P w K mg base "_law_beats" 3 ["_law_feed_here","_law_hands"] (spD K 2 l5))(Km:b7 P w K mg base "flow_of" 2 ["beats"] (spD K 1 w8))(Kj:b7 P w K mg base "word_of" 5 ["flow","hands"] (spD K 2 u7))(Ki:b7 P w K mg base "_law_back" 7 ["_law_beats_here","_law_hands"] (spD K 2 m8))(Kk:b7 P w K mg base "_law_run" 7 ["_law_flow","_law_hands"] (spD K 2 u8))(Kl:b7 P w K mg base "_law_own" 2 ["_law_feed_here"] (spD K 1 v7))(Kf:b7 P w K mg base "_law_lets_back" 7 ["_law_beats_here","_law_hands","_law_thing"] (spD K 3 d9))(Kg:b7 P w K mg base "_law_lets_run" 5 ["_law_flow","_law_hands","_law_thing"] (spD K 3 i4)):∃ts,Ss K (XL P w K mg base f dr A outer s H E).nox (nth (L7<|nth (defBody Kn) 1) 10) ts G2:=by exact#v[_,(V6 (K9 (Y8 rfl hr.units) (Ev.bw<|A2 8)<|Ev.bw J7) (i6<|z9 10 O9.nd<|A2 8) C5)]
def D2:DE->M Out:=(G7 12<|uf<|c8 (i3 i4<|vD (sV 5)<|vD (sV 3)<|vD (sV 9) l9)<|c8 (i3 d9<|vD (sV 4)<|vD (sV 3)<|vD (sV 10) l9) k8)
def lV (T:Txt K mg)(hr:Room 7 (A.deeper<|PyProof.Rows.envOfC "law" (defScope Kn) s.heap.objs.size f dr))(hu5:(A.deeper<|PyProof.Rows.envOfC "law" (defScope Kn) s.heap.objs.size f dr).units+65<XZ)(Ke:b7 P w K mg base "_law_draw" 1 ["_law_feed_here","_law_many"] (spD K 2 A0))(Kh:b7 P w K mg base "_law_beats" 3 ["_law_feed_here","_law_hands"] (spD K 2 l5))(Km:b7 P w K mg base "flow_of" 2 ["beats"] (spD K 1 w8))(Kj:b7 P w K mg base "word_of" 5 ["flow","hands"] (spD K 2 u7))(Ki:b7 P w K mg base "_law_back" 7 ["_law_beats_here","_law_hands"] (spD K 2 m8))(Kk:b7 P w K mg base "_law_run" 7 ["_law_flow","_law_hands"] (spD K 2 u8))(Kl:b7 P w K mg base "_law_own" 2 ["_law_feed_here"] (spD K 1 v7))(Kf:b7 P w K mg base "_law_lets_back" 7 ["_law_beats_here","_law_hands","_law_thing"] (spD K 3 d9))(Kg:b7 P w K mg base "_law_lets_run" 5 ["_law_flow","_law_hands","_law_thing"] (spD K 3 i4)):∃ts,Ss K (XL P w K mg base f dr A outer s H E).nox (nth (L7<|nth (defBody Kn) 1) 11) ts D2:=by exact#v[_,(z9 12 O9.nd<|oO<|c7 (j4 Kg hr<|i5 (g9 5)<|i5 (g9 3)<|i5 (g9 9) d7)<|c7 (j4 Kf hr<|i5 (g9 4)<|i5 (g9 3)<|i5 (g9 10) d7) j6)]
def D8:DE->M Out:=(mIf (uB<|s2 (eqD true) (sN jD<|c8 (sW 12) k8)<|sN jD<|c8 (uf<|c8 (s2 (eqD false) (s2 ixD (sW 7)<|sC<|.int 0)<|sC<|.str "told")<|c8 (s2 (eqD false) (s2 ixD (sW 8)<|sC<|.int 0)<|sC<|.str "told") k8) k8) (mRt<|sC<|.bool false) mNx)
def nK (T:Txt K mg)(hr:Room 7 (A.deeper<|PyProof.Rows.envOfC "law" (defScope Kn) s.heap.objs.size f dr))(hu5:(A.deeper<|PyProof.Rows.envOfC "law" (defScope Kn) s.heap.objs.size f dr).units+65<XZ)(Ke:b7 P w K mg base "_law_draw" 1 ["_law_feed_here","_law_many"] (spD K 2 A0))(Kh:b7 P w K mg base "_law_beats" 3 ["_law_feed_here","_law_hands"] (spD K 2 l5))(Km:b7 P w K mg base "flow_of" 2 ["beats"] (spD K 1 w8))(Kj:b7 P w K mg base "word_of" 5 ["flow","hands"] (spD K 2 u7))(Ki:b7 P w K mg base "_law_back" 7 ["_law_beats_here","_law_hands"] (spD K 2 m8))(Kk:b7 P w K mg base "_law_run" 7 ["_law_flow","_law_hands"] (spD K 2 u8))(Kl:b7 P w K mg base "_law_own" 2 ["_law_feed_here"] (spD K 1 v7))(Kf:b7 P w K mg base "_law_lets_back" 7 ["_law_beats_here","_law_hands","_law_thing"] (spD K 3 d9))(Kg:b7 P w K mg base "_law_lets_run" 5 ["_law_flow","_law_hands","_law_thing"] (spD K 3 i4)):∃ts,Ss K (XL P w K mg base f dr A outer s H E).nox (nth (L7<|nth (defBody Kn) 1) 12) ts D8:=by exact#v[_,(V6 (K9 (og rfl hr.units) (Ev.bw<|A7 (qP rfl hr.gd hr.units) T.repr rW<|u9 (x8 12) B7)<|Ev.bw<|A7 (qP rfl hr.gd hr.units) T.repr rW<|u9 (Ev.bw<|oO<|c7 (cE (Y8 rfl hr.units) (Ev.bw<|A2 7)<|Ev.bw J7)<|c7 (cE (Y8 rfl hr.units) (Ev.bw<|A2 8)<|Ev.bw J7) j6) B7) (i6<|j7 aX) C5)]
def kN:DE->M Out:=(aN (dh<|c8 (sC<|.int 4) k8) (bN 2)<|mSq Z4<|mSq Z2<|mSq Y6<|mSq Z7<|mSq Z5<|mSq U9<|mSq Q5<|mSq Q9<|mSq O0<|mSq G2<|mSq D2 D8)
def xM (T:Txt K mg)(hr:Room 7 (A.deeper<|PyProof.Rows.envOfC "law" (defScope Kn) s.heap.objs.size f dr))(hu5:(A.deeper<|PyProof.Rows.envOfC "law" (defScope Kn) s.heap.objs.size f dr).units+65<XZ)(Ke:b7 P w K mg base "_law_draw" 1 ["_law_feed_here","_law_many"] (spD K 2 A0))(Kh:b7 P w K mg base "_law_beats" 3 ["_law_feed_here","_law_hands"] (spD K 2 l5))(Km:b7 P w K mg base "flow_of" 2 ["beats"] (spD K 1 w8))(Kj:b7 P w K mg base "word_of" 5 ["flow","hands"] (spD K 2 u7))(Ki:b7 P w K mg base "_law_back" 7 ["_law_beats_here","_law_hands"] (spD K 2 m8))(Kk:b7 P w K mg base "_law_run" 7 ["_law_flow","_law_hands"] (spD K 2 u8))(Kl:b7 P w K mg base "_law_own" 2 ["_law_feed_here"] (spD K 1 v7))(Kf:b7 P w K mg base "_law_lets_back" 7 ["_law_beats_here","_law_hands","_law_thing"] (spD K 3 d9))(Kg:b7 P w K mg base "_law_lets_run" 5 ["_law_flow","_law_hands","_law_thing"] (spD K 3 i4)):∃ts,Ss K (XL P w K mg base f dr A outer s H E).nox (nth (defBody Kn) 1) ts kN:=by obtain⟨o,a⟩:=nK T hr hu5 Ke Kh Km Kj Ki Kk Kl Kf Kg;obtain⟨p,b⟩:=lV T hr hu5 Ke Kh Km Kj Ki Kk Kl Kf Kg;obtain⟨q,c⟩:=oq T hr hu5 Ke Kh Km Kj Ki Kk Kl Kf Kg;obtain⟨r,d⟩:=oZ T hr hu5 Ke Kh Km Kj Ki Kk Kl Kf Kg;obtain⟨t,e⟩:=qg T hr hu5 Ke Kh Km Kj Ki Kk Kl Kf Kg;obtain⟨u,g⟩:=ql T hr hu5 Ke Kh Km Kj Ki Kk Kl Kf Kg<|d8 e<|d8 d<|d8 c<|d8 b<|i6 a;obtain⟨v,h⟩:=pk T hr hu5 Ke Kh Km Kj Ki Kk Kl Kf Kg;obtain⟨x,j⟩:=oM T hr hu5 Ke Kh Km Kj Ki Kk Kl Kf Kg;obtain⟨y,k⟩:=pF T hr hu5 Ke Kh Km Kj Ki Kk Kl Kf Kg;obtain⟨z,l⟩:=pO T hr hu5 Ke Kh Km Kj Ki Kk Kl Kf Kg;obtain⟨B,m⟩:=pU T hr hu5 Ke Kh Km Kj Ki Kk Kl Kf Kg;obtain⟨C,n⟩:=pS T hr hu5 Ke Kh Km Kj Ki Kk Kl Kf Kg;exact#v[_,X8 rfl (bP (c7 f8 j6) T.range) (P6 O9.nd)<|d8 n<|d8 m<|d8 l<|d8 k<|d8 j<|d8 h g]
def fX:DE->M Out:=(mRt<|sC<|.bool true)
def yK (T:Txt K mg)(hr:Room 7 (A.deeper<|PyProof.Rows.envOfC "law" (defScope Kn) s.heap.objs.size f dr))(hu5:(A.deeper<|PyProof.Rows.envOfC "law" (defScope Kn) s.heap.objs.size f dr).units+65<XZ)(Ke:b7 P w K mg base "_law_draw" 1 ["_law_feed_here","_law_many"] (spD K 2 A0))(Kh:b7 P w K mg base "_law_beats" 3 ["_law_feed_here","_law_hands"] (spD K 2 l5))(Km:b7 P w K mg base "flow_of" 2 ["beats"] (spD K 1 w8))(Kj:b7 P w K mg base "word_of" 5 ["flow","hands"] (spD K 2 u7))(Ki:b7 P w K mg base "_law_back" 7 ["_law_beats_here","_law_hands"] (spD K 2 m8))(Kk:b7 P w K mg base "_law_run" 7 ["_law_flow","_law_hands"] (spD K 2 u8))(Kl:b7 P w K mg base "_law_own" 2 ["_law_feed_here"] (spD K 1 v7))(Kf:b7 P w K mg base "_law_lets_back" 7 ["_law_beats_here","_law_hands","_law_thing"] (spD K 3 d9))(Kg:b7 P w K mg base "_law_lets_run" 5 ["_law_flow","_law_hands","_law_thing"] (spD K 3 i4)):∃ts,Ss K (XL P w K mg base f dr A outer s H E).nox (nth (defBody Kn) 2) ts fX:=by exact#v[_,(j7 aX)]
def mB:DE->M Out:=(mSq kN fX)
def EK {α:Type}(l) (d:α)(h:0<l.length):l=l.getD 0 d::l.drop 1:=by
 cases l with
 | nil=>simp at h
 | cons a r=>rfl
def spLaw (K:Qf):Sp:=λc H Q _=>∃(a:Xy) (b:List Int),c=[.ref a]/\SqL K H a (b.map V.int)/\b.length<=63/\V2 (tabsK Feeds.lam K) H/\∀d,Q (.bl true) d
def yu (hr:Room 7 (A.deeper<|PyProof.Rows.envOfC "law" (defScope Kn) s.heap.objs.size f dr))(CF:b7 P w K mg base "_law_feed" 1 ["_law_script"] (kO K)) :
  PS (XL P w K mg base f dr A outer s H E).nox ((defBody Kn).getD 0<|.Pass #v[0,0,0,0]) (aa (aQ (kO K) [] E0<|J8 (Z0 0) az)<|M6 1) :=
 M3 O9.nd rfl (by walk_at "v") (jI CF (hr.mono<|by decide) rfl<|A1 (pv 0) K5)
def PN (Fn:Fun K "law" "law" Kn f fd)(T:Txt K mg)(CF:b7 P w K mg base "_law_feed" 1 ["_law_script"] (kO K))(Ke:b7 P w K mg base "_law_draw" 1 ["_law_feed_here","_law_many"] (spD K 2 A0))(Kh:b7 P w K mg base "_law_beats" 3 ["_law_feed_here","_law_hands"] (spD K 2 l5))(Km:b7 P w K mg base "flow_of" 2 ["beats"] (spD K 1 w8))(Kj:b7 P w K mg base "word_of" 5 ["flow","hands"] (spD K 2 u7))(Ki:b7 P w K mg base "_law_back" 7 ["_law_beats_here","_law_hands"] (spD K 2 m8))(Kk:b7 P w K mg base "_law_run" 7 ["_law_flow","_law_hands"] (spD K 2 u8))(Kl:b7 P w K mg base "_law_own" 2 ["_law_feed_here"] (spD K 1 v7))(Kf:b7 P w K mg base "_law_lets_back" 7 ["_law_beats_here","_law_hands","_law_thing"] (spD K 3 d9))(Kg:b7 P w K mg base "_law_lets_run" 5 ["_law_flow","_law_hands","_law_thing"] (spD K 3 i4))
  (fin:∀ns,ns.length<=63->∃F',mB ([none,some .feed]++List.replicate (["_law_script","_law_feed_here","_law_k","_law_hands","_law_beats_here","_law_flow","_law_word","_law_ran","_law_back_here","_law_part","_law_paper","_law_due","_law_lets"].length-2) none) (qp ns)=some (.rt<|.bool true,F')):FnOk P w K mg base CX0 8 f fd ["_law_script"] (spLaw K):=by
 refine Fn.ok O9 (λM H Q E h=>?_) (λdr A outer s H M Q E C h=>?_)
 .obtain⟨a,ns,rfl,_⟩:=h;rfl
 .obtain⟨a,ns,rfl,S,hl,p,k⟩:=h;have u:(A.deeper<|PyProof.Rows.envOfC "law" (defScope Kn) s.heap.objs.size f dr).units+65<XZ:=by have:=C.un;lia
  obtain⟨r,m⟩:=xM (f:=f) (dr:=dr) (A:=A) (outer:=outer) (s:=s) (H:=H) (E:=E) T C u Ke Kh Km Kj Ki Kk Kl Kf Kg;obtain⟨q,l⟩:=yK (f:=f) (dr:=dr) (A:=A) (outer:=outer) (s:=s) (H:=H) (E:=E) T C u Ke Kh Km Kj Ki Kk Kl Kf Kg;obtain⟨F,I,O⟩:∃F,Sss K (XL P w K mg base f dr A outer s H E).nox ((defBody Kn).drop 1) F mB:=#v[_,(d8 m<|i6 l)];have L:=yu (P:=P) (w:=w) (K:=K) (mg:=mg) (base:=base) (f:=f) (dr:=dr) (A:=A) (outer:=outer) (s:=s) (H:=H) (E:=E) C CF;have n:=EK (defBody Kn) (.Pass #v[0,0,0,0]) (by decide +kernel);generalize List.drop 1 (defBody Kn)=R at I n;generalize (defBody Kn).getD 0 (XF.Pass { line:=0,col:=0,endLine:=0,endCol:=0 })=S0 at L n;have J:=D5 L I;rw[<-n]at J;refine#v[_,J,?_];refine#v[_,rfl,a,ns,rfl,S,hl,λd c D U s1=>?_];obtain⟨F',e⟩:=fin ns hl;have B:FAt K (some (d,c)) D (qp ns):=#v[U,p.congr λb y=>by
   obtain⟨o,e⟩:∃o,H b=some o:=by
    rcases y with y | ⟨X,e⟩
    .obtain⟨t,ht,rfl⟩:=Rt.1 y;obtain⟨N,e,_⟩:=p t ht;exact#v[_,e]
    .exact#v[_,e]
   rw[e];exact s1 b o e]
  refine O (some (d,c)) (n5 K<|some (d,c)) D _ (qp ns) _ D _ _ F' #v[#v[n5 K<|some (d,c),λ_ z=>z,λb y=>.inl y,#v[B,λ_ z=>z,B.bok,by simp[L2.W6],λi x g=>?_]],λ_ z=>z,Kp.refl,λi V b g=>?_,λi j V Y b g=>?_,λi c N b g=>?_] e (λv W _ _ G=>?_)
  .match i,g with
   | 0,g=>cases g
   | 1,g=>cases g;exact#v[.ref d,rfl,d,c,rfl,rfl]
   | i+2,g=>simp only[Ru,RC,TJ,Sk]at g;split at g <;> cases g
  .match i,g with
   | 0,g=>cases g
   | 1,g=>cases g
   | i+2,g=>simp only[Ru,RC,TJ,Sk]at g;split at g <;> cases g
  .match i,g with
   | 0,g=>cases g
   | 1,g=>cases g
   | i+2,g=>simp only[Ru,RC,TJ,Sk]at g;split at g <;> cases g
  .match i,g with
   | 0,g=>cases g
   | 1,g=>cases g
   | i+2,g=>simp only[Ru,RC,TJ,Sk]at g;split at g <;> cases g
  .simp only[b8]at G;subst G;exact k W
end
end
end K69
namespace K69
open PySem L2 L3 Bz
def xt:cY=c_added:=rfl
def BK:kQ=c_over:=rfl
def mP:bT=gm:=rfl
def nO:bz=fS:=rfl
def AY:N4=c_less:=rfl
abbrev Bw:=Kw<|Int×Int
abbrev bsD (l:List Bw):My:=.tuple<|l.map<|kwD cmD
section
variable {mi1:DE->M (List My)}{me:DE->M My}
def wb {β:Type}{y}{g}{Sh:DE->Prop}:∀(its:List β) E F (Q:List My×DE->FdS->Prop),Sh E ->
  (∀b∈its,∀E,Sh E->∃E1,bd1 (y b) E=some E1/\Sh E1/\∀F (Q:My->FdS->Prop),Q (g b) F->wp (me E1 F) Q)->(∀E1,Sh E1->Q (its.map g,E1) F)->wp (jV bd1 M4 me (its.map y) E F) Q
 | [],E,F,Q,hE,_,q=>d6.2<|q E hE
 | b::its,E,F,Q,hE,h,q=>by obtain⟨E1,e,f,a⟩:=h b QN E hE;rw[QL,jV,e,QX,d4];refine aq.2 ?_;rw[QH rfl,d4];refine a F _ ?_;rw[d4];exact wb its E1 F _ f (λb c=>h b<|QG _ c) λi d=>d6.2<|q i d
def kY {α β:Type}{x}{it:α->List β}{y}{g:α->β->My}{Sh:DE->Prop}(Si:α->DE->Prop):∀(rows:List α) E F (Q:List My->FdS->Prop),Sh E ->
  (∀a∈rows,∀E,Sh E->∃E1,bd (x a) E=some E1/\Si a E1/\∀F (Q:List My->FdS->Prop),Q ((it a).map y) F->wp (mi1 E1 F) Q) ->
  (∀a∈rows,∀b∈it a,∀E,Si a E->∃E1,bd1 (y b) E=some E1/\Si a E1/\∀F (Q:My->FdS->Prop),Q (g a b) F->wp (me E1 F) Q) ->
  (∀a E,Si a E->Sh E)->Q ((rows.map λa=>(it a).map<|g a).flatten) F->wp (dM bd M4 mi1 bd1 M4 me (rows.map x) E F) Q
 | [],E,F,Q,_,_,_,_,q=>d6.2 q
 | a::rows,E,F,Q,hE,h1,h2,h3,q=>by
  obtain⟨E1,e,i,h⟩:=h1 a QN E hE;rw[QL,dM,e,QX,d4];refine aq.2 ?_;rw[QH rfl,d4];refine h F _ ?_;rw[d4];refine wb (it a) E1 F _ i (h2 a QN) λf d=>?_
  rw[d4];refine kY Si rows f F _ (h3 a f d) (λa c=>h1 a<|QG _ c) (λa c=>h2 a<|QG _ c) h3<|d6.2 ?_;rw[QL,SY]at q;exact q
end
structure Be (l:List Bw):Prop where
 n1:1<=l.length
 n2:l.length<=4
 ok:∀p∈l,p.1.length<=2/\(∀c∈p.1,1<=c.2/\c.2<=3)/\1<=p.2/\p.2<=12
def wkL (l:List Bw):List (Int×Int):=(l.map λp=>p.1.map λc=>(c.2,p.2)).flatten
def w4 (l:List Bw):Int:=(l.map λp=>p.2).sum
def M7 (l:List Bw):Int:=(l.map λp=>O4 p.1*p.2).sum
def nQ (p) (l):wkL (p::l)=(p.1.map λc=>(c.2,p.2))++wkL l:=rfl
def qH :z∈wkL l↔∃p∈l,∃c∈p.1,z=(c.2,p.2):=by
 unfold wkL;simp only[List.mem_flatten,Rt];constructor
 .rintro ⟨_,⟨p,a,rfl⟩,d⟩;obtain⟨c,b,rfl⟩:=Rt.1 d;exact#v[p,a,c,b,rfl]
 .rintro ⟨p,a,c,b,rfl⟩;exact#v[_,#v[p,a,rfl],Rt.2 #v[c,b,rfl]]
theorem Ae:∀l,E7 (wkL l)=M7 l
 | []=>rfl
 | p::l=>by
  have a:=Ae l;unfold E7 M7 at a ⊢;rw[nQ,Sw,Xs,a,QL,Sj];congr 1;unfold O4;generalize p.1=b;generalize p.2=y;induction b with
  | nil=>simp
  | cons c b a=>simp only[QL,Sj]at a ⊢;rw[a,Int.add_mul]
theorem kH:∀{l},(∀p∈l,p.1.length<=2)->(wkL l).length<=2*l.length
 | [],_=>QP _
 | p::l,h=>by
  have b:=kH λq a=>h q<|QG _ a
  have:=h p QN;rw[nQ,RW,QI,QM];lia
section

def Be.len (h:Be l):(wkL l).length<=8:=by
 have:=kH λp a=>(h.ok p a).1
 have:=h.n2;lia
def Be.wk (h:Be l):∀z∈wkL l,(1<=z.1/\z.1<=3)/\1<=z.2/\z.2<=12:=λz a=>by obtain⟨p,b,c,d,rfl⟩:=qH.1 a;obtain⟨_,f,e⟩:=h.ok p b;exact#v[f c d,e]
theorem lz {a:Int}:∀{l:List Bw},(∀p∈l,a<=f p/\f p<=b)->a*l.length<=(l.map f).sum/\(l.map f).sum<=b*l.length
 | [],_=>by simp
 | p::l,h=>by
  obtain⟨e,d⟩:=lz λq c=>h q<|QG _ c
  have:=h p QN;rw[QL,Sj,QM];push_cast;rw[Xu,Xu];lia
def Be.tot (h:Be l):1<=w4 l/\w4 l<=48:=by
 have:=lz λp c=>(h.ok p c).2.2
 have e:=h.n1;have d:=h.n2;unfold w4;lia
def FT (h:b.length<=2)(hc:∀c∈b,1<=c.2/\c.2<=3):0<=O4 b/\O4 b<=6:=by
 have a:∀b,(∀c∈b,1<=c.2/\c.2<=3)->0<=O4 b/\O4 b<=3*b.length:=λb=>by
  induction b with
  | nil=>intro _;exact#v[TV _,TV _]
  | cons c b d =>
   intro hc;have:=d λc h=>hc c<|QG _ h
   have:=hc c QN;unfold O4 at *;rw[QL,Sj,QM];push_cast;lia
 have:=a b hc;lia
def Be.sb (h:Be l):∀p∈l,0<=O4 p.1/\O4 p.1<=6:=λp a=>FT (h.ok p a).1 (h.ok p a).2.1
end
def gwL (l:List Bw):Int:=if (wkL l).map (·.1)=[] then 0 else V1 ((wkL l).map (·.1))
def FG (h:z∈wkL l):z.1<=gwL l:=by have a:z.1∈(wkL l).map (·.1):=Rt.2 #v[z,h,rfl];unfold gwL;rw[QK<|List.ne_nil_of_mem a];exact dB a
def HE (h:Be l):0<=gwL l/\gwL l<=6:=by
 unfold gwL;split
 . simp[*]
 .rename_i a;obtain⟨z,b,e⟩:=Rt.1<|Z8 a;have:=(h.wk z b).1;rw[<-e];lia
def GS :gw [.list<|ns.map .int,.int 0]=some (.int<|if ns=[] then 0 else V1 ns):=by unfold gw;dsimp only;rw[dk,QX];split <;> rfl
def Ij (h:ns≠[]):xS [.list<|ns.map .int]=some (.int<|V1 ns):=by unfold xS;dsimp only;rw[dk,QX,QK h]
section
variable {Q:My->FdS->Prop}
def rS (h:Be l)(q:Q (.int<|gwL l) F):wp (B6 [.dat<|bsD l] F) Q:=by
 have hl:=h.len;walk_at "kb";refine A4.2<|ao.2<|c6.2 ?_;unfold uE;rw[d4];refine K6.2<|w9w rfl<|d5 X6 ?_;rw[d4];refine kY (it:=λp:Bw=>p.1) (y:=cmD) (g:=λ_ c=>.int c.2) (Sh:=λE=>∃i f b d,E=[i,f,b,d]) (λp E=>∃b d,E=[some<|.dat<|rwD cmD p.1,some<|.dat<|.int p.2,b,d]) l _ F _ #v[_,_,_,_,rfl] ?_ ?_ ?_ ?_
 .rintro a _ E ⟨i,f,b,d,rfl⟩;exact#v[_,rfl,#v[_,_,rfl],λF Q q=>K6.2<|w9g rfl<|d5 X6 q]
 .rintro a _ c _ E ⟨f,b,rfl⟩;exact#v[_,rfl,#v[_,_,rfl],λF Q q=>w9g rfl q]
 .rintro a E ⟨f,b,rfl⟩;exact#v[_,_,_,_,rfl]
 .have e:(l.map λp:Bw=>p.1.map λc:Int×Int=>My.int c.2).flatten=((wkL l).map (·.1)).map .int:=by
   unfold wkL;rw[List.map_flatten,List.map_flatten,Rq,Rq];congr 1;refine SN λp _=>?_
   simp
  rw[e,QH<|sz (by rw[QI,QI];lia)];exact d6.2<|c6.2<|i9.2<|h7.2<|d5 GS<|l7 q
end
section
variable {Q:My->FdS->Prop}
def Fv {o:My}(hE:E[0]? = some (some<|.dat<|bsD l))(hl:l.length<=100)(q:Q (.int<|w4 l) F):wp (sN ak (c8 (sLC (R1<|sW 0) 2 [] (P7 2<|u6 (bN 0)<|u6 (bN 1) Q6) M4<|sV 1) k8) E F) Q:=by
 refine ao.2 (c6.2<|aF.2<|K6.2<|C2.2<|E3 hE<|d5 X6 #v[sz (by rw[QI];lia),?_]);refine GV l _ _ (λp a F Q q=>w9g rfl q) ?_;have e:(l.map λp:Bw=>My.int p.2)=(l.map λp=>p.2).map .int:=by rw[Rq];rfl
 rw[e];exact h7.2<|d5 lG q
def Iw (hl:l.length<=100)(q:Q (.int<|w4 l) F):wp (V0 [.dat<|bsD l] F) Q:=by refine D6.2 ?_;exact A4.2<|Fv (o:=.none) rfl hl<|l7 q
end
def IG {t:Int}{n:Nat}(hn:0<n)(h:(t:Rat)=p*(n:Rat)):mkRat t n=p:=by
 have a:(n:Rat)≠0:=by exact_mod_cast (by lia)
 rw[TU,h,Xw,Rat.mul_assoc,Rat.mul_inv_cancel _ a,Rat.mul_one]
def xK (hd:0<d):(mkRat a d).den<=d/\(mkRat a d).num.natAbs<=a.natAbs:=by
 have c:=fV (i:=a) (j:=d ) (by lia);have e:=lL c (by lia);rw[RQ]at e;injection e with e
 injection e with f b
 injection b with b _
 injection f with f
 injection b with b
 have h:=c.lt;have g:=c.lb;rw[f]at h;rw[b]at g;lia
def mZ {a:Int}(hd:0<d):(a:Rat)=mkRat a d*(d:Rat):=by
 have b:(d:Rat)≠0:=by exact_mod_cast (by lia)
 rw[TU,UO b]
def CU {p:Rat}(h:p<=0):p.num<=0:=by have:=(Rat.le_iff p 0).1 h;simpa using this
def Dd {p:Rat}(h:0<p):0<p.num:=by have:=(Rat.lt_iff 0 p).1 h;simpa using this
structure Hh (h:Rat):Prop where
 den:h.den<=4
 num:h.num.natAbs<=200
def ht (hs:List Rat)(k:Nat):Rat:=hs.getD k 0
def ah (hs:List Rat)(k:Nat):Rat:=(0::hs).getD k 0
def sp (hs:List Rat)(k:Nat):Rat:=ht hs k-ah hs k
def gj (hs) (k):ah hs (k+1)=ht hs k:=rfl
def sT (hs):ah hs 0=0:=rfl
def IL (e:hs[k]? = some h):h=ht hs k:=by unfold ht;rw[Rl,e];rfl
def gR (h:k<hs.length):hs[k]? = some (ht hs k):=by rw[QT h];unfold ht;rw[Rl,QT h];rfl
theorem DJ (h:∀k,k<n->m<=sp hs k):∀k,k<n->((k+1:Nat):Rat)*m<=ht hs k
 | 0,hk=>by
  have:=h 0 hk;unfold sp at this;rw[sT]at this;have e:((0+1:Nat))*m=m:=by rw[show((0+1:Nat):Rat)=1 from rfl,Rat.one_mul]
  grind
 | k+1,hk=>by
  have a:=DJ h k (by lia);have:=h (k+1) hk;unfold sp at this;rw[gj]at this;have e:((k+1+1:Nat))=((k+1:Nat))+1:=by push_cast;rfl
  rw[e];grind
def SH (hs:List Rat)(ws:List (Int×Int)):Rat:=sumQ (ws.map λz=>(z.2:Rat)*ht hs (z.1-1).toNat)
def rZ {ws:List (Int×Int)}(h:ws[i]? = some z):SH hs (ws.take<|i+1)=SH hs (ws.take i)+(z.2:Rat)*ht hs (z.1-1).toNat:=by unfold SH;rw[List.map_take,List.map_take,dU (by rw[Rc,h];rfl)]
def sy {ws:List (Int×Int)}(h:ws[i]? = some z):E7 (ws.take<|i+1)=E7 (ws.take i)+z.1*z.2:=by unfold E7;rw[Ut,h,UN,Sw,Xs];simp
theorem Ds {ws:List (Int×Int)}(hw:∀z∈ws,(1<=z.1/\z.1<=hs.length)/\1<=z.2)(h:∀k,k<hs.length->m<=sp hs k):∀i,i<=ws.length->m*((E7 (ws.take i):Int):Rat)<=SH hs (ws.take i)
 | 0,_=>by
  show m*((0:Int))<=0;simp
 | i+1,hi=>by
  have d:=Ds hw h i (by lia);have e:=QT (show i<ws.length by lia);have b:=hw _ (SI<|show i<ws.length by lia);generalize ws[i]=z at e b;rw[rZ e,sy e];have g:=DJ h (z.1-1).toNat (by lia);have c:(((z.1-1).toNat+1:Nat):Rat)=((z.1:Int)):=by
   have:(((z.1-1).toNat+1:Nat))=z.1:=by lia
   rw[<-Te,this]
  rw[c]at g;have a:(0:Rat)<=(z.2):=by exact_mod_cast (by lia)
  have f:=Wz g a;push_cast;grind
section
variable {Q:My->FdS->Prop}{l:List Bw}
def kx (v):qd ((v:Int):Rat) = .tuple [.int v,.int 1]:=by unfold qd;rw[Ul,Tb];rfl
def zS {M}(hD:D≠0)(h1:D<2 ^ 3000)(h:∀p∈ps,Qb D M p)(hM:ps.length*M+M<2 ^ 1000)(q:Q (qd<|sumQ ps) F):wp (cY [.dat<|.list<|ps.map qd] F) Q:=by
 rw[xt];refine D6.2<|w9q<|i9.2 #v[m5 rfl,j0 ?_];refine w6.2<|T7.2<|K6.2<|w9g rfl<|d5 cA ?_;refine R9 (λi E g=>g=F/\∃o,E=[some<|.dat<|.list<|ps.map qd,some<|.dat<|qd<|sumQ<|ps.take i,o]) _ 0 _ F #v[rfl,none,rfl] ?_ ?_
 .rintro i d b E f ⟨rfl,o,rfl⟩;rw[Rx] at *;rw[Rc]at b;obtain⟨p,a,rfl⟩:=Re.1 b;have j:=(QR.1 a).1;have e:=lp hD h i (by lia);have b2:=h p<|RA a;have c:i*M<=ps.length*M:=TF _ (by lia);refine#v[_,rfl,N6.2<|i7.2<|w9v rfl<|w9v rfl<|j3.2 ?_];refine xb (e.sz hD h1<|by omega ) (b2.sz hD h1<|by lia) #v[m5 rfl,_,rfl,rfl,some<|.dat<|qd p,?_];rw[dU a];rfl
 .rintro E f ⟨rfl,o,rfl⟩;rw[Rx,QI,SJ];exact A4.2<|w9g rfl<|l7 q
def AN :SH hs (ws++[z])=SH hs ws+(z.2:Rat)*ht hs (z.1-1).toNat:=by unfold SH;rw[Sw,QL,RK,jK]
def qN (h:l[i]? = some p):wkL (l.take<|i+1)=wkL (l.take i)++(p.1.map λc=>(c.2,p.2)):=by unfold wkL;rw[Ut,h,UN,Sw,List.flatten_append];simp
structure Dz l hs n S (ds:List (Int×Int)):Prop where
 nd:(ds.map (·.1)).Nodup
 len:ds.length<=n
 ok:∀p∈ds,(∃z∈wkL l,z.1=p.1)/\0<=p.2/\p.2<=12*n
 sum:sZ (λw=>ht hs (w-1).toNat) ds=S
def Dz.put (h:Dz l hs n S ds)(hz:z∈wkL l)(h2:1<=z.2/\z.2<=12):Dz l hs (n+1) (S+(z.2:Rat)*ht hs (z.1-1).toNat) (cH ds z.1<|(Y2 ds z.1).getD 0+z.2):=by
 have hg:0<=(Y2 ds z.1).getD 0/\(Y2 ds z.1).getD 0<=12*n:=by
  cases e:Y2 ds z.1 with
  | none=>exact#v[TV _,by show(0:Int)<=12*n;lia]
  | some v=>exact(h.ok _<|yY e).2
 refine#v[uU h.nd,QZ (yS _ _ _) (by have:=h.len;simp[*] ),?_,?_]
 .refine zQ (λp d=>?_) #v[#v[z,hz,rfl],?_,?_]
  .obtain⟨a,b,c⟩:=h.ok p d;exact#v[a,b,by push_cast;lia]
  .omega
  .push_cast;lia
 .rw[xV _ h.nd,h.sum]
def JS {M} (H:Be l)(hw:∀z∈wkL l,z.1<=hs.length)(hn:hs.length<=1000)(hD:D≠0)(h1:D<2 ^ 2900)(hM:M<2 ^ 900)(hb:∀z∈wkL l,Qb D M<|ht hs (z.1-1).toNat)
  (q:Q (qd<|SH hs (wkL l) / ((w4 l:Int):Rat)) F):wp (K4 [.dat<|bsD l,.dat<|.tuple<|hs.map qd] F) Q:=by
 have ad:=H.len;have S:=H.tot;have ac:=H.n2;have O:D<2 ^ 3000:=QO h1 (Rf (by decide)<|by decide);have D4:D<2 ^ 4000:=QO h1 (Rf (by decide)<|by decide);have M1:1000*M<2 ^ 1000:=by
  have:2 ^ 1000=2 ^ 100*2 ^ 900:=by rw[<-TY]
  rw[this];exact QO (Nat.mul_lt_mul_of_pos_left hM<|by decide) (TF _<|by decide +kernel)
 unfold K4;rw[nO,BK];walk_at "kb";refine w6.2<|ym (m5 rfl)<|j0 ?_;refine w6.2<|T7.2<|K6.2<|w9g rfl<|d5 X6 ?_;refine R9 (λj E N=>N=F/\∃(a:List (Int×Int)) (G C s r:Option DV),Dz l hs (wkL<|l.take j).length (SH hs<|wkL<|l.take j) a/\E=[some<|.dat<|bsD l,some<|.dat<|.tuple<|hs.map qd,some<|.dic true 9<|a.map zD,G,C,s,r,none]) _ 0 _ F #v[rfl,[],none,none,none,none,#v[WB,QP _,λp b=>(nomatch b),rfl],rfl] ?_ ?_
 .rintro j d A E B ⟨rfl,a,G,C,s,r,h,rfl⟩;rw[Rx] at *;rw[Rc]at A;obtain⟨p,b,rfl⟩:=Re.1 A;have y:=RA b;obtain⟨p2,pc,v⟩:=H.ok p y;have T:(wkL<|l.take j).length+p.1.length<=8:=by
   have e:=qN b;have U:(wkL<|l.take<|j+1).length<=8:=by
    have:=kH (l:=l.take<|j+1) λq hq=>(H.ok q<|Ws hq).1
    rw[VW]at this;lia
   rw[e,RW,QI]at U;exact U
  refine#v[_,rfl,T7.2<|K6.2<|w9g rfl<|d5 X6 ?_];refine R9 (λk E N=>N=B/\∃(a:List (Int×Int)) (s r:Option DV),Dz l hs ((wkL<|l.take j).length+k) (SH hs<|wkL (l.take j)++((p.1.take k).map λc=>(c.2,p.2))) a/\E=[some<|.dat<|bsD l,some<|.dat<|.tuple<|hs.map qd,some<|.dic true 9<|a.map zD,some<|.dat<|rwD cmD p.1,some<|.dat<|.int p.2,s,r,none]) _ 0 _ B #v[rfl,a,_,_,by simpa using h,rfl] ?_ ?_
  .rintro k d A E F2 ⟨rfl,a,s,r,h,rfl⟩;rw[Rx] at *;rw[Rc]at A;obtain⟨c,L,rfl⟩:=Re.1 A;have hk:=(QR.1 L).1;have K:=RA L;have J:=qH.2 #v[p,y,c,K,rfl];have W:=h.put J v;have I:=h.len;have es:SH hs (wkL (l.take j)++((p.1.take<|k+1).map λc=>(c.2,p.2)))=SH hs (wkL (l.take j)++((p.1.take k).map λc=>(c.2,p.2)))+(p.2)*ht hs (c.2-1).toNat:=by rw[Ut,L,UN,Sw,<-Ur];exact AN
   refine#v[[some<|.dat<|bsD l,some<|.dat<|.tuple<|hs.map qd,some<|.dic true 9<|a.map zD,some<|.dat<|rwD cmD p.1,some<|.dat<|.int p.2,some<|.dat<|.int c.1,some<|.dat<|.int c.2,none],rfl,?_];refine Gv rfl<|n9.2<|CY rfl<|w9g rfl<|i9.2 #v[c.2,rfl,?_];have eg:(igD (a.map zD) c.2).getD (.int 0) = .int ((Y2 a c.2).getD 0):=by rw[yq];cases Y2 a c.2 <;> rfl
   rw[eg];refine w9w rfl (d5 E8<|w9g rfl #v[c.2,rfl,by rw[QI];lia,?_]);rw[HV];exact#v[_,rfl,rfl,_,_,_,by rw[es];exact W,rfl]
  .rintro E F2 ⟨rfl,a,s,r,h,rfl⟩;rw[Rx,QI,SJ]at h;exact#v[_,rfl,rfl,a,_,_,_,_,by rw[qN b,RW,QI];exact h,rfl]
 rintro E B ⟨rfl,a,G,C,s,r,h,rfl⟩;rw[Rx,QI,SJ]at h;have I:=h.len;refine j0<|w9q<|aF.2<|AZ rfl ?_;have ei:((a.map zD).map λp=>My.tuple [p.1,p.2])=a.map pr:=by rw[Rq];rfl
 rw[ei];have g:∀n:Nat,n<=100000->n<2 ^ 900:=λn hn=>Ra hn (QO (show 100000<2 ^ 20 by decide)<|Rf (by decide)<|by decide)
 have t:∀p∈a,Qb 1 96 ((p.2:Int):Rat):=λp b=>by have:=(h.ok p b).2;refine#v[by rw[Tb];exact Wu _,?_];rw[Ul,Tb];lia
 have u:∀p∈a,Qb D M (ht hs (p.1-1).toNat):=λp b=>by obtain⟨⟨z,m,w⟩,_⟩:=h.ok p b;rw[<-w];exact hb z m
 refine#v[sz (by rw[QI];lia),du (f:=λp=>qd<|(p.2:Rat)*ht hs (p.1-1).toNat) a none none B (λp b F Q q=>?_) ?_]
 .obtain⟨⟨z,m,w⟩,_⟩:=h.ok p b;have Z:=H.wk z m;have ab:=hw z m;obtain⟨j,V⟩:∃j:Nat,p.1-1=(j:Int):=#v[(p.1-1).toNat,by lia];have R:=u p b;rw[V,RQ]at q R;refine w9l<|A6.2<|w9c rfl<|c6.2<|i9.2<|h7.2 #v[n6 rfl,?_];refine A8.2<|w9s rfl<|w9s rfl<|i9.2<|d5 X5 ?_;rw[V];refine d5 (km (by rw[Rc,gR<|by lia];rfl))<|j3.2 ?_;rw[<-kx];exact xo ((t p b).sz (by decide) (QO (show 1<2 ^ 1 by decide)<|Rf (by decide)<|by decide)<|QO (g 96<|by decide)<|Rf (by decide)<|by decide) (R.sz hD O<|QO hM<|Rf (by decide)<|by decide) q
 have el:(a.map λp=>qd<|(p.2)*ht hs (p.1-1).toNat)=(a.map λp=>(p.2)*ht hs (p.1-1).toNat).map qd:=by rw[Rq];rfl
 rw[el];refine#v[m5 rfl,j0 ?_];have i:∀x∈a.map λp=>(p.2:Rat)*ht hs (p.1-1).toNat,Qb (1*D) (96*M) x:=λx hx=>by obtain⟨p,b,rfl⟩:=Rt.1 hx;exact(t p b).mul (u p b) (by decide) hD
 rw[Xv]at i;have Y:(a.map λp=>(p.2)*ht hs (p.1-1).toNat).length<=8:=by rw[QI];lia
 have X:(a.map λp=>(p.2)*ht hs (p.1-1).toNat).length*(96*M)+96*M<2 ^ 1000:=by have:=TF (96*M) Y;omega
 refine A4.2<|w9l<|i7.2<|w9v rfl<|j3.2 ?_;refine zS hD O i X<|A8.2<|A6.2<|c6.2<|i7.2<|w9v rfl<|j3.2 ?_;refine Iw (by lia)<|c6.2<|i9.2<|h7.2 #v[n6 rfl,j3.2 ?_];have o:sumQ (a.map λp=>(p.2:Rat)*ht hs (p.1-1).toNat)=SH hs (wkL l):=h.sum;have P:=lp hD i _<|QP _;rw[SJ,o]at P;rw[o,<-kx];have hT:(0:Rat)<((w4 l:Int)):=by exact_mod_cast (by lia)
 refine EL (P.sz hD O<|by lia) #v[?_,?_] hT<|l7 q
 .rw[Ul];exact QO (g _<|by lia) (Rf (by decide)<|by decide)
 .rw[Tb];exact QO (g _<|by simp[*] ) (Rf (by decide)<|by decide)
end
structure Hg (h:Rat):Prop where
 den:h.den<=2 ^ 200
 num:h.num.natAbs<=2 ^ 200
abbrev hsD (hs:List Rat):My:=.tuple<|hs.map qd
section

def GW (a b):mkRat (a.num*((b.den:Nat):Int)-b.num*((a.den:Nat):Int)) (a.den*b.den)=a-b:=by rw[Rat.sub_def,TZ]
def Hg.zero:Hg 0:=#v[Nat.one_le_two_pow,Sb _]
def Gq (ha:Hg a)(hb:Hg b):(a-b).den<=2 ^ 400/\(a-b).num.natAbs<=2 ^ 401:=by
 have h:=xK (a:=a.num*((b.den:Nat))-b.num*((a.den:Nat)) )<|WI a.den_pos b.den_pos;rw[GW]at h;have e:2 ^ 200*2 ^ 200=2 ^ 400:=by rw[<-TY]
 have i:2 ^ 401=2*2 ^ 400:=by rw[show 401=1+400 from rfl,TY]
 have g:=TR ha.den hb.den;have f:(a.num*((b.den:Nat)) ).natAbs<=2 ^ 200*2 ^ 200:=by rw[UW];exact TR ha.num hb.den
 have c:(b.num*((a.den:Nat)) ).natAbs<=2 ^ 200*2 ^ 200:=by rw[UW];exact TR hb.num ha.den
 rw[e]at g f c;rw[i];generalize 2 ^ 400=z at *;lia
def qQ (hh:∀h∈hs,Hg h)(hk:k<=hs.length):Hg (ah hs k):=by
 cases k with
 | zero=>exact Hg.zero
 | succ k =>rw[gj];exact hh _ (RA<|gR<|by lia)
def qK (hh:∀h∈hs,Hg h)(hk:k<hs.length):Hg (ht hs k):=hh _<|RA<|gR hk
end
def Gh:S5=T2:=rfl
def Cq:L5=L6:=rfl
def nY:K1=R6:=rfl
def Gx:J0=J3:=rfl
def sP {body:DE->M Out}{Q:Out->FdS->Prop}(I:Nat->DE->FdS->Prop):∀items n E F,I n E F ->
  (∀i d,items[i]? = some d->∀E F,I (n+i) E F->∃E1,bd d E=some E1/\wp (body E1 F) λo F'=>(∃E2,o = .nx E2/\I (n+i+1) E2 F')\/∃v,o = .rt v/\Q (.rt v) F')->(∀E F,I (n+items.length) E F->Q (.nx E) F)->wp (O3 bd body items E F) Q
 | [],n,E,F,h,_,hq=>d6.2<|hq E F h
 | d::r,n,E,F,h,st,hq=>by
  obtain⟨E1,g,f⟩:=st 0 d rfl E F h;rw[O3,g,QX,d4];refine j8 f λo j a=>?_
  rcases a with ⟨E2,c,a⟩ | ⟨v,c,a⟩
  .subst c;refine sP I r (n+1) E2 j a (λi d e E F b=>?_) (λE F b=>hq E F (by rw[QM];rw[show n+(r.length+1)=n+1+r.length by lia];exact b));have:=st (i+1) d (by simpa using e) E F (by rw[show n+(i+1)=n+1+i by lia];exact b);rw[show n+(i+1)+1=n+1+i+1 by lia]at this;exact this
  .subst c;exact d6.2 a
def xl {g:List DV->M My}{F:FdS}{Q:Out->FdS->Prop}
  (q:wp (ms E F) λxs F1=>wp (g xs F1) λd F2=>(∃z E1,W4 d=some z/\hd z.1 z.2 E=some E1/\Q (.nx E1) F2)\/(W4 d=none/\∃E1,bN fi (.tuple [.str told,d]) E=some E1/\Q (.nx E1) F2)):wp (vL fi told g ms hd E F) Q:=by
 unfold vL;rw[d4];refine j8 q λxs F1 h=>?_
 rw[d4];refine j8 h λd F2 h=>?_
 rcases h with ⟨z,E1,b,a,h⟩ | ⟨b,E1,a,h⟩
 .rw[b];dsimp only;rw[a];exact d6.2 h
 .rw[b];rw[a];exact d6.2 h
def af {ms:DE->M (List My)}{F:FdS}{Q:Out->FdS->Prop}(q:wp (ms E F) λds F1=>ds.length=(psT nm).length/\Q (.rt<|bZ nm ds) F1):wp (O5 nm ms E F) Q:=by
 unfold O5;rw[d4];refine j8 q λds F1 h=>?_
 rw[QH h.1];exact d6.2 h.2
section
variable {Q:My->FdS->Prop}
def M8:My->Bool
 | .tuple [.int a,.int b]=>decide (1<=b)&&decide (Int.gcd a b=1)
 | _=>false
def gS :fG 2 d=true->∃a b,d = .tuple [a,b]:=λh=>by
 cases d with
 | tuple c =>
  simp only[fG]at h;match c,h with
  | [a,b],_=>exact#v[a,b,rfl]
 | _=>simp[fG]at h
def no2 (h:fG 2 d=false):M8 d=false:=by
 cases d with
 | tuple c =>
  match c,h with
  | [a,b],h=>simp[fG]at h
  | [],h=>rfl
  | [_],h=>simp[M8]
  | _::_::_::_,h=>simp[M8]
 | _=>rfl
def mI (h:isI a=false\/BV 1 b=false):M8 (.tuple [a,b])=false:=by
 cases a with
 | int i =>
  cases b with
  | int j =>
   rcases h with h | h
   .simp[isI]at h
   .simp only[BV]at h;simp only[M8,h,WA]
  | _=>rfl
 | _=>rfl
def HL :eqD false (.int (z:Nat)) (.int 1)=some (.bool<|decide (z=1)):=by
 rw[uW];have:((z:Int)=1)↔z=1:=by lia
 simp only[this]
def qD (h:scs n d)(q:Q (.bool<|M8 d) F):wp (C7 [.dat d] F) Q:=by
 unfold C7;rw[nY,Gh,Cq,Gx];walk_at "go";refine qV h ?_;cases e3:fG 2 d with
 | false =>rw[no2 e3]at q;refine d5 rfl<|K7 rfl ?_;walk_at "go";exact q
 | true =>
  obtain⟨a,b,rfl⟩:=gS e3;have f:scs n a/\scs n b:=by simpa [scs,jc] using h
  refine d5 rfl<|v8 rfl ?_;walk_at "go";refine Dr f.1 ?_;refine d5 rfl (L9 (λe=>?_)<|λe=>?_)
  .walk_at "go";refine FR f.2 ?_;refine d5 rfl (L9 (λc=>?_)<|λc=>?_)
   .walk_at "go";cases a with
    | int i =>
     cases b with
     | int j =>refine Dy ?_;refine i9.2<|d5 HL<|l7 ?_;have c:decide (1<=j)=true:=c;simp only[M8,c]at q;exact q
     | _=>simp[BV]at c
    | _=>simp[isI]at e
   .rw[mI<|.inr c]at q;walk_at "go";exact q
  .rw[mI<|.inl e]at q;walk_at "go";exact q
def mn (h:M8 d=true):∃a b,d = .tuple [.int a,.int b]/\1<=b/\Int.gcd a b=1:=by
 unfold M8 at h;split at h
 .simp only[TL,SZ]at h;exact#v[_,_,rfl,h.1,h.2]
 .cases h
def yt (h:scs n d):isT (tyD d) "tuple" = (match d with | .tuple _=>true | _=>false):=by
 cases d with
 | int i=>exact fq
 | bool i=>exact dc
 | none=>exact ag
 | str i=>exact fF
 | tuple i=>exact cf
 | list i=>exact cW
 | dict i=>exact absurd h (by simp[scs])
def CW (h:M8 d=true):∃p,d=qd p:=by obtain⟨a,b,rfl,e,hg⟩:=mn h;refine#v[mkRat a b.toNat,?_];have c:=fV (i:=a) (j:=b) (by lia);rw[hg]at c;simp only[Int.natCast_one,Int.ediv_one]at c;exact lL c (by lia)
def qS (p):M8 (qd p)=true:=by unfold qd M8;have b:=p.den_pos;have a:Int.gcd p.num ((p.den:Nat))=1:=p.reduced;simp only[a,Vf,Bool.and_true];exact Rg (by lia)
end
def uY {ds:List My}:zi [.list<|ds.map λd=>.bool<|f d]=some (.bool<|ds.all f):=by
 have e:bL (ds.map λd=>.bool<|f d)=some (ds.map f):=by
  induction ds with
  | nil=>rfl
  | cons d r a=>simp only[QL,bL,a,UJ]
 simp only[zi,e];refine Sn (λb=>some<|My.bool b) ?_;simp[Function.comp_def]
def Bb (h:scs n (.tuple ds)):∀d∈ds,scs n d:=aL.1 (by simpa [scs] using h)
def FK:My->Bool
 | .tuple _=>true
 | _=>false
def Bq (h:scs n d):isT (tyD d) "tuple" = FK d:=by rw[yt h];cases d <;> rfl
def JR :hU [.int 1,.int x]=some (.int<|max 1 x):=by
 show some (My.int<|if x > 1 then x else 1)=_;congr 2;by_cases h:x > 1
 .rw[QH h];lia
 .rw[QK h];lia
def shB (l:List Bw):My->Bool
 | .tuple [a,.tuple hs]=>M8 a&&(decide (max 1 (gwL l)<=(hs.length:Int))&&hs.all M8)
 | _=>false
def CI (h:fG 2 d=false):shB l d=false:=by
 unfold shB;split
 .simp[fG]at h
 .rfl
def GZ (h:FK b=false):shB l (.tuple [a,b])=false:=by cases b <;> first | rfl | cases h
section
variable {Q:My->FdS->Prop}
def zM (H:Be l)(h:scs n d)(hl:∀a hs,d = .tuple [a,.tuple hs]->hs.length<=1000)(q:Q (.bool<|shB l d) F):wp (J6 [.dat<|bsD l,.dat d] F) Q:=by
 unfold J6;rw[nY];walk_at "go";refine qV h ?_;cases e3:fG 2 d with
 | false =>rw[CI e3]at q;refine d5 rfl<|K7 rfl ?_;walk_at "go";exact q
 | true =>
  obtain⟨a,b,rfl⟩:=gS e3;have hs:scs n a/\scs n b:=by simpa [scs,jc] using h
  refine d5 rfl<|v8 rfl ?_;walk_at "go";refine qD hs.1 ?_;cases ea:M8 a with
  | false =>
   have j:shB l (.tuple [a,b])=false:=by cases b <;> first | rfl | simp only[shB,ea,WA]
   rw[j]at q;refine d5 rfl<|K7 rfl ?_;walk_at "go";exact q
  | true =>
   refine d5 rfl<|v8 rfl ?_;walk_at "go";rw[Bq hs.2];cases et:FK b with
   | false =>rw[GZ et]at q;refine K7 rfl ?_;walk_at "go";exact q
   | true =>
    obtain⟨c,rfl⟩:∃c,b = .tuple c:=by cases b <;> first | exact#v[_,rfl] | cases et
    have k:=hl a c rfl;refine v8 rfl<|L0.2<|j0<|A4.2<|zJ.2 ?_;refine n9.2<|ao.2<|c6.2<|w9s rfl<|i9.2<|d5 rfl<|h7.2<|d5 Fh<|ao.2<|c6.2<|i9.2<|c6.2<|i7.2<|w9v rfl<|j3.2 ?_;refine rS H (h7.2<|d5 JR<|d5 Im<|d5 rfl<|L9 (λe=>?_)<|λe=>?_)
    .refine ao.2 (c6.2<|aF.2<|K6.2<|w9s rfl<|i9.2<|d5 rfl<|d5 X6 #v[sz (by lia),?_]);refine xY (f:=λd=>.bool<|M8 d) c none (λd i F Q g=>?_) ?_
     .exact i7.2<|w9v rfl<|j3.2<|qD (Bb hs.2 d i) g
     .refine h7.2<|d5 uY<|l7 ?_;simp only[shB,ea,e]at q;exact q
    .refine l7 ?_;simp only[shB,ea,e]at q;exact q
end
def JO (h:xs.length+ys.length<=100000):Q4 (.tuple xs) (.tuple ys)=some (.tuple<|xs++ys):=QH<|sz h
def GL {b:DE->M My}{F:FdS}{Q:List My->FdS->Prop}(h:wp (a E F) λx F1=>wp (b E F1) λy F2=>∃xs ys,x = .tuple xs/\y = .tuple ys/\Q (kB xs ys) F2):wp (tI a b E F) Q:=by
 unfold tI;rw[d4];refine j8 h λx F1 h=>?_
 rw[d4];refine j8 h λy F2 h=>?_
 obtain⟨xs,ys,rfl,rfl,q⟩:=h;exact d6.2 q
theorem mq {α:Type}{x y:α->My}{me:DE->M My}{f}{rest:DE}{Q:List My->FdS->Prop}:∀(ps:List α) o o' F,(∀p∈ps,∀F (Q:My->FdS->Prop),Q (f p) F->wp (me (some (.dat<|x p)::some (.dat<|y p)::rest) F) Q)->Q (ps.map f) F->wp (T5 (P7 2<|u6 (bN 0)<|u6 (bN 1) Q6) M4 me (ps.map λa=>.tuple [x a,y a]) (o::o'::rest) F) Q
 | [],o,o',F,_,q=>d6.2 q
 | p::ps,o,o',F,h,q=>by rw[QL,T5];have e:P7 2 (u6 (bN 0)<|u6 (bN 1) Q6) (.tuple [x p,y p]) (o::o'::rest)=some (some (.dat<|x p)::some (.dat<|y p)::rest):=rfl;rw[e,QX,d4];refine aq.2 ?_;rw[QH rfl,d4];refine h p QN F _ ?_;rw[d4];exact mq ps _ _ F (λp b=>h p<|QG _ b)<|d6.2 q
def EX (hs):kB (qd 0::hs.map qd) (hs.map qd)=(List.range hs.length).map λk=>.tuple [qd<|ah hs k,qd<|ht hs k]:=by
 unfold kB;refine List.ext_getElem (by simp) λi f c=>?_
 have b:i<hs.length:=by simpa using c
 have e:ht hs i=hs[i]:=by have:=gR b;rw[QT b]at this;exact(QU this).symm
 have d:(qd 0::hs.map qd)[i]'(by simp;lia)=qd (ah hs i):=by
  cases i with
  | zero=>rfl
  | succ j =>
   have a:j<hs.length:=by lia
   have:=gR a;rw[QT a]at this;simp only[List.getElem_cons_succ,TN];exact Sn qd<|QU this
 simp only[List.getElem_zipWith,TN,Vq,e,d]
def Hg.sz (H:Hg h):Sz h:=#v[Ra H.num<|RH (by decide)<|by decide,Ra H.den<|RH (by decide)<|by decide]
def rP (hh:∀h∈hs,Hg h)(hk:k<hs.length):Sz (sp hs k):=by have:=Gq (qK hh hk)<|qQ hh<|RJ hk;exact#v[Ra this.2<|RH (by decide)<|by decide,Ra this.1<|RH (by decide)<|by decide]
def spL (hs:List Rat):List My:=(List.range hs.length).map λk=>qd<|sp hs k
section
variable {Q:My->FdS->Prop}
def Az (hh:∀h∈hs,Hg h)(hn:hs.length<=1000)(q:Q (.list<|spL hs) F):wp (V3 [.dat<|hsD hs] F) Q:=by unfold V3;rw[mP];refine D6.2<|A4.2<|aF.2<|GL ?_;refine n9.2 (A6.2<|c6.2<|i9.2<|h7.2 #v[n6 rfl,w9w rfl<|d5 (JO (by simp;lia))<|w9g rfl #v[_,_,rfl,rfl,?_]]);rw[show([.tuple [.int 0,.int 1]]++hs.map qd)=qd 0::hs.map qd from rfl,EX];refine#v[sz (by simp;lia),mq _ none none F (λk c F Q b=>?_)<|l7 q];have a:=Vx.1 c;exact i7.2<|w9v rfl<|w9v rfl<|j3.2<|rH (qK hh a).sz (qQ hh<|RJ a).sz b
def fZ (hp:Sz p)(hq:Sz q)(k:Q (.bool<|decide (p<q)) F):wp (N4 [.dat<|qd p,.dat<|qd q] F) Q:=by refine D6.2<|A4.2<|n9.2<|n9.2<|w9s rfl<|i9.2<|d5 ix0<|w9s rfl<|i9.2<|d5 ix1<|d5 (Sz.mul1 hp hq) ?_;refine n9.2<|w9s rfl<|i9.2<|d5 ix0<|w9s rfl<|i9.2<|d5 ix1<|d5 (Sz.mul1 hq hp)<|d5 Jh<|l7 ?_;rw[decide_eq_decide.2 (Rat.lt_iff p q).symm];exact k
end
section
variable {Q:My->FdS->Prop}
def wR (hk:k<hs.length):(spL hs)[k]? = some (qd<|sp hs k):=by unfold spL;rw[Rc,Tc hk];rfl
def yT (h:(spL hs)[k]? = some d):k<hs.length/\d=qd (sp hs k):=by
 have a:k<hs.length:=by have:=(QR.1 h).1;simpa [spL] using this
 rw[wR a]at h;exact#v[a,(QU h).symm]
def CJ (hh:∀h∈hs,Hg h)(hn1:1<=hs.length)(hn:hs.length<=1000)(q:∀m,(∃k,k<hs.length/\m=sp hs k)->(∀k,k<hs.length->m<=sp hs k)->Q (qd m) F):wp (cX [.dat<|.list<|spL hs] F) Q:=by
 have hl:(spL hs).length=hs.length:=by simp[spL]
 have o:ixD (.list<|spL hs) (.int 0)=some (qd<|sp hs 0):=by rw[Iu];exact km (wR<|by lia)
 walk_at "kb";refine w9q<|w9s rfl<|i9.2<|d5 o #v[m5 rfl,j0 ?_];refine w6.2<|T7.2<|K6.2<|w9g rfl<|d5 cA ?_;refine R9 (λi E r=>r=F/\∃m,∃c,E=[some<|.dat<|.list<|spL hs,some<|.dat<|qd m,c]/\(∃k,k<hs.length/\m=sp hs k)/\∀k,k<i->m<=sp hs k) _ 0 _ F #v[rfl,_,none,rfl,#v[0,by lia,rfl],λk a=>absurd a<|by lia] ?_ ?_
 .rintro i d n E p ⟨rfl,m,c,rfl,f,a⟩;rw[Rx] at *;obtain⟨l,rfl⟩:=yT n;obtain⟨j,g,rfl⟩:=f;refine#v[_,rfl,?_];refine U1.2<|eG.2<|i7.2<|w9v rfl<|w9v rfl<|j3.2 ?_;refine fZ (rP hh l) (rP hh g) (d5 rfl<|L9 (λe=>?_)<|λe=>?_)
  .have e:=Rh e;refine N6.2 (w9g rfl #v[m5 rfl,_,rfl,rfl,sp hs i,_,rfl,#v[i,l,rfl],λk h=>?_]);rcases UU k i with b | b
   .exact Rat.le_trans (Xp e)<|a k b
   .rw[show k=i by lia];exact Rat.le_refl
  .have e:=RX e;refine L0.2 #v[_,rfl,rfl,sp hs j,_,rfl,#v[j,g,rfl],λk h=>?_];rcases UU k i with b | b
   .exact a k b
   .rw[show k=i by lia];exact VB.1 e
 .rintro E p ⟨rfl,m,c,rfl,f,a⟩;rw[Rx,hl]at a;exact j0<|A4.2<|w9g rfl<|l7<|q m f a
end
def BP:iR=ip:=rfl
def rC:Sz 0:=Hg.zero.sz
section
variable {Q:My->FdS->Prop}
def EO (H:Be l)(hd:scs n (.tuple [qd p,hsD hs]))(hsh:shB l (.tuple [qd p,hsD hs])=true)(hn1:1<=hs.length)(hn:hs.length<=1000)(hp:Sz p)(hh:∀z∈hs,Hg z)
  (hmh:∀F (Q:My->FdS->Prop),Q (qd<|SH hs (wkL l) / ((w4 l:Int):Rat)) F->wp (K4 [.dat<|bsD l,.dat<|hsD hs] F) Q)
  (hS:Sz (SH hs (wkL l) / ((w4 l:Int):Rat))) (hS2:Sz (SH hs (wkL l) / ((w4 l:Int):Rat)+p)) (hk0:Sz ((h:Nat):Rat)) (hkm:∀k,k<hs.length->Sz (((h:Nat):Rat)*sp hs k))
  (q1:p<=0->Q (bZ "NoPaper" [.str "drop",.int (-1)]) F)
  (q2:0<p->∀k,k<hs.length->sp hs k<=0->(∀j,j<k->0<sp hs j)->Q (bZ "NoPaper" [.str "step",.int (k:Nat)]) F)
  (q3:0<p->(∀k,k<hs.length->0<sp hs k)->∀m,(∃k,k<hs.length/\m=sp hs k)->(∀k,k<hs.length->m<=sp hs k)->((h:Nat):Rat)*m<SH hs (wkL l) / ((w4 l:Int):Rat)+p->Q (bZ "NoPaper" [.str "fall",.int (-1)]) F)
  (q4:0<p->(∀k,k<hs.length->0<sp hs k)->∀m,(∃k,k<hs.length/\m=sp hs k)->(∀k,k<hs.length->m<=sp hs k)->¬((h:Nat):Rat)*m<SH hs (wkL l) / ((w4 l:Int):Rat)+p->Q (.bool true) F) :
  wp (KD [.dat<|bsD l,.dat<|.int (h:Nat),.dat<|.tuple [qd p,hsD hs]] F) Q:=by
 unfold KD;rw[nO,BP];walk_at "kb";refine w9i<|aU.2<|eG.2<|i7.2<|w9v rfl<|w9v rfl<|j3.2 ?_;refine zM H hd (λa B e=>by cases e;simpa using hn) ?_;rw[hsh];refine d5 rfl<|v8 rfl<|L0.2<|j0 ?_;refine w6.2<|dS.2<|w9g rfl<|d5 rfl<|j0 ?_;refine w9i<|aU.2<|eG.2<|w9l<|i9.2<|w9v rfl<|j3.2 ?_;refine fZ (p:=0) rC hp ?_;by_cases f:0<p
 .rw[Rg f];refine d5 rfl<|v8 rfl<|L0.2<|j0 ?_;refine w9q<|i7.2<|w9v rfl<|j3.2<|Az hh hn #v[m5 rfl,j0 ?_];refine w6.2<|T7.2<|EC<|w9g rfl<|d5 cA ?_;refine sP (λi E A=>A=F/\(∃s r,E=[some<|.dat<|bsD l,some<|.dat<|.int h,some<|.dat<|.tuple [qd p,hsD hs],some<|.dat<|qd p,some<|.dat<|hsD hs,some<|.dat<|.list<|spL hs,s,r])/\∀j,j<i->0<sp hs j) _ 0 _ F #v[rfl,#v[none,none,rfl],λj c=>absurd c<|by lia] ?_ ?_
  .rintro i d hd E y ⟨rfl,⟨s,r,rfl⟩,c⟩;rw[Rx] at *;obtain⟨C,u,rfl⟩:=eJ hd;obtain⟨v,rfl⟩:=yT u;rw[Rx];refine#v[_,rfl,?_];refine U1.2<|aU.2<|eG.2<|w9l<|i9.2<|w9v rfl<|j3.2 ?_;refine fZ (p:=0) rC (rP hh v) ?_;by_cases b:0<sp hs i
   .rw[Rg b];refine d5 rfl (v8 rfl<|L0.2<|.inl #v[_,rfl,rfl,#v[_,_,rfl],λj h=>?_]);rcases UU j i with w | w
    .exact c j w
    .rw[show j=i by lia];exact b
   .rw[Rk b];exact d5 rfl<|K7 rfl<|af<|c6.2<|i9.2<|w9c rfl<|h7.2 #v[rfl,.inr #v[_,rfl,Z1<|l7<|q2 f i v (VB.1 b) c]]
  .rintro E y ⟨rfl,⟨s,r,rfl⟩,c⟩;have c:=λk o=>c k (by rw[Rx,fh];simpa [spL] using o)
   refine j0<|w9i<|eG.2<|w9l<|w9l<|A6.2<|w9c rfl<|c6.2<|i9.2<|h7.2 #v[n6 rfl,A8.2<|i7.2<|w9v rfl<|j3.2 ?_];refine CJ hh hn1 hn λm t g=>j3.2 ?_
   have x:Sz m/\Sz (((h:Nat))*m):=by obtain⟨k,o,rfl⟩:=t;exact#v[rP hh o,hkm k o]
   rw[<-kx h,Te];refine xo hk0 x.1 ?_;refine A8.2<|w9l<|i7.2<|w9v rfl<|w9v rfl<|j3.2 ?_;refine hmh _ _<|w9v rfl<|j3.2<|xb hS hp<|j3.2 ?_;refine fZ x.2 hS2 (d5 rfl<|L9 (λe=>?_)<|λe=>?_)
   .exact af<|c6.2<|i9.2<|c6.2<|qo.2<|i9.2<|d5 rfl<|h7.2 #v[rfl,Z1<|l7<|q3 f c m t g<|Rh e]
   .exact L0.2<|j0<|A4.2<|i9.2<|l7<|q4 f c m t g<|RX e
 .rw[Rk f];exact d5 rfl<|K7 rfl<|af<|c6.2<|i9.2<|c6.2<|qo.2<|i9.2<|d5 rfl<|h7.2 #v[rfl,Z1<|l7<|q1<|VB.1 f]
end
def kL:u7=c_word_of:=rfl
def Aw:gN=iK:=rfl
section
variable {Q:My->FdS->Prop}
def zE (hb:b.length<=1000)(q:Q (.int<|O4 b) F):wp (Y3 [.dat<|.tuple [.tuple<|b.map cmD]] F) Q:=by
 walk_at "kb";refine A4.2<|ao.2<|c6.2 ?_;unfold uE;rw[d4];refine K6.2<|C2.2<|E3 rfl<|d5 X6 ?_;rw[d4];refine kY (x:=λb:Bt=>btD b) (it:=λb:Bt=>b) (y:=cmD) (g:=λ_ c=>.int c.2) (Sh:=λE=>∃h f d,E=[h,f,d]) (λb E=>∃f d,E=[some<|.dat<|btD b,f,d]) [b] _ F _ #v[_,_,_,rfl] ?_ ?_ ?_ ?_
 .rintro a _ E ⟨h,f,d,rfl⟩;exact#v[_,rfl,#v[_,_,rfl],λF Q q=>K6.2<|B8.2<|B9 rfl<|d5 X6 q]
 .rintro a _ c _ E ⟨f,d,rfl⟩;exact#v[_,rfl,#v[_,_,rfl],λF Q q=>B8.2<|B9 rfl q]
 .rintro a E ⟨f,d,rfl⟩;exact#v[_,_,_,rfl]
 .have e:([b].map λb:Bt=>b.map λc:Int×Int=>My.int c.2).flatten=(b.map λc=>c.2).map .int:=by simp
  rw[e,QH<|sz (by rw[QI,QI];lia)];exact d6.2<|h7.2<|d5 lG<|l7 q
end
def fK (l:List Bw)(k:Int):Int:=(l.map λp=>if O4 p.1=k then p.2 else 0).sum
theorem kF :∀{l},(∀p∈l,1<=p.2)->(0<=fK l k/\fK l k<=w4 l)/\(fK l k=w4 l↔∀p∈l,O4 p.1=k)/\∀p∈l,O4 p.1=k->1<=fK l k
 | [],_=>by simp[fK,w4]
 | p::l,h=>by
  obtain⟨i,b,c⟩:=kF (k:=k) λq a=>h q<|QG _ a
  have g:=h p QN;have f:fK (p::l) k=(if O4 p.1=k then p.2 else 0)+fK l k:=by unfold fK;rw[QL,Sj]
  have d:w4 (p::l)=p.2+w4 l:=by unfold w4;rw[QL,Sj]
  rw[f,d];by_cases z:O4 p.1=k
  .rw[QH z];refine#v[by lia,#v[λe q a=>?_,λe=>?_],λq a e=>by lia]
   .rcases QQ.1 a with rfl | a
    .exact z
    .exact b.1 (by lia) q a
   .have:=b.2 λq a=>e q<|QG _ a
    simp[*]
  .rw[QK z];refine#v[by lia,#v[λe=>?_,λe=>absurd (e p QN) z],λq a e=>?_]
   .omega
   .rcases QQ.1 a with rfl | a
    .exact absurd e z
    .have:=c q a e;simp[*]
theorem oj:∀zs k j a c,zs[k]? = some a->E7 (en j<|zs.set k<|a+c)=E7 (en j zs)+((j+k:Nat):Int)*c
 | [],k,j,a,c,h=>by simp at h
 | z::zs,0,j,a,c,h=>by
  simp at h;subst h;rw[Vs,en,en];unfold E7;simp only[QL,Sj];rw[Xu,show((j+0:Nat))=j from rfl];lia
 | z::zs,k+1,j,a,c,h=>by have b:=oj zs k (j+1) a c (by simpa using h);rw[Vt,en,en];unfold E7 at b ⊢;simp only[QL,Sj];rw[b,show j+1+k=j+(k+1) by lia];lia
def vK (n):∀j,E7 (en j<|List.replicate n 0)=0:=by
 induction n with
 | zero=>intro j;rfl
 | succ n a =>intro j;have:=a<|j+1;rw[Sf,en];unfold E7 at this ⊢;rw[QL,Sj,this];simp
def Gn {zs:List Int}(h:zs[k]? = some a)(i):(zs.set k<|a+c).getD i 0=zs.getD i 0+(if k=i then c else 0):=by
 rw[Rl,Rl,List.getElem?_set];have b:=(QR.1 h).1;by_cases e:k=i
 .subst e;rw[QH rfl,QH b,QH rfl,h];rfl
 .rw[QK e,QK e,Int.add_zero]
def wN {zs:List Int}(h:zs[k]? = some a):(zs.set k<|a+c).sum=zs.sum+c:=by have:=sY (B:=1) zs k a c h;rw[fU,fU,Int.one_pow,VN]at this;exact this
section
variable {Q:My->FdS->Prop}{l:List Bw}
def pJ {f:Bw->Int}(h:l[i]? = some p):((l.take<|i+1).map f).sum=((l.take i).map f).sum+f p:=by rw[Ut,h,UN,Sw,Xs];simp
def yW (h:Be l)(q:∀xs L N,Fl xs L N (w4 l)->L<=7->E7 (en 0 xs)=M7 l->(∀k,xs.getD k 0=fK l k)->Q (fT xs) F):wp (w8 [.dat<|bsD l] F) Q:=by
 have R:=h.n1;have hn:=h.n2;have r:=h.sb;have w:=h.tot;obtain⟨bs,c⟩:∃bs:List (Int×Int),bs=l.map λp=>(O4 p.1,p.2):=#v[_,rfl]
 have D:bs.map (·.1)≠[]:=by rw[c];cases l with
  | nil=>simp at R
  | cons p l=>simp
 obtain⟨J,s,ab⟩:∃p∈l,V1 (bs.map (·.1))=O4 p.1:=by have:=Z8 D;rw[c,Rq]at this;obtain⟨p,b,e⟩:=Rt.1 this;exact#v[p,b,by rw[c,Rq];exact e.symm]
 have S:∀p∈l,O4 p.1<=V1 (bs.map (·.1)):=λp b=>dB (by rw[c,Rq];exact Rt.2 #v[p,b,rfl])
 obtain⟨m,Z⟩:∃m:Nat,V1 (bs.map (·.1))=(m:Int):=#v[(V1 (bs.map (·.1))).toNat,by have:=r J s;lia];have Y:m<=6:=by have:=r J s;lia
 unfold w8;walk_at "kb";refine w6.2 (N6.2<|aF.2<|K6.2<|C2.2<|E3 rfl<|d5 X6 #v[sz (by rw[QI];lia),?_]);refine GV (x:=λp:Bw=>rwD cmD p.1) (y:=λp:Bw=>.int p.2) (f:=λp:Bw=>pr (O4 p.1,p.2)) l _ _ (λp b F Q q=>?_) ?_
 .refine A6.2<|c6.2<|i7.2<|A8.2<|A6.2<|c6.2<|B8.2<|B9 rfl<|h7.2 #v[n6 rfl,j3.2 ?_];exact zE (by have:=(h.ok p b).1;lia)<|c6.2<|B8.2<|B9 rfl<|h7.2 #v[n6 rfl,q]
 have eb:(l.map λp:Bw=>pr (O4 p.1,p.2))=bs.map pr:=by rw[c,Rq];rfl
 have U:bs.length=l.length:=by rw[c,QI]
 rw[eb];refine#v[m5 rfl,j0 (w6.2<|qG.2<|IK<|i9.2<|n9.2<|ao.2<|c6.2<|aF.2<|K6.2<|C2.2<|E3 rfl<|d5 cA #v[sz (by rw[QI];lia),?_]) ];refine du (f:=λp=>.int p.1) bs none none F (λp b F Q q=>B8.2<|B9 rfl q) ?_;have V:(bs.map λp=>My.int p.1)=(bs.map (·.1)).map .int:=by rw[Rq];rfl
 rw[V];refine h7.2 (d5 (Ij D)<|i9.2<|d5 E8 #v[[.int 0],_,rfl,rfl,by lia,by lia,?_,m5 rfl,j0 ?_])
 .rw[Z];show 1*((m:Int)+1).toNat<=_;lia
 have e0:(List.replicate (V1 (bs.map (·.1))+1).toNat [My.int 0]).flatten=(List.replicate (m+1) (0) ).map .int:=by
  rw[Z,show((m:Int)+1).toNat=m+1 by simp[*] ];generalize m+1=k;induction k with
  | zero=>rfl
  | succ k P=>rw[Sf,SY,P,Sf];rfl
 rw[e0];refine w6.2<|T7.2<|K6.2<|B8.2<|B9 rfl<|d5 cA ?_;refine R9 (λi E F'=>F'=F/\∃(a:List Int) (M K:Option DV),E=[some<|.dat<|bsD l,some<|.dat<|.list<|bs.map pr,some<|.own<|a.map .int,M,K]/\a.length=m+1/\a.sum=w4 (l.take i)/\E7 (en 0 a)=M7 (l.take i)/\∀k,a.getD k 0=fK (l.take i) k) _ 0 _ F
  #v[rfl,List.replicate (m+1) 0,none,none,rfl,Ts,?_,vK _ _,λk=>?_] ?_ ?_
 .have:=nB (B:=1)<|m+1;rw[fU]at this;rw[this];rfl
 .rw[Rl,Sk];split <;> rfl
 .rintro i d G E F1 ⟨rfl,a,M,K,rfl,t,g,I,u⟩;rw[Rx] at *;rw[Rc,c,Rc]at G;cases b:l[i]? with
  | none=>rw[b]at G;cases G
  | some p =>
   rw[b]at G;cases G;have A:=RA b;have o:=S p A;have X:=r p A;obtain⟨j,T⟩:∃j:Nat,O4 p.1=(j:Int):=#v[(O4 p.1).toNat,by lia];have hj:j<a.length:=by lia
   have H:=QT hj;refine#v[[some<|.dat<|bsD l,some<|.dat<|.list<|bs.map pr,some<|.own<|a.map .int,some<|.dat<|.int<|O4 p.1,some<|.dat<|.int p.2],rfl,Cg rfl<|B8.2<|B9 rfl #v[_,j,a[j],rfl,?_,H,B8.2<|B9 rfl #v[_,rfl,_,rfl,rfl,a.set j<|a[j]+p.2,_,_,rfl,?_,?_,?_,λk=>?_]]]
   .rw[T,Ep (by simp[*] ) (by lia),RQ]
   .rw[Se,t]
   .rw[wN H,g];exact(pJ b).symm
   .rw[oj a j 0 _ _ H,I,Rx,<-T];exact(pJ b).symm
   .rw[Gn H,u];have:=pJ (f:=λp:Bw=>if O4 p.1=(k:Int) then p.2 else 0) b;show _=((l.take<|i+1).map λp:Bw=>if O4 p.1=(k:Int) then p.2 else 0).sum;rw[this,T];congr 1;by_cases z:j=k
    .rw[QH z,QH<|by simp[*] ]
    .rw[QK z,QK<|by lia]
 .rintro E F1 ⟨rfl,a,M,K,rfl,t,g,I,u⟩;rw[Rx,QI,U,SJ] at *;refine j0<|A4.2<|ao.2<|c6.2<|C2.2<|my rfl<|h7.2<|d5 ja<|l7 ?_;have n:=λp b=>(h.ok p b).2.2.1
  have W:∀x∈a,0<=x:=λx o=>by obtain⟨k,hk,e⟩:=List.mem_iff_getElem.1 o;have:=u k;rw[Rl,QT hk,Option.getD_some,e]at this;rw[this];exact(kF n).1.1
  have hb:=oN;refine q a (m+1) (val bB a) #v[t,by lia,W,rfl,g,?_,w.1,by lia] (by lia) I u;have v:1<=a.getD m 0:=by rw[u m];exact(kF n).2.2 J s (by lia)
  have e1:a=a.take m++[a.getD m 0]:=by
   have C:m<a.length:=by lia
   rw[Rl,QT C];conv=>lhs;rw[<-SJ (l:=a),t,List.take_succ_eq_append_getElem C]
   rfl
  rw[e1,il,Nat.add_sub_cancel,VW,t,show min m (m+1)=m by lia];have v0:0<=val bB (a.take m):=by
   have O:∀xs:List Int,(∀x∈xs,0<=x)->0<=val bB xs:=λxs=>by
    induction xs with
    | nil=>intro _;exact TV _
    | cons x xs P =>intro o;have:=RD (show 0<=bB by lia) (P λy X=>o y<|QG _ X);have:=o x QN;rw[val];lia
   exact O _ λx o=>W x<|Ws o
  simp only[val];have p:(0:Int)<=bB ^ m:=Sa (RY<|by lia);have:=RL v p;rw[Int.mul_zero,Int.add_zero];lia
def wdL (l:List Bw)(h:Nat):Str:=if M7 l<(h:Int)*w4 l then "rests" else if (h:Int)*w4 l<M7 l then "runs" else if fK l h=w4 l then "still" else "swings"
def DD (e1:E7 (en 0 xs)=M7 l)(e2:∀k,xs.getD k 0=fK l k):ans xs hh (w4 l)=wdL l hh:=by unfold ans wdL;rw[e1,e2]
end
section

def DC (h:Be l):0<=M7 l/\M7 l<=576:=by
 have:=lz (f:=λp:Bw=>O4 p.1*p.2) (a:=0) (b:=144) λp c=>by have d:=h.sb p c;obtain⟨_,_,g,e⟩:=h.ok p c;have j:=WH d.2 e (by lia) (by simp[*] );have i:=RD d.1 (show 0<=p.2 by lia);lia
 have:=h.n2;unfold M7;lia
end
section

structure Up (hs:List Rat):Prop where
 n1:1<=hs.length
 n2:hs.length<=100
 hh:∀h∈hs,Hh h
 up:∀k,k<hs.length->0<sp hs k
def JT :sL [.int a,.int b,.int c]=some (.int<|max a<|max b c):=rfl
end
def neS :eqD true (.str x) (.str y)=some (.bool (!decide (x=y))):=by show some (My.bool<|if true=true then !decide (x=y) else decide (x=y))=_;rw[QH rfl]
structure Dp (d:Rat):Prop where
 pos:0<d
 den:d.den<=100000
 num:d.num.natAbs<=100000
section

def Dp.sz (D:Dp d):Sz d:=#v[Ra D.num<|QO (show 100000<2 ^ 20 by decide)<|Rf (by decide)<|by decide,Ra D.den<|QO (show 100000<2 ^ 20 by decide)<|Rf (by decide)<|by decide]
end
def zm (n):qd ((n:Nat):Rat) = .tuple [.int (n:Nat),.int 1]:=by unfold qd;rw[Wv,Ww];rfl
def upL (n:Nat):List Rat:=(List.range n).map λk=>((k+1:Nat):Rat)
def dW (n):(upL n).length=n:=by unfold upL;rw[QI,Uu]
def zC (h:k<n):ht (upL n) k=((k+1:Nat):Rat):=by refine(IL (?_) ).symm;unfold upL;rw[Rc,Tc h];rfl
def El (h:k<n):sp (upL n) k=1:=by
 unfold sp;rw[zC h];cases k with
 | zero=>rw[sT,show((0+1:Nat))=1 from rfl];grind
 | succ k =>rw[gj,zC<|by lia];push_cast;grind
def IP (h1:1<=n)(h2:n<=100):Up (upL n) where
 n1:=by rw[dW];exact h1
 n2:=by rw[dW];exact h2
 hh:=λh b=>by obtain⟨k,a,rfl⟩:=Rt.1 b;have:=Vx.1 a;exact#v[by rw[Ww];decide,by rw[Wv,Ue];lia]
 up:=λk a=>by rw[dW]at a;rw[El a];decide
theorem DI {n:Nat}{ws:List (Int×Int)}(hw:∀z∈ws,1<=z.1/\z.1<=n):∀i,i<=ws.length->SH (upL n) (ws.take i)=((E7 (ws.take i):Int):Rat)
 | 0,_=>rfl
 | i+1,hi=>by
  have a:=DI hw i (by lia);have e:=QT (show i<ws.length by lia);have b:=hw _ (SI<|show i<ws.length by lia);generalize ws[i]=z at e b;rw[rZ e,sy e,a,zC<|by lia];have c:(((z.1-1).toNat+1:Nat):Rat)=((z.1:Int)):=by
   have:(((z.1-1).toNat+1:Nat))=z.1:=by lia
   rw[<-Te,this]
  rw[c];push_cast;grind
section
variable {Q:My->FdS->Prop}{h:Nat}
def drL (l:List Bw)(h:Nat):Rat:=(h:Rat)-mkRat (M7 l) (w4 l).toNat
def Dv (H:Be l):drL l h=mkRat ((h:Int)*w4 l-M7 l) (w4 l).toNat:=by have ht:=H.tot;obtain⟨T,b⟩:∃T:Nat,w4 l=T:=#v[(w4 l).toNat,by lia];unfold drL;rw[b,RQ];have:=mZ (a:=M7 l) (d:=T) (by lia);refine(IG (by lia) ?_).symm;push_cast;rw[this];grind
def HH (H:Be l)(h3:h<=3):(drL l h).den<=100000/\(drL l h).num.natAbs<=100000:=by have ht:=H.tot;have b:=DC H;have:=xK (a:=h*w4 l-M7 l) (d:=(w4 l).toNat) (by lia);rw[<-Dv H]at this;have e:h*w4 l<=3*48:=WH (by lia) ht.2 (by lia) (by simp[*] );have c:0<=h*w4 l:=RD (by simp[*] ) (by lia);lia
def IZ (H:Be l)(h3:h<=3)(hr:M7 l<(h:Int)*w4 l):Dp (drL l h):=by
 refine#v[?_,(HH H h3).1,(HH H h3).2];have ht:=H.tot;rw[Dv H];have c:(0:Rat)<(((w4 l).toNat:Nat)):=by exact_mod_cast (by lia)
 have e:=mZ (a:=h*w4 l-M7 l) (d:=(w4 l).toNat) (by lia);have p:(0:Rat)<(((h:Int)*w4 l-M7 l:Int)):=by exact_mod_cast (by simp[*] )
 rw[e]at p;refine SR λb=>?_
 have b:=VB.1 b;have:=Wx b<|Xp c;rw[Rat.zero_mul]at this;exact absurd p<|VB.2 this
def hmL (l:List Bw)(w:Int):Nat:=(max 1<|max w<|gwL l).toNat
def IH (H:Be l)(w1:w<=40):1<=hmL l w/\hmL l w<=40/\w<=hmL l w/\gwL l<=hmL l w:=by have:=HE H;unfold hmL;lia
def kE (H:Be l)(h3:h<=3)(w1:w<=40)(q1:¬M7 l<(h:Int)*w4 l->Q (bZ "NoRest" [.str<|wdL l h]) F)(q2:M7 l<(h:Int)*w4 l->Q (.tuple [qd<|drL l h,hsD<|upL<|hmL l w]) F):wp (Ky [.dat<|bsD l,.dat<|.int (h:Nat),.dat<|.int w] F) Q:=by
 have ht:=H.tot;have A:=DC H;have B:=IH H w1;unfold Ky;rw[kL,Aw,mP];refine D6.2 ?_;refine w6.2 (N6.2<|i7.2<|A8.2<|B8.2<|B9 rfl<|j3.2<|yW H λv L N i D m s=>#v[m5 rfl,j0 ?_]);refine w6.2 (N6.2<|i7.2<|A8.2<|B8.2<|B9 rfl<|A8.2<|B8.2<|B9 rfl<|j3.2<|oQ i (by lia) h3 #v[m5 rfl,j0 ?_]);rw[DD m s];refine w6.2<|U1.2<|aM.2<|n9.2<|C2.2<|E3 rfl<|i9.2<|d5 neS<|d5 rfl ?_;have j:wdL l h = "rests" ↔ M7 l<h*w4 l:=by
  unfold wdL;constructor
  .intro e;refine SR λg=>?_
   rw[QK g]at e;split at e
   .exact absurd e (by decide +kernel)
   .split at e <;> exact absurd e (by decide +kernel)
  .intro e;rw[QH e]
 refine L9 (λe=>?_) (λe=>?_)
 .have g:¬M7 l<h*w4 l:=λz=>by rw[Rg<|j.2 z]at e;exact absurd e (by decide)
  exact af<|c6.2<|B8.2<|B9 rfl<|h7.2 #v[rfl,Z1<|l7<|q1 g]
 .have p:=SR λz=>by rw[Rk λy=>z<|j.1 y]at e;exact absurd e (by decide)
  refine L0.2<|j0<|w6.2<|N6.2<|ao.2<|c6.2<|i9.2<|c6.2<|C2.2<|E3 rfl<|c6.2<|i7.2<|A8.2<|B8.2<|B9 rfl<|j3.2<|rS H<|h7.2<|d5 JT #v[m5 rfl,j0 ?_];have r:max 1 (max w<|gwL l)=((hmL l w:Nat)):=by unfold hmL;lia
  rw[r];refine A4.2<|A6.2<|c6.2<|i7.2<|A8.2<|A6.2<|c6.2<|B8.2<|B9 rfl<|c6.2<|i9.2<|h7.2 #v[n6 rfl,?_];refine A8.2 (i7.2<|A8.2<|B8.2<|B9 rfl<|j3.2<|vP i (by lia) λt b o=>j3.2 ?_);rw[lL o (by lia),m,<-zm];have u:=xK (a:=M7 l) (d:=(w4 l).toNat) (by lia);have c:∀n,n<=100000->n<2 ^ 4000:=λn g=>Ra g (QO (show 100000<2 ^ 20 by decide)<|Rf (by decide)<|by decide)
  refine rH #v[c _ (by rw[Wv,Ue];lia),c _ (by rw[Ww];simp[*] )] #v[c _ (by lia),c _<|by lia] ?_;refine c6.2 (ao.2<|c6.2<|aF.2<|aw.2<|c6.2<|B8.2<|B9 rfl<|h7.2<|d5 (lr<|by lia) #v[sz (by simp;lia),?_]);refine Gi (f:=λk:Nat=>qd ((k+1:Nat)) ) (List.range<|hmL l w) _ (λk C F Q q=>?_) ?_
  .rw[zm]at q;exact A6.2<|c6.2<|n9.2<|C2.2<|E3 rfl<|i9.2<|d5 E8<|c6.2<|i9.2<|h7.2 #v[n6 rfl,q]
  .refine h7.2<|d5 ja<|h7.2 #v[n6 rfl,l7 ?_];have:=q2 p;unfold hsD upL at this;rw[Rq]at this;exact this
def wV (H:Be l)(U:Up hs)(hw:∀z∈wkL l,z.1<=hs.length)(hr:¬M7 l<(h:Int)*w4 l)(hm:∃k,k<hs.length/\m=sp hs k)(hmm:∀k,k<hs.length->m<=sp hs k):((h:Rat)*m-SH hs (wkL l) / ((w4 l:Int):Rat)).num<=0:=by
 have ht:=H.tot;refine CU ?_;obtain⟨k,f,g⟩:=hm;have d:0<m:=by rw[g];exact U.up k f
 have e:=Ds (λz a=>#v[#v[(H.wk z a).1.1,hw z a],(H.wk z a).2.1]) hmm (wkL l).length<|QP _;rw[SJ,Ae]at e;have c:((h:Int):Rat)*((w4 l:Int))<=((M7 l:Int)):=by exact_mod_cast (by omega )
 rw[Te]at c;have o:=Wz c<|Xp d;have b:(0:Rat)<((w4 l:Int)):=by exact_mod_cast (by lia)
 generalize ((w4 l):Rat)=T at *;generalize SH hs (wkL l)=S at *;have q:T≠0:=λz=>by rw[z]at b;exact absurd b (by decide)
 have r:=Rat.mul_inv_cancel _ q;have p:=Rat.inv_pos.2 b;have n:=Rat.le_trans o e;have j:=Wx n<|Xp p;rw[Xw];have i:m*(h*T)*T⁻¹=h*m:=by grind
 rw[i]at j;grind
end
def mN:bG=c_rises:=rfl
section
variable {Q:My->FdS->Prop}
def pSh:My:=.tuple [.str "shape",.int (-1)]
def pBe:My:=.tuple [.str "between",.int (-1)]
def pRi:My:=.tuple [.str "rises",.int (-1)]
def pTo:My:=.tuple [.str "told",.bool true]
def iu (xs:List Int)(h:Nat):My->My
 | .tuple [.int a,.int b]=>if 1<=b/\Int.gcd a b=1 then(if 0<a/\a<b then(if hor a b xs*b ^ (h+1)<=xs.sum*a ^ h*b ^ xs.length then pTo else pRi) else pBe) else pSh
 | _=>pSh
def Gr (hf:M8 d=false):iu xs h d=pSh:=by
 unfold iu;split
 .rw[QK];rintro ⟨b,a⟩;simp[M8,b,a]at hf
 .rfl
structure Fx (xs:List Int) h:Prop where
 b:∀x∈xs,Bd 400 x
 l:xs.length<=30
 s:Bd 500 xs.sum
 h:h<=3

def jz (hb:1<=b):(a ^ h*(xs.sum*b ^ xs.length)<hor a b xs*b*b ^ h)↔¬hor a b xs*b ^ (h+1)<=xs.sum*a ^ h*b ^ xs.length:=by
 have d:a ^ h*(xs.sum*b ^ xs.length)=xs.sum*a ^ h*b ^ xs.length:=by grind
 have c:hor a b xs*b*b ^ h=hor a b xs*b ^ (h+1):=by rw[RB];grind
 rw[d,c];simp[*]
def Av (h:Gd 0 N k (.tuple [.int a,.int b])):Bd 1000 a/\Bd 1000 b:=by
 have c:scs 0 (.int a)/\scs 0 (.int b):=by simpa [scs,jc] using h.sc
 have d:(10) ^ 300+0<=2 ^ 1000:=by decide +kernel
 simp only[scs]at c;exact#v[RJ<|QO c.1 d,RJ<|QO c.2 d]
def ku (xs:List Int)(h:Nat)(d:My):My:=match iu xs h d with
 | .tuple [.str "told",b]=>b
 | .tuple fs=>bZ "NoPaper" fs
 | d=>d
def AO (e:iu xs h d=pSh):ku xs h d=bZ "NoPaper" [.str "shape",.int (-1)]:=by unfold ku;rw[e];rfl
def AS (e:iu xs h d=pBe):ku xs h d=bZ "NoPaper" [.str "between",.int (-1)]:=by unfold ku;rw[e];rfl
def sD (e:iu xs h d=pRi):ku xs h d=bZ "NoPaper" [.str "rises",.int (-1)]:=by unfold ku;rw[e];rfl
def se (e:iu xs h d=pTo):ku xs h d = .bool true:=by unfold ku;rw[e];rfl
def fY (q:Q (bZ "NoPaper" [.str w,.int (-1)]) F):wp (O5 "NoPaper" (c8 (sC<|.str w)<|c8 (s1 gY<|sC<|.int 1) k8) E F) (sqK m<|uC Q) :=
 af (c6.2<|i9.2<|c6.2<|qo.2<|i9.2<|d5 rfl<|h7.2 #v[rfl,Z1<|l7 q])
def BY (hx:Fx xs h)(hd:Gd 0 N k d)(q:Q (ku xs h d) F):wp (KL [.dat<|fT xs,.dat<|.int (h:Nat),.dat d] F) Q:=by
 unfold KL;rw[AY,mN];refine D6.2<|w6.2<|U1.2<|aU.2<|eG.2<|i7.2<|A8.2<|B8.2<|B9 rfl<|j3.2<|qD hd.sc<|d5 rfl ?_;cases ef:M8 d with
 | false =>rw[AO<|Gr ef]at q;exact K7 rfl<|fY q
 | true =>
  obtain⟨a,b,rfl,g,hg⟩:=mn ef;obtain⟨o,n⟩:=Av hd;have p:Bd 1000 1:=by exact Nat.one_le_two_pow
  have r:Bd 1000 0:=by unfold Bd;simp
  have c:iu xs h (.tuple [.int a,.int b])=if 0<a/\a<b then(if hor a b xs*b ^ (h+1)<=xs.sum*a ^ h*b ^ xs.length then pTo else pRi) else pBe:=QH #v[g,hg];refine v8 rfl<|L0.2<|j0<|w6.2<|U1.2<|yl.2<|aU.2<|eG.2<|i7.2<|A8.2<|i9.2<|A8.2<|B8.2<|B9 rfl<|j3.2 ?_;have e:=λf=>by rw[QK f]at c;rw[AS c]at q;exact q
  refine iS (r.big<|by decide) (p.big<|by decide) (o.big<|by decide) (n.big<|by decide) (d5 rfl<|L9 (λm=>?_)<|λm=>?_)
  .refine fY (e λf=>?_);simp only[Xb]at m;lia
  .refine aU.2<|eG.2<|i7.2<|A8.2<|B8.2<|B9 rfl<|A8.2<|i9.2<|j3.2 ?_;refine iS (o.big<|by decide) (n.big<|by decide) (p.big<|by decide) (p.big<|by decide) (d5 rfl<|L9 (λl=>?_)<|λl=>?_)
   .refine fY (e λf=>?_);simp only[Xb]at l;lia
   .have i:0<a/\a<b:=by simp only[Bool.not_eq_false']at m l;lia
    rw[QH i]at c;have hl:=hx.l;refine L0.2<|j0<|w6.2<|U1.2<|eG.2<|i7.2<|A8.2<|B8.2<|B9 rfl<|A8.2<|B8.2<|B9 rfl<|A8.2<|B8.2<|B9 rfl<|j3.2 ?_;refine rF o n hx.b (by lia) hx.h (by lia) hx.s (d5 rfl<|L9 (λj=>?_)<|λj=>?_)
    .rw[QK<|(jz g).1<|Rh j]at c;rw[sD c]at q;exact fY q
    .rw[QH<|Classical.not_not.1 λz=>(RX j)<|(jz g).2 z]at c;rw[se c]at q;exact L0.2<|j0<|A4.2<|i9.2<|l7 q
end
section
variable {F:FdS}{Q:My->FdS->Prop}{xs:List Int}{h:Nat}
def in2 (h1:SeqAt.shaped (.tuple [.str a,.str b])=true)(h2:SeqAt.shaped (.str w)=true)(h3:(if g=true then !([My.str a,.str b].any λy=>My.eqv y<|.str w) else[My.str a,.str b].any λy=>My.eqv y<|.str w)=r):inD g (.str w) (.tuple [.str a,.str b])=some (.bool r):=by show(if SeqAt.shaped (.tuple [.str a,.str b])=true/\SeqAt.shaped (.str w)=true then _ else none)=_;rw[QH #v[h1,h2]];exact Sn (λb=>some<|My.bool b) h3
def xX:inD true (.str "rests") (.tuple [.str "runs",.str "still"])=some (.bool true):=in2 (by decide +kernel) (by decide +kernel) (by decide +kernel)
def tY:inD true (.str "swings") (.tuple [.str "runs",.str "still"])=some (.bool true):=in2 (by decide +kernel) (by decide +kernel) (by decide +kernel)
def Cb:inD true (.str "runs") (.tuple [.str "runs",.str "still"])=some (.bool false):=in2 (by decide +kernel) (by decide +kernel) (by decide +kernel)
def wA:inD true (.str "still") (.tuple [.str "runs",.str "still"])=some (.bool false):=in2 (by decide +kernel) (by decide +kernel) (by decide +kernel)
structure Fy xs L N S h:Prop where
 f:Fl xs L N S
 l:L<=7
 s:S<=48
 h1:1<=h
 h3:h<=3
def Fy.b (H:Fy xs L N S h):(∀x∈xs,Bd 400 x)/\Bd 500 xs.sum:=by
 have b:∀x,0<=x->x<=20000->Bd 400 x:=λx g f=>by refine QZ (m:=2 ^ 20) (by lia) (Rf (by decide)<|by decide)
 have c:=(dZ H.f.nn).2;have d:=H.f.s;have e:=H.s;have sp:=H.f.sp;exact#v[λx a=>b x (H.f.nn x a) (by have:=c x a;lia),(b _ (by lia)<|by lia).mono<|by decide]
def W3 (xs:List Int)(h:Nat)(a b:Int):Prop:=hor a b xs*b ^ (h+1)<=xs.sum*a ^ h*b ^ xs.length
def iE :(a ^ h*(xs.sum*b ^ xs.length)<hor a b xs*b*b ^ h)↔¬W3 xs h a b:=by
 have d:a ^ h*(xs.sum*b ^ xs.length)=xs.sum*a ^ h*b ^ xs.length:=by grind
 have c:hor a b xs*b*b ^ h=hor a b xs*b ^ (h+1):=by rw[RB];grind
 unfold W3;rw[d,c];simp[*]
inductive Wd (xs:List Int) (h:Nat) (w:Str):Prop
 | no (hw:w = "rests" \/ w = "swings") (hn:∀a b:Int,0<a->a<b->¬W3 xs h a b):Wd xs h w
 | yes (hw:w = "runs" \/ w = "still") (hn:∀b:Int,4096<=b->W3 xs h (b-1) b):Wd xs h w
def wd (H:Fy xs L N S h):Wd xs h (ans xs h S):=by
 have c:=H.f.s;have hl:=H.f.len;have k:=H.f.one;have j:=H.l;have l:=H.s;unfold ans;by_cases g:E7 (en 0 xs)<h*S
 .rw[QH g];refine .no (.inl rfl) λa b i d z=>?_
  have:=sJ H.f.nn (by lia) i d (.inr (by rw[c];exact g)) (by rw[c];lia);unfold W3 at z;lia
 .rw[QK g];by_cases f:h*S<E7 (en 0 xs)
  .rw[QH f];exact .yes (.inl rfl) λb d=>uu H.f.nn (by lia) (by lia) (by lia) d (by rw[c];exact f)
  .rw[QK f];by_cases e:xs.getD h 0=S
   .rw[QH e];exact .yes (.inr rfl) λb d=>qu H.f.nn (by lia) (by lia) (by rw[c];exact e)
   .rw[QK e];refine .no (.inr rfl) λa b i d z=>?_
    have:=sJ H.f.nn (by lia) i d (.inl (by rw[c];exact e)) (by rw[c];lia);unfold W3 at z;lia
def Ka (h:Big x y):gy 3 (sC<|.int y) [a,b,c,some<|.dat<|.int x] F=some (.nx [a,b,c,some<|.dat<|.int<|x*y],F):=by show(if Big x y then _ else _)=_;rw[QH h];rfl
def p12 (h:12<=j):(4096:Int)<=2 ^ j:=by
 have:=Rf (n:=2) (by decide) h;have e:(4096)=2 ^ 12:=by decide +kernel
 rw[<-e]at this;exact_mod_cast this
def AE (hj:j<=100):Bd 100 ((2:Int) ^ j)/\Bd 100 ((2:Int) ^ j-1):=by
 have e:((2:Int) ^ j)=((2 ^ j:Nat)):=by push_cast;rfl
 have a:2 ^ j<=2 ^ 100:=Rf (by decide) hj;have b:=Nat.two_pow_pos j;rw[e];unfold Bd;generalize 2 ^ j=z at *;generalize 2 ^ 100=y at *;lia
def Bf (H:Fy xs L N S h)(q1:(ans xs h S = "rests" \/ ans xs h S = "swings")->Q (bZ "NoRest" [.str<|ans xs h S]) F)(q2:(ans xs h S = "runs" \/ ans xs h S = "still")->∀j,1<=j->j<=13->W3 xs h ((2:Int) ^ j-1) ((2:Int) ^ j)->Q (.tuple [.int<|(2:Int) ^ j-1,.int<|(2:Int) ^ j]) F) :
  wp (KC [.dat<|fT xs,.dat<|.int (h:Nat)] F) Q:=by
 have hl:=H.f.len;have r:=H.l;have t:=H.h3;have k:=H.b;unfold KC;rw[kL,mN];refine D6.2<|w6.2<|N6.2<|i7.2<|A8.2<|B8.2<|B9 rfl<|A8.2<|B8.2<|B9 rfl<|j3.2 ?_;refine oQ H.f (by lia) H.h3 #v[m5 rfl,j0<|w6.2<|U1.2<|aM.2<|n9.2<|C2.2<|E3 rfl<|i9.2 ?_];have o:∀{m:DE->M Out},(ans xs h S = "rests" \/ ans xs h S = "swings")->wp (O5 "NoRest" (c8 (sV 2) k8) [some<|.dat<|fT xs,some<|.dat<|.int (h:Nat),some<|.dat<|.str<|ans xs h S,none] F) (sqK m<|uC Q):=λ{m} d =>
  af (c6.2<|B8.2<|B9 rfl<|h7.2 #v[rfl,Z1<|l7<|q1 d])
 rcases wd H with ⟨d,_⟩ | ⟨d,q⟩
 .have e:inD true (.str<|ans xs h S) (.tuple [.str "runs",.str "still"])=some (.bool true):=by
   rcases d with e | e <;> rw[e]
   .exact xX
   .exact tY
  exact d5 e<|d5 rfl<|K7 rfl<|o d
 .have e:inD true (.str<|ans xs h S) (.tuple [.str "runs",.str "still"])=some (.bool false):=by
   rcases d with e | e <;> rw[e]
   .exact Cb
   .exact wA
  refine d5 e<|d5 rfl<|v8 rfl<|L0.2<|j0<|w6.2<|N6.2<|i9.2 #v[m5 rfl,j0 ?_];refine w6.2 (Ig (λE w=>w=F/\∃j,1<=j/\j<=12/\E=[some<|.dat<|fT xs,some<|.dat<|.int h,some<|.dat<|.str<|ans xs h S,some<|.dat<|.int<|(2) ^ j]) (λE=>match E with
   | [_,_,_,some<|.dat<|.int y]=>(5000-y).toNat
   | _=>0) #v[rfl,1,by decide,by decide,rfl] ?_)
  rintro E v ⟨rfl,j,p,x,rfl⟩;obtain⟨l,b2⟩:=AE (j:=j) (by lia);refine eG.2<|i7.2<|A8.2<|B8.2<|B9 rfl<|A8.2<|B8.2<|B9 rfl<|A8.2<|A6.2<|c6.2<|n9.2<|C2.2<|E3 rfl<|i9.2<|d5 X5<|c6.2<|B8.2<|B9 rfl<|h7.2 #v[n6 rfl,j3.2 ?_];refine rF b2 l k.1 (by lia) t (by lia) k.2 (d5 rfl<|L9 (λi=>?_)<|λi=>?_)
  .have f:=iE.1<|Rh i;have s:j<12:=SR λs=>f (q _<|p12<|by lia)
   have g:Big ((2:Int) ^ j) 2:=.inr #v[l.big (by decide),(show Bd 100 2 by unfold Bd;decide).big<|by decide];have u:=Ka (a:=some<|.dat<|fT xs) (b:=some<|.dat<|.int (h:Nat)) (c:=some<|.dat<|.str<|ans xs h S) (F:=v) g;refine#v[_,_,u,_,rfl,#v[rfl,j+1,by simp[*],by lia,by rw[RB]],?_];have B:(2) ^ j<=2 ^ 11:=by have:=Rf (n:=2) (by decide) (show j<=11 by lia);exact_mod_cast this
   have A:(0:Int)<2 ^ j:=RY (by decide);lia
  .have f:=Classical.not_not.1 λz=>(RX i)<|iE.2 z
   refine j0<|A4.2<|A6.2<|c6.2<|n9.2<|C2.2<|E3 rfl<|i9.2<|d5 X5<|c6.2<|B8.2<|B9 rfl<|h7.2 #v[n6 rfl,l7 ?_];exact q2 d j p (by lia) f
end
def sH {g:List DV->M My}{F:FdS}{Q:Out->FdS->Prop}
  (q:wp (ms E F) λxs F1=>wp (g xs F1) λd F2=>(∃fs E1,W4 d=some (nm0,fs)/\bN fi c E=some E1/\Q (.nx E1) F2)\/(W4 d=none/\∃E1,bN fi d E=some E1/\Q (.nx E1) F2)):wp (oi nm0 fi g ms c E F) Q:=by
 unfold oi;rw[d4];refine j8 q λxs F1 h=>?_
 rw[d4];refine j8 h λd F2 h=>?_
 rcases h with ⟨fs,E1,b,a,q⟩ | ⟨b,E1,a,q⟩
 .rw[b];dsimp only;rw[QH rfl,a];exact d6.2 q
 .rw[b];rw[a];exact d6.2 q
section
variable {Q:My->FdS->Prop}{xs:List Int}{h:Nat}
def iN (H:Fy xs L N S h)(q1:(ans xs h S = "rests" \/ ans xs h S = "swings")->Q (.tuple [.str "no",.str<|ans xs h S]) F)(q2:(ans xs h S = "runs" \/ ans xs h S = "still")->∀j,1<=j->j<=13->W3 xs h ((2:Int) ^ j-1) ((2:Int) ^ j)->Q (.tuple [.str "told",.tuple [.int<|(2:Int) ^ j-1,.int<|(2:Int) ^ j]]) F) :
  wp (u8 [.dat<|fT xs,.dat<|.int (h:Nat)] F) Q:=by
 refine D6.2<|w9q<|i9.2 #v[m5 rfl,j0 ?_];refine w6.2<|xl<|w9v rfl<|w9v rfl<|j3.2 ?_;refine Bf H (λa=>?_) (λa j c b hl=>?_)
 .exact .inl #v[("NoRest",[.str<|ans xs h S]),_,rfl,QH #v[rfl,rfl],j0<|A4.2<|w9g rfl<|l7<|q1 a]
 .exact .inr #v[rfl,_,rfl,j0<|A4.2<|w9g rfl<|l7<|q2 a j c b hl]
def eF (H:Be l)(h3:h<=3)(q1:¬M7 l<(h:Int)*w4 l->Q (.tuple [.str "no",.str<|wdL l h]) F)(q2:M7 l<(h:Int)*w4 l->Q (.tuple [.str "told",.tuple [qd<|drL l h,hsD<|upL<|hmL l 3]]) F) :
  wp (m8 [.dat<|bsD l,.dat<|.int (h:Nat)] F) Q:=by
 refine D6.2<|w9q<|i9.2 #v[m5 rfl,j0 ?_];refine w6.2<|xl<|w9v rfl<|w9v rfl<|A8.2<|i9.2<|j3.2 ?_;refine kE H h3 (by decide) (λa=>?_) (λa=>?_)
 .exact .inl #v[("NoRest",[.str<|wdL l h]),_,rfl,QH #v[rfl,rfl],j0<|A4.2<|w9g rfl<|l7<|q1 a]
 .exact .inr #v[rfl,_,rfl,j0<|A4.2<|w9g rfl<|l7<|q2 a]
def Fy.fx (H:Fy xs L N S h):Fx xs h:=#v[H.b.1,by have:=H.f.len;have:=H.l;lia,H.b.2,H.h3]
structure Frc (a b:Int):Prop where
 a0:0<a
 ab:a<b
 g:Int.gcd a b=1
 b9:b<=10000
instance {xs:List Int} {h:Nat} {a b:Int}:Decidable (W3 xs h a b):=inferInstanceAs<|Decidable<|hor a b xs*b ^ (h+1)<=xs.sum*a ^ h*b ^ xs.length
def Frc.due (p:Frc a b):iu xs h (.tuple [.int a,.int b])=if W3 xs h a b then pTo else pRi:=by have:=p.a0;have:=p.ab;show(if 1<=b/\Int.gcd a b=1 then(if 0<a/\a<b then _ else _) else _)=_;rw[QH #v[by lia,p.g],QH #v[p.a0,p.ab]];rfl
def Frc.gd (p:Frc a b):Gd 0 3 1 (.tuple [.int a,.int b]):=by
 have g:=p.a0;have f:=p.ab;have e:=p.b9;refine Gd.tup (M:=1) (λd c=>?_) (by simp[fj,cnt]);rcases QQ.1 c with rfl | c
 .exact gK (bJ<|by lia)
 .rw[Rn.1 c];exact gK (bJ<|by lia)
def eU (H:Fy xs L N S h)(p:Frc a b)(q1:W3 xs h a b->Q (.bool true) F)(q2:¬W3 xs h a b->Q (.bool false) F) :
  wp (i4 [.dat<|fT xs,.dat<|.int (h:Nat),.dat<|.tuple [.int a,.int b]] F) Q:=by
 refine D6.2<|w9q<|i9.2 #v[m5 rfl,j0 ?_];refine w6.2<|sH<|w9v rfl<|w9v rfl<|w9v rfl<|j3.2 ?_;refine BY H.fx p.gd ?_;by_cases c:W3 xs h a b
 .have e:iu xs h (.tuple [.int a,.int b])=pTo:=by rw[p.due,QH c]
  rw[se e];exact .inr #v[rfl,_,rfl,j0<|A4.2<|w9g rfl<|l7<|q1 c]
 .have e:iu xs h (.tuple [.int a,.int b])=pRi:=by rw[p.due,QK c]
  rw[sD e];exact .inl #v[_,_,rfl,rfl,j0<|A4.2<|w9g rfl<|l7<|q2 c]
end
def dnP (hs:List Rat):List (Int×Int)->Nat
 | []=>1
 | z::ws=>(ht hs (z.1-1).toNat).den*dnP hs ws
theorem dI (hs):∀ws,0<dnP hs ws
 | []=>Nat.one_pos
 | z::ws=>WI (Rat.den_pos _)<|dI hs ws
theorem qJ :∀{ws},∀z∈ws,(ht hs (z.1-1).toNat).den ∣ dnP hs ws
 | [],z,h=>(nomatch h)
 | y::ws,z,h=>by
  rcases QQ.1 h with rfl | h
  .exact Nat.dvd_mul_right _ _
  .exact Nat.dvd_trans (qJ z h)<|Nat.dvd_mul_left _ _
def Eu (hh:∀z∈hs,Hg z)(k):Hg (ht hs k):=by
 unfold ht;rw[Rl];cases e:hs[k]? with
 | none=>exact Hg.zero
 | some z=>exact hh z<|RA e
theorem qE (hh:∀z∈hs,Hg z):∀ws,dnP hs ws<=2 ^ (200*ws.length)
 | []=>QP _
 | z::ws=>by have:=TR (Eu hh (z.1-1).toNat).den<|qE hh ws;rw[<-TY]at this;rw[QM,show 200*(ws.length+1)=200+200*ws.length by lia];exact this
def sE {M} (h:p.num.natAbs<=M):Qb p.den M p:=#v[Wu _,QZ h<|Nat.le_mul_of_pos_right _ p.den_pos]
def xT {i:Int}{M} (h:i.natAbs<=M):Qb 1 M (i:Rat):=#v[by rw[Tb];exact Wu _,by rw[Ul,Tb];simp[*] ]
def Hz {T:Int}(h:0<T):Qb T.toNat 1 ((T:Rat)⁻¹):=by
 have e:((T:Rat)⁻¹)=mkRat 1 T.toNat:=by
  rw[TU,Xw];have:(T.toNat:Rat)=T:=by rw[<-Te,show((T.toNat:Nat))=T by lia]
  rw[this];simp
 rw[e];exact Qb.of (by simp[*] ) (by lia)
section
variable {hs:List Rat}
def xq (hh:∀z∈hs,Hg z):∀z∈wkL l,Qb (dnP hs<|wkL l) (2 ^ 200) (ht hs (z.1-1).toNat):=λz a=>#v[qJ z a,QZ (Eu hh _).num<|Nat.le_mul_of_pos_right _<|Rat.den_pos _]
def Ie (H:Be l)(hh:∀z∈hs,Hg z):Qb (dnP hs<|wkL l) (8*(12*2 ^ 200)) (SH hs<|wkL l):=by
 have c:dnP hs (wkL l)≠0:=by have:=dI hs<|wkL l;lia
 have hl:=H.len;have:=lp c (λq e=>by obtain⟨z,b,rfl⟩:=Rt.1 e;have d:=H.wk z b;have a:=(xT (i:=z.2) (M:=12)<|by omega ).mul (xq hh z b) (by decide) c;rwa [Xv]at a) _<|QP _
 rw[SJ]at this;refine Qb.mono this (Wu _)<|TF _ ?_;rw[QI];exact hl
def rT (H:Be l)(hh:∀z∈hs,Hg z):Qb (dnP hs (wkL l)*(w4 l).toNat) (96*2 ^ 200) (SH hs (wkL l) / ((w4 l:Int):Rat)):=by
 have a:dnP hs (wkL l)≠0:=by have:=dI hs<|wkL l;lia
 have b:=H.tot;rw[Xw];have:=(Ie H hh).mul (Hz (T:=w4 l)<|by lia) a (by lia);exact Qb.mono this (Wu _) (by simp[*] )
def dT (H:Be l)(hh:∀z∈hs,Hg z):dnP hs (wkL l)*(w4 l).toNat≠0/\dnP hs (wkL l)*(w4 l).toNat<=2 ^ 1606:=by have d:=dI hs<|wkL l;have c:=H.tot;refine#v[Wr (by lia) (by lia),?_];have b:dnP hs (wkL l)<=2 ^ 1600:=QZ (qE hh _) (Rf (by decide) (by have:=H.len;lia));have a:=TR b (show(w4 l).toNat<=2 ^ 6 by lia);rwa [<-TY]at a
def pK:96*2 ^ 200<2 ^ 1000/\96*2 ^ 200+2 ^ 600<2 ^ 1000/\3*2 ^ 401+96*2 ^ 200<2 ^ 1000:=by decide +kernel
def Bu (H:Be l)(hh:∀z∈hs,Hg z):Sz (SH hs (wkL l) / ((w4 l:Int):Rat)) :=
 (rT H hh).sz (dT H hh).1 (Ra (dT H hh).2<|RH (by decide)<|by decide) pK.1
structure Hd (p:Rat):Prop where
 den:p.den<=2 ^ 600
 num:p.num.natAbs<=2 ^ 600
def Gp (H:Be l)(hh:∀z∈hs,Hg z)(hp:Hd p):Sz (SH hs (wkL l) / ((w4 l:Int):Rat)+p):=by have a:=dT H hh;have b:=Wr a.1 p.den_nz;have c:=Qb.mono (rT H hh) (Nat.dvd_mul_right _ p.den)<|QP _;have b2:=Qb.mono (sE hp.num) (Nat.dvd_mul_left p.den<|dnP hs (wkL l)*(w4 l).toNat)<|QP _;refine(c.add b2 b).sz b ?_ pK.2.1;have:=TR a.2 hp.den;rw[<-TY]at this;exact Ra this (RH (by decide)<|by decide)
def HI (h3:h<=3)(hh:∀z∈hs,Hg z)(hk:k<hs.length):Qb (sp hs k).den (3*2 ^ 401) (((h:Nat):Rat)*sp hs k):=by have b:=Gq (qK hh hk)<|qQ hh<|RJ hk;have:=(xT (i:=h ) (M:=3)<|by simp[*] ).mul (sE b.2) (by decide)<|Rat.den_nz _;rw[Xv,Te]at this;exact this
def HS (h3:h<=3)(hh:∀z∈hs,Hg z)(hk:k<hs.length):Sz (((h:Nat):Rat)*sp hs k):=by have b:=Gq (qK hh hk)<|qQ hh<|RJ hk;refine(HI h3 hh hk).sz (Rat.den_nz _) ?_ (by have:=pK;omega );exact Ra b.1 (RH (by decide)<|by decide)
end
def Hh.hg (H:Hh z):Hg z:=#v[QZ H.den<|QZ (show 4<=2 ^ 8 by decide)<|Rf (by decide)<|by decide,QZ H.num<|QZ (show 200<=2 ^ 8 by decide)<|Rf (by decide)<|by decide]
def zU (h1:z.num.natAbs<=100000)(h2:z.den<=100000):Gd 0 3 1 (qd z):=by
 refine Gd.tup (M:=1) (λd a=>?_) (by simp[fj,cnt]);rcases QQ.1 a with rfl | a
 .exact gK (bJ<|by lia)
 .rw[Rn.1 a];exact gK (bJ<|by lia)
section
variable {Q:My->FdS->Prop}
def vx (U:Up hs)(D:Dp p):scs 0 (.tuple [qd p,hsD hs]):=by
 have g:Gd 0 (1+3*hs.length) 2 (hsD hs):=by
  refine Gd.tup (M:=3) (λd b=>?_) ?_
  .obtain⟨z,a,rfl⟩:=Rt.1 b;have:=U.hh z a;exact zU (by have:=this.num;lia) (by have:=this.den;lia)
  .have:=nq (ds:=hs.map qd) λd b=>by obtain⟨z,a,rfl⟩:=Rt.1 b;have:=U.hh z a;exact(zU (by have:=this.num;lia) (by have:=this.den;lia)).ct
   rw[QI]at this;simp[*]
 have h:=zU D.num D.den;have f:=h.sc;have e:=g.sc;simp only[scs]at f e ⊢;exact#v[f,e,trivial]
def ue (U:Up hs)(hg:gwL l<=(hs.length:Nat)):shB l (.tuple [qd p,hsD hs])=true:=by show(M8 (qd p)&&(decide (max 1 (gwL l)<=((hs.map qd).length) )&&(hs.map qd).all M8))=true;have b:=U.n1;rw[qS,QI,Rg<|show max 1 (gwL l)<=hs.length by lia];simp only[WZ];rw[UB];intro d a;obtain⟨z,_,rfl⟩:=Rt.1 a;exact qS z
def gX (H:Be l)(h3:h<=3)(U:Up hs)(hw:∀z∈wkL l,z.1<=hs.length)(hg:gwL l<=(hs.length:Nat))(D:Dp p)
  (q3:∀m,(∃k,k<hs.length/\m=sp hs k)->(∀k,k<hs.length->m<=sp hs k)->((h:Nat):Rat)*m<SH hs (wkL l) / ((w4 l:Int):Rat)+p->Q (.bool false) F)
  (q4:∀m,(∃k,k<hs.length/\m=sp hs k)->(∀k,k<hs.length->m<=sp hs k)->¬((h:Nat):Rat)*m<SH hs (wkL l) / ((w4 l:Int):Rat)+p->Q (.bool true) F) :
  wp (d9 [.dat<|bsD l,.dat<|.int (h:Nat),.dat<|.tuple [qd p,hsD hs]] F) Q:=by
 have a:=λz d=>(U.hh z d).hg
 have o:=U.n2;have j:=qE a<|wkL l;have r:=H.len;refine D6.2<|w9q<|i9.2 #v[m5 rfl,j0 ?_];refine w6.2<|sH<|w9v rfl<|w9v rfl<|w9v rfl<|j3.2 ?_;have g:Hd p:=#v[QZ D.den<|QZ (show 100000<=2 ^ 20 by decide)<|Rf (by decide)<|by decide,QZ D.num<|QZ (show 100000<=2 ^ 20 by decide)<|Rf (by decide)<|by decide];refine EO H (vx U D) (ue U hg) U.n1 (by lia) D.sz a (λF Q q=>?_) (Bu H a) (Gp H a g) ?_ (λk f=>HS h3 a f) (λi=>absurd D.pos<|VB.2 i) (λ_ k f d _=>absurd (U.up k f)<|VB.2 d) (λ_ _ m c b e=>.inl #v[_,_,rfl,rfl,j0<|A4.2<|w9g rfl<|l7<|q3 m c b e]) (λ_ _ m c b e=>.inr #v[rfl,_,rfl,j0<|A4.2<|w9g rfl<|l7<|q4 m c b e])
 .refine JS H hw (by lia) (Rr<|dI _ _) ?_ (RH (by decide)<|by decide) (xq a) q;exact Ra (QZ j<|Rf (by decide)<|show 200*(wkL l).length<=1600 by lia) (RH (by decide)<|by decide)
 .exact#v[Ra (show((h:Rat)).num.natAbs<=2 ^ 2 by rw[Wv,Ue];lia)<|RH (by decide)<|by decide,Ra (show((h:Rat)).den<=2 ^ 2 by rw[Ww];decide)<|RH (by decide)<|by decide]
end
section
variable {Q:My->FdS->Prop}{h:Nat}
def um (H:Be l)(h3:h<=3)(hr:M7 l<(h:Int)*w4 l)(q:Q (.bool true) F):wp (d9 [.dat<|bsD l,.dat<|.int (h:Nat),.dat<|.tuple [qd<|drL l h,hsD<|upL<|hmL l 3]] F) Q:=by
 have d:=IH (w:=3) H (by decide);have ht:=H.tot;have D:=IZ H h3 hr;have a:∀z∈wkL l,1<=z.1/\z.1<=(hmL l 3):=λz c=>#v[(H.wk z c).1.1,by have:=FG c;lia]
 refine gX H h3 (IP d.1<|by lia) (λz c=>by rw[dW];exact(a z c).2) (by rw[dW];exact d.2.2.2) D (λm g _ b=>?_) (λ_ _ _ _=>q);exfalso;obtain⟨k,f,rfl⟩:=g;rw[dW]at f;have e:=DI a (wkL l).length<|QP _;rw[SJ,Ae]at e;have i:h*sp (upL<|hmL l 3) k=SH (upL<|hmL l 3) (wkL l) / ((w4 l:Int))+drL l h:=by
  rw[El f,Rat.mul_one,e];unfold drL;rw[TU];have:(((w4 l).toNat):Rat)=((w4 l:Int)):=by
   have j:(((w4 l).toNat:Nat))=w4 l:=by lia
   rw[<-Te,j]
  rw[this];grind
 rw[i]at b;exact Rat.lt_irrefl b
def jP (H:Be l)(h3:h<=3)(U:Up hs)(hw:∀z∈wkL l,z.1<=hs.length)(hg:gwL l<=(hs.length:Nat))(D:Dp p)(hr:¬M7 l<(h:Int)*w4 l)(q:Q (.bool false) F):wp (d9 [.dat<|bsD l,.dat<|.int (h:Nat),.dat<|.tuple [qd p,hsD hs]] F) Q:=by
 refine gX H h3 U hw hg D (λ_ _ _ _=>q) (λm d c b=>?_);exfalso;have a:=wV H U hw hr d c;have f:h*m-SH hs (wkL l) / ((w4 l:Int))<=0:=by
  refine SR λz=>?_
  have z:=Rat.not_le.1 z;have:=Dd z;lia
 have e:=D.pos;refine b ?_;grind
end
def nM {Q:Out->FdS->Prop}{F:FdS}(e:bd d E=some E1)(h:wp (body E1 F) λo F'=>∃E2,o = .nx E2/\wp (O3 bd body r E2 F') Q):wp (O3 bd body (d::r) E F) Q:=by
 rw[O3,e,QX,d4];refine j8 h ?_;rintro o c ⟨E2,b,a⟩
 subst b;exact a
def Ay {Q:Out->FdS->Prop}(h:Q (.nx E) F):wp (O3 bd body [] E F) Q:=d6.2 h
def JN :Ah [.int x,.int y]=some (.int<|min x y):=by
 show some (My.int<|if y<x then y else x)=_;congr 2;by_cases h:y<x
 .rw[QH h];lia
 .rw[QK h];lia
structure Ow (d:My):Prop where
 ex:∃(a b:Int) (p:Rat) (hs:List Rat),d = .tuple [.tuple [.int a,.int b],.tuple [qd p,hsD hs]]/\Frc a b/\Dp p/\Up hs/\hs.length=3
def GA (h2:2<=c)(h3:c<=100):∃p,.tuple [.int 1,.int c]=qd p/\Dp p:=by
 obtain⟨p,e⟩:=CW (d:=.tuple [.int 1,.int c]) (by show(decide (1<=c)&&decide (Int.gcd 1 c=1))=true;rw[Rg<|show 1<=c by lia];simp)
 refine#v[p,e,?_];unfold qd at e;simp only[My.tuple.injEq,Xq]at e;obtain⟨b,a⟩:=e;refine#v[?_,by lia,by lia];refine(Rat.lt_iff 0 p).2 ?_;simp;lia
def HA (h1:1<=t1)(h2:t1<t2)(h3:t2<t3)(h4:t3<=100):Up [((t1:Int):Rat),((t2:Int):Rat),((t3:Int):Rat)]:=by
 refine#v[show 1<=3 by decide,show 3<=100 by decide,λz a=>?_,λk b=>?_]
 .simp only[QQ,Sg,Uo]at a;rcases a with rfl | rfl | rfl
  .exact#v[by rw[Tb];decide,by rw[Ul];lia]
  .exact#v[by rw[Tb];decide,by rw[Ul];lia]
  .exact#v[by rw[Tb];decide,by rw[Ul];lia]
 .have e:(0:Rat)<((t1:Int)):=by exact_mod_cast (by lia)
  have d:((t1:Int):Rat)<((t2:Int)):=by exact_mod_cast h2
  have c:((t2:Int):Rat)<((t3:Int)):=by exact_mod_cast h3
  have b:k<3:=b;have:k=0\/k=1\/k=2:=by lia
  rcases this with rfl | rfl | rfl
  .show(0:Rat)<((t1:Int):Rat)-0;grind
  .show(0:Rat)<((t2:Int):Rat)-((t1:Int):Rat);grind
  .show(0:Rat)<((t3:Int):Rat)-((t2:Int):Rat);grind
def Hq:Tr v7 [.feed] 5 Ow:=Tr.of λF u=>by
 walk_at "kb";refine w9q<|n9.2<|i9.2<|w9d rfl ?_;refine B1 (by decide) (by decide) (by lia) λa E h g s1=>d5 E8 #v[m5 rfl,j0 ?_]
 refine w6.2<|qG.2<|ya.2<|c6.2<|n9.2<|i9.2<|w9d rfl ?_;refine B1 (by decide) (by decide) (by omega ) λx D n m s2=>d5 E8<|h7.2 #v[n6 rfl,m5 rfl,j0 ?_]
 refine w6.2<|T7.2<|aw.2<|c6.2<|i9.2<|h7.2<|d5 rfl ?_;refine nM rfl (Dq rfl (by simp)<|n9.2<|n9.2<|n9.2<|C2.2<|my rfl<|qo.2<|i9.2<|d5 rfl<|d5 rfl<|i9.2<|d5 E8<|w9d rfl ?_);refine B1 (by decide) (by decide) (by omega ) λy C l k s=>d5 E8 #v[_,rfl,?_]
 refine nM rfl (Dq rfl (by simp)<|n9.2<|n9.2<|n9.2<|C2.2<|my rfl<|qo.2<|i9.2<|d5 rfl<|d5 rfl<|i9.2<|d5 E8<|w9d rfl ?_);refine B1 (by decide) (by decide) (by omega ) λz B j i r=>d5 E8 #v[_,rfl,Ay<|j0 ?_]
 refine A4.2<|A6.2<|c6.2<|A6.2<|c6.2<|w9s rfl<|i9.2<|d5 X5<|w9c rfl<|h7.2 #v[n6 rfl,?_];refine c6.2<|A6.2<|c6.2<|A6.2<|c6.2<|i9.2<|c6.2<|n9.2<|i9.2<|w9d rfl ?_;refine B1 (by decide) (by decide) (by lia) λc A w v o=>d5 E8<|h7.2 #v[n6 rfl,c6.2<|ao.2<|c6.2<|aF.2<|K6.2<|C2.2<|my rfl<|d5 cA #v[n6 rfl,?_]]
 obtain⟨p,b,d⟩:=GA (c:=2+c) (by lia) (by lia);refine Gi [1+x,1+x+1+y,1+x+1+y+1+z] _ (λt _ F Q q=>A6.2<|w9c rfl<|c6.2<|i9.2<|h7.2 #v[n6 rfl,q]) (h7.2<|d5 ja<|h7.2 #v[n6 rfl,h7.2 #v[n6 rfl,l7 #v[by lia,?_]]]);refine#v[#v[2+a-1,2+a,p,[((1+x:Int)),((1+x+1+y:Int)),((1+x+1+y+1+z:Int)) ],?_,#v[by lia,by lia,?_,by lia],d,HA (by lia) (by lia) (by lia) (by lia),rfl]]
 .rw[b];show My.tuple [_,.tuple [qd p,.tuple _]] = .tuple [_,.tuple [qd p,.tuple _]];simp only[QL,RK,kx]
 .have:Int.gcd (2+a-1) (2+a)=1:=by
   have e:2+a=(2+a-1)+1:=by simp[*]
   rw[e];simp
  exact this
def Hl :hU [.int i,.int j]=some (.int<|if j > i then j else i):=rfl
structure Spl w (b:Bt):Prop where
 len:b.length<=2
 ok:∀c∈b,1<=c.2/\c.2<=3
 sum:O4 b=w
section
variable {F:FdS}{Q:My->FdS->Prop}
def jN (h1:1<=w)(h3:w<=3)(ht:F.t<=199993)(q:∀b F',F'.t<=F.t+1->Spl w b->Q (rwD cmD b) F') :
  wp (mRt (G9<|c8 (G9<|c8 (i3 A0<|vF 0<|vD (sC<|.int 2) l9)<|c8 (sV 1) k8) k8) [some .feed,some<|.dat<|.int w,none,none] F) (sqK m<|uC Q):=by
 refine A4.2<|A6.2<|c6.2<|A6.2<|c6.2<|w9d rfl ?_;refine B1 (by decide) (by decide) (by lia) λa e g f s1=>w9c rfl (h7.2 #v[n6 rfl,h7.2 #v[n6 rfl,Z1<|l7<|q [(a,w)] e (by simp[*] ) #v[by simp,λc d=>?_,by simp[O4]]]])
 rw[Rn.1 d];exact#v[h1,h3]
def jF (h1:2<=w)(h6:w<=6)(ht:F.t<=199993)(q:∀b F',F'.t<=F.t+3->Spl w b->Q (rwD cmD b) F') :
  wp ((mSq (G7 2<|sN hU<|c8 (sC<|.int 1)<|c8 (s2 bY (sW 1)<|sC<|.int 3) k8)
  (mSq (G7 3<|s2 Q4 (sW 2)<|i3 A0<|vF 0<|vD (s2 Q4 (s2 bY (sN Ah<|c8 (sC<|.int 3)<|c8 (s2 bY (sW 1)<|sC<|.int 1) k8)<|sW 2)<|sC<|.int 1) l9)
  (mRt<|G9<|c8 (G9<|c8 (i3 A0<|vF 0<|vD (sC<|.int 2) l9)<|c8 (sV 3) k8)<|c8 (G9<|c8 (i3 A0<|vF 0<|vD (sC<|.int 2) l9)<|c8 (s2 bY (sW 1)<|sW 3) k8) k8))) [some .feed,some<|.dat<|.int w,none,none] F) (uC Q):=by
 refine w9q<|ao.2<|c6.2<|i9.2<|c6.2<|w9s rfl<|i9.2<|d5 X5<|h7.2<|d5 Hl #v[m5 rfl,j0<|w6.2 ?_];obtain⟨d,e⟩:∃d,(if w-3 > 1 then w-3 else 1)=d:=#v[_,rfl];rw[e];have k:1<=d/\d<=3/\w-3<=d/\d<=w-1:=by split at e <;> lia
 refine N6.2<|w9s rfl<|i7.2<|lA.2<|kZ rfl<|A8.2<|n9.2<|n9.2<|ao.2<|c6.2<|i9.2<|c6.2<|w9s rfl<|i9.2<|d5 X5<|h7.2<|d5 JN<|w9w rfl<|d5 X5<|i9.2<|d5 E8<|j3.2 ?_;refine B1 (by omega ) (by omega ) (by lia) λr s j i s1=>d5 E8 #v[m5 rfl,j0 ?_]
 refine A4.2<|A6.2<|c6.2<|A6.2<|c6.2<|w9d rfl ?_;refine B1 (by decide) (by decide) (by lia) λa p o n s2=>w9c rfl<|h7.2 #v[n6 rfl,c6.2<|A6.2<|c6.2<|w9d rfl ?_]
 refine B1 (by decide) (by decide) (by lia) λb g m l h=>c6.2 (w9s rfl<|w9w rfl<|d5 X5<|h7.2 #v[n6 rfl,h7.2 #v[n6 rfl,l7<|q [(a,d+r),(b,w-(d+r))] g (by lia) #v[by simp,λc f=>?_,by simp[O4];lia]]])
 simp only[QQ,Sg,Uo]at f;rcases f with rfl | rfl
 .exact#v[by lia,by omega ]
 .exact#v[by omega,by lia]
def lS (h0:0<=w)(h6:w<=6)(ht:F.t<=199990)(q:∀b F',F'.t<=F.t+4->Spl w b->Q (rwD cmD b) F'):wp (J9 [.feed,.dat<|.int w] F) Q:=by
 walk_at "kb";refine w9i (aM.2<|w9s rfl<|i9.2<|d5 uW<|d5 rfl<|L9 (λe=>?_)<|λe=>?_)
 .have e:=Rh e;subst e;exact A4.2 (i9.2<|Z1<|l7<|q [] F (by lia) #v[by simp,λc h=>(nomatch h),rfl])
 .have e:=RX e;refine L0.2 (j0<|w9i<|yl.2<|aM.2<|w9s rfl<|i9.2<|d5 uW<|d5 rfl<|L9 (λd=>?_)<|λd=>?_)
  .have d:=Rh d;exact K7 rfl (jN (by simp[*] ) (by simp[*] ) (by lia) λb F' f a=>q b F' (by lia) a)
  .have d:=RX d;refine qj.2 (aM.2<|w9s rfl<|i9.2<|d5 rfl<|d5 rfl<|L9 (λg=>?_)<|λg=>?_)
   .have g:=Rh g;refine aM.2<|n9.2<|w9d rfl ?_;refine B1 (by decide) (by decide) (by lia) λz l k j s1=>i9.2 (d5 uW<|d5 rfl<|L9 (λi=>?_)<|λi=>?_)
    .exact jN (by lia) (by lia) (by lia) λb F' f a=>q b F' (by lia) a
    .exact L0.2 (j0<|jF (by lia) h6 (by lia) λb F' f a=>q b F' (by lia) a)
   .exact v8 rfl (L0.2<|j0<|jF (by lia) h6 (by lia) λb F' f a=>q b F' (by lia) a)
end
def CZ {v2:DE->M My}{F:FdS}{Q:Out->FdS->Prop}(h:wp (k1 E F) λa F1=>wp (v1 E F1) λb F2=>wp (k2 E F2) λa' F3=>wp (v2 E F3) λb' F4=>i<E.length/\(P8 c a).isSome=true/\(P8 c a').isSome=true/\Q (.nx<|E.set i<|some<|.dic true c<|N3 c (N3 c [] a b) a' b') F4) :
  wp (lg i c [(k1,v1),(k2,v2)] E F) Q:=by obtain⟨a,F1,k,b,F2,j,a',F3,g,b',F4,f,hl,e,d,q⟩:=h;refine#v[_,F4,?_,q];unfold lg;simp only[eX,k,j,g,f,QX];rw[QH #v[hl,by simp,by simp[e,d]]];rfl
abbrev BtS (b:Bt):Prop:=b.length<=2/\∀c∈b,1<=c.2/\c.2<=3
def tE {l:List Bw}(nd:(l.map (·.1)).Nodup)(h1:1<=l.length)(h4:l.length<=4)(ok:∀p∈l,BtS p.1/\1<=p.2/\p.2<=12)(he:E[5]? = some (some<|.dic true 0<|l.map<|kiD cmD)){m:DE->M Out}{Q:My->FdS->Prop}(q:∀l',Be l'->Q (bsD l') F) :
  wp (sN Y1 (c8 (sLC (R1<|sN dD<|c8 (iL 5 0) k8) 1 [5] (bN 0) M4<|G9<|c8 (sV 0)<|c8 (ig 1 0<|sV 0) k8) k8) E F) Q:=by
 have b:S9 E 5=some (true,0,l.map<|kiD cmD):=by unfold S9;rw[he]
 refine ao.2 (c6.2<|L3.Gg Kb JV oK Hn nd (by lia) b λc a=>h7.2<|d5 ja<|q c ?_);exact#v[by rw[a.length_eq];exact h1,by rw[a.length_eq];exact h4,λp d=>by have:=ok p<|a.mem_iff.1 d;exact#v[this.1.1,this.1.2,this.2]]
def xF (h1:1<=h)(h3:h<=3):Tr l5 [.feed,.dat<|.int (h:Nat)] 60 (λd=>∃l,d=bsD l/\Be l):=Tr.of λF hF=>by
 unfold l5;walk_at "kb";refine w9q<|w9d rfl ?_;refine B1 (by decide) (by decide) (by lia) λwy T y0 y1 s1=>#v[m5 rfl,j0<|w9i<|aM.2<|w9s rfl<|i9.2<|d5 uW<|d5 rfl<|L9 (λe=>?_)<|λe=>?_]
 .refine A4.2<|A6.2<|c6.2<|A6.2<|c6.2<|i7.2<|lA.2<|kZ rfl<|w9v rfl<|j3.2 ?_;refine lS (by simp[*] ) (by lia) (by lia) λb B s2 o=>c6.2<|n9.2<|i9.2<|w9d rfl ?_
  refine B1 (by decide) (by decide) (by lia) λf N f0 f1 V=>d5 E8 (h7.2 #v[n6 rfl,h7.2 #v[n6 rfl,Z1<|l7 #v[by lia,[(b,1+f)],rfl,by simp,by simp,λp g=>?_]]])
  rw[Rn.1 g];exact#v[o.len,o.ok,by show 1<=1+f;lia,by show 1+f<=12;lia]
 refine L0.2 (j0<|w9i<|aM.2<|w9s rfl<|i9.2<|d5 uW<|d5 rfl<|L9 (λe2=>?_)<|λe2=>?_)
 .refine w9q<|n9.2<|i9.2<|w9d rfl ?_;refine B1 (by decide) (by decide) (by lia) λf B f0 f1 s2=>d5 E8 #v[m5 rfl,j0 (w9q<|n9.2<|i9.2<|i7.2<|lA.2<|kZ rfl<|w9v rfl<|j3.2 ?_) ]
  refine B1 (by lia) (by lia) (by lia) λap N S R V=>d5 E8 #v[m5 rfl,j0<|w6.2<|CZ ?_]
  refine i7.2<|lA.2<|kZ rfl<|A8.2<|w9s rfl<|w9w rfl<|d5 X5<|j3.2 ?_;refine lS (by lia) (by lia) (by lia) λb F4 s4 o=>w9g rfl<|i7.2<|lA.2<|kZ rfl<|A8.2<|w9s rfl<|w9w rfl<|d5 E8<|j3.2 ?_
  refine lS (by lia) (by lia) (by lia) λu F5 s5 t=>w9g rfl #v[m5 rfl,oK.is b,oK.is u,j0<|A4.2 ?_]
  have x:b≠u:=λz=>by have a:=o.sum;have a':=t.sum;rw[z,a']at a;lia
  have L:=kj (y:=My.int) oK b (1+f) [];have K:=kj (y:=My.int) oK u (1+f)<|dN [] b<|1+f;have el:dN (dN [] b<|1+f) u (1+f)=[(b,1+f),(u,1+f)]:=by unfold dN;simp[RM x]
  refine tE (l:=[(b,1+f),(u,1+f)]) (m:=mNx) (by simp[x]) (by simp) (by simp) (λp g=>?_) ?_ λJ s=>Z1 (l7 #v[by lia,J,rfl,s])
  .simp only[QQ,Sg,Uo]at g;rcases g with rfl | rfl
   .exact#v[#v[o.len,o.ok],by show 1<=1+f;lia,by show 1+f<=12;lia]
   .exact#v[#v[t.len,t.ok],by show 1<=1+f;lia,by show 1+f<=12;lia]
  .rw[<-el,<-K,<-L];rfl
 refine L0.2<|j0<|w6.2<|ym (m5 rfl)<|j0<|w6.2<|T7.2<|aw.2<|c6.2<|n9.2<|i9.2<|w9d rfl ?_;refine B1 (by decide) (by decide) (by lia) λQ B X W t2=>d5 E8<|h7.2 ?_
 obtain⟨n,en⟩:∃n:Nat,1+Q=(n:Int):=#v[(1+Q).toNat,by lia];rw[en];refine d5 (lr<|by lia) ?_;refine R9 (λj E F'=>F'.t<=B.t+8*j/\∃(l:List Bw) (H G D C:Option DV),(l.map (·.1)).Nodup/\l.length<=j/\(0<j->1<=l.length)/\(∀p∈l,BtS p.1/\1<=p.2/\p.2<=12)/\E=[some .feed,some<|.dat<|.int (h:Nat),H,none,none,some<|.dic true 0<|l.map<|kiD cmD,G,D,C]) _ 0 _ B #v[by lia,[],_,none,none,none,WB,QP _,λz=>absurd z<|Tf 0,λp g=>(nomatch g),rfl] ?_ ?_
 .rintro j d e E T ⟨ht,l,H,G,D,C,I,hl,g,q,rfl⟩;rw[Rx] at *;obtain⟨hj,rfl⟩:=Ba (f:=λi:Nat=>My.int (i:Int)) e;refine#v[_,rfl,w9q<|n9.2<|i9.2<|w9d rfl ?_];refine B1 (by decide) (by decide) (by lia) λr N r0 r1 O=>?_
  obtain⟨k,hk,ek⟩:∃k:Nat,k<=2/\ixD (.list [.int 0,.int 1,.int 2,.int 2]) (.int r)=some (.int (k:Int)):=by
   have:r=0\/r=1\/r=2\/r=3:=by lia
   rcases this with rfl | rfl | rfl | rfl
   .exact#v[0,by decide,rfl]
   .exact#v[1,by decide,rfl]
   .exact#v[2,by decide,rfl]
   .exact#v[2,by decide,rfl]
  refine d5 ek #v[m5 rfl,j0<|w9q<|ao.2<|c6.2<|aF.2<|aw.2<|w9c rfl<|h7.2<|d5 (lr<|by lia) #v[sz (by simp;lia),?_]];refine Je (P:=λ_ y=>∃c:Int×Int,y=cmD c/\1<=c.2/\c.2<=3) (c:=2) _ _ (by decide) (λd hd F hF=>?_) (by simp;lia) λzs N A hz O=>?_
  .refine A6.2<|c6.2<|w9d rfl ?_;refine B1 (by decide) (by decide) (by lia) λa Fa S R U=>c6.2<|n9.2<|i9.2<|w9d rfl ?_
   refine B1 (by decide) (by decide) (by lia) λb Fb b0 b1 tb=>d5 E8 (h7.2 #v[n6 rfl,by lia,(a,1+b),rfl,by lia,by lia])
  .rw[QI,Uu]at A O;obtain⟨b,rfl,o⟩:=vT λz h=>(let #v[_,_,h]:=hz z h;h)
   rw[QI]at A;refine h7.2<|d5 ja #v[m5 rfl,j0<|EI rfl<|n9.2<|i9.2<|w9d rfl ?_];refine B1 (by decide) (by decide) (by lia) λa Fa S R U=>d5 E8 (w9g rfl #v[oK.is b,by rw[QI];lia,?_])
   have w:=kj (y:=My.int) oK b (1+a) l;obtain⟨k1,k2⟩:=vH I;have M:BtS b:=#v[by lia,o];have Z:=wM (v:=1+a) q #v[M,by lia,by lia];have Y:1<=(dN l b<|1+a).length:=by
    unfold dN;split
    .rename_i z;have:=List.length_pos_of_mem z;rw[QI]at this ⊢;lia
    .rw[RW];simp
   exact#v[_,rfl,by lia,dN l b<|1+a,_,_,_,_,k1,by lia,λ_=>Y,Z,by rw[<-w];rfl]
 .rintro E T ⟨ht,l,H,G,D,C,I,hl,g,q,rfl⟩;rw[Rx,QI,Uu] at *;exact j0 (A4.2<|tE (m:=mNx) I (g<|by lia) (by lia) q rfl λJ s=>l7 #v[by lia,J,rfl,s])
def jl {ms:DE->M (List My)}{F:FdS}{Q:Out->FdS->Prop}(h:wp (ms E F) λxs F1=>∃x y E1 E2,xs=[x,y]/\bN i x E=some E1/\bN j y E1=some E2/\Q (.nx E2) F1):wp (jj i j ms E F) Q:=by
 unfold jj;rw[d4];refine j8 h ?_;rintro xs F1 ⟨x,y,E1,E2,e,b,a,q⟩
 subst e;dsimp only;rw[b,QX,a,QX];exact d6.2 q
def yb {m2:DE->M My}{F:FdS}{Q:Out->FdS->Prop}(he:E[i]? = some none)(hm:∀F,eX ms E F=some (ds,F))(hk:nW ds=some ws)(hn:ws.Nodup/\ws.length<=15)
  (h:wp (m0 E F) λa F1=>wp (m1 E F1) λb F2=>wp (m2 E F2) λc F3=>b = .str w/\eqD true a ((fN ds w).getD c)=some (.bool false)/\Q (.nx E) F3):wp (dA i ms m0 m1 m2 mb E F) Q:=by
 obtain⟨a,F1,k,b,F2,j,c,F3,g,f,d,q⟩:=h;subst f;refine#v[.nx E,F3,?_,q];have e:dR E i=true:=by unfold dR;rw[he]
 unfold dA;rw[QH e,hm,QX];rw[hk];dsimp only;rw[QH hn,k,QX];rw[j,QX];dsimp only;rw[g,QX];rw[d,QX];rfl
def xA {mt:DE->M Bool}{rest:DE}{Q:List My->FdS->Prop}(h1:∀F (Q:Bool->FdS->Prop),Q false F->wp (mt (some (.dat d1)::rest) F) Q)(h2:∀F (Q:Bool->FdS->Prop),Q false F->wp (mt (some (.dat d2)::rest) F) Q)(q:Q [] F) :
  wp (T5 (bN 0) mt me [d1,d2] (o::rest) F) Q:=by have b:bN 0 d1 (o::rest)=some (some (.dat d1)::rest):=rfl;have a:bN 0 d2 (some (.dat d1)::rest)=some (some (.dat d2)::rest):=rfl;rw[T5,b,QX,d4];refine h1 F _ ?_;rw[QK (by simp),T5,a,QX,d4];refine h2 F _ ?_;rw[QK (by simp),T5];exact d6.2 q
def tnS (b:Bool):Str:=if b then "told" else "no"
def eqd (h1:SeqAt.shaped d=true)(h2:SeqAt.shaped e=true)(hs:∀x y,d = .str x->e = .str y->False)(h:(if g=true then !PyData.eqv d e else My.eqv d e)=r):eqD g d e=some (.bool r):=by
 unfold eqD;split
 .exact(hs _ _ rfl rfl).elim
 .rw[QH #v[h1,h2],h]
def wa (a b):eqD true (.list [.str<|tnS a,.str<|tnS b]) (.list [.str<|tnS a,.str<|tnS b])=some (.bool false):=by cases a <;> cases b <;> exact eqd (by decide +kernel) (by decide +kernel) (λ_ _ e _=>by cases e) (by decide +kernel)
def AA:eqD true (.list []) (.list [])=some (.bool false):=eqd (by decide +kernel) (by decide +kernel) (λ_ _ e _=>by cases e) (by decide +kernel)
def IU (a):eqD false (.str<|tnS a) (.str "no")=some (.bool !a):=by
 cases a
 .show some (My.bool<|decide ((tnS false) = "no"))=_;rw[Rg<|show tnS false = "no" from rfl];rfl
 .show some (My.bool<|decide ((tnS true) = "no"))=_;rw[Rk<|by decide +kernel];rfl
def gq (a):eqD false (.str<|tnS a) (.str "told")=some (.bool a):=by
 cases a
 .show some (My.bool<|decide ((tnS false) = "told"))=_;rw[Rk<|by decide +kernel]
 .show some (My.bool<|decide ((tnS true) = "told"))=_;rw[Rg<|show tnS true = "told" from rfl]
def rn (w):eqD true (.str w) (.str w)=some (.bool false):=by show some (My.bool (!decide (w=w)))=_;rw[Rg rfl];rfl
abbrev vC:List (My×My):=[(.str "rests",.list [.str "no",.str "told"]),(.str "swings",.list [.str "no",.str "no"])]
abbrev EE (h:Nat)(l:List Bw)(xs:List Int)(w:Str)(rd bd pd qd':My)(o2 o12:Option DV):DE :=
 [none,some .feed,o2,some<|.dat<|.int (h:Nat),some<|.dat<|bsD l,some<|.dat<|fT xs,some<|.dat<|.str w,some<|.dat rd,some<|.dat bd,some<|.dat pd,some<|.dat qd',none,o12]
section
variable {Q:Out->FdS->Prop}
def Ht (hd:(fN vC w).getD (.list [.str "told",.str "no"]) = .list [.str<|tnS a,.str<|tnS b])(hr:a=false->rx = .str w)(hb:b=false->bx = .str w)
  (h1:∀F (Q:My->FdS->Prop),Q (.bool a) F->wp (i4 [.dat<|fT xs,.dat<|.int (h:Nat),.dat<|if a then rx else pd] F) Q)
  (h2:∀F (Q:My->FdS->Prop),Q (.bool b) F->wp (d9 [.dat<|bsD l,.dat<|.int (h:Nat),.dat<|if b then bx else qd'] F) Q)
  (q:∀pd qd' o12,Q (.nx<|EE h l xs w (.tuple [.str<|tnS a,rx]) (.tuple [.str<|tnS b,bx]) pd qd' o2 o12) F) :
  wp (mSq Q5 (mSq Q9<|mSq O0<|mSq G2<|mSq D2 D8) (EE h l xs w (.tuple [.str<|tnS a,rx]) (.tuple [.str<|tnS b,bx]) pd qd' o2 o12) F) Q:=by
 refine w6.2 (yb (ds:=vC) (w:=w) rfl (λF=>rfl) rfl #v[by decide +kernel,by decide] ?_);refine jZ.2<|c6.2<|w9s rfl<|i9.2<|d5 rfl<|c6.2<|w9s rfl<|i9.2<|d5 rfl<|h7.2 #v[n6 rfl,w9g rfl<|i9.2 #v[rfl,?_,j0<|w6.2 ?_]]
 .rw[hd];exact wa a b
 refine U1.2<|aM.2<|n9.2<|aF.2<|K6.2<|A6.2<|w9c rfl<|w9c rfl<|h7.2 #v[n6 rfl,d5 X6 #v[n6 rfl,?_]];have d:∀c x i F Q,(c=false->x = .str w)->Q false F->wp ((tM (uB<|s2 (eqD false) (s2 ixD (sW 0)<|sC<|.int 0)<|sC<|.str "no")<|uB<|s2 (eqD true) (s2 ixD (sW 0)<|sC<|.int 1)<|sW 1) (some (.dat<|.tuple [.str<|tnS c,x])::some (.dat<|.str w)::i) F) Q:=λc x i F Q k q=>by
  refine qj.2<|aM.2<|n9.2<|w9s rfl<|i9.2<|d5 rfl<|i9.2<|d5 (IU c)<|d5 rfl ?_;cases c with
  | true=>exact v8 rfl q
  | false =>refine K7 rfl<|aM.2<|n9.2<|w9s rfl<|i9.2<|d5 rfl<|w9w rfl<|d5 (z:=.bool false) ?_<|d5 rfl q;rw[k rfl];exact rn w
 refine xA (λF Q q=>d a rx [] F Q hr q) (λF Q q=>d b bx [] F Q hb q) ?_;refine i9.2<|d5 AA<|d5 rfl<|v8 rfl<|L0.2<|j0<|w6.2 ?_;have j:∀{Q},wp (mSq G2 (mSq D2 D8) (EE h l xs w (.tuple [.str<|tnS a,rx]) (.tuple [.str<|tnS b,bx]) (if a then rx else pd) qd' o2 o12) F) Q->wp (O0 (EE h l xs w (.tuple [.str<|tnS a,rx]) (.tuple [.str<|tnS b,bx]) pd qd' o2 o12) F) (sqK (mSq G2<|mSq D2 D8) Q):=λ{Q} q=>by
  refine U1.2<|aM.2<|n9.2<|w9s rfl<|i9.2<|d5 rfl<|i9.2<|d5 (gq a)<|d5 rfl ?_;cases a with
  | true=>exact K7 rfl<|N6.2<|w9s rfl<|i9.2<|d5 rfl #v[m5 rfl,j0 q]
  | false=>exact v8 rfl<|L0.2<|j0 q
 refine j<|w6.2 ?_;have g:∀{Q} {pd},wp (mSq D2 D8 (EE h l xs w (.tuple [.str<|tnS a,rx]) (.tuple [.str<|tnS b,bx]) pd (if b then bx else qd') o2 o12) F) Q->wp (G2 (EE h l xs w (.tuple [.str<|tnS a,rx]) (.tuple [.str<|tnS b,bx]) pd qd' o2 o12) F) (sqK (mSq D2 D8) Q):=λ{Q pd} q=>by
  refine U1.2<|aM.2<|n9.2<|w9s rfl<|i9.2<|d5 rfl<|i9.2<|d5 (gq b)<|d5 rfl ?_;cases b with
  | true=>exact K7 rfl<|N6.2<|w9s rfl<|i9.2<|d5 rfl #v[m5 rfl,j0 q]
  | false=>exact v8 rfl<|L0.2<|j0 q
 refine g<|w6.2 ?_;refine N6.2<|jZ.2<|c6.2<|i7.2<|w9v rfl<|w9v rfl<|w9v rfl<|j3.2<|h1 _ _ ?_;refine c6.2<|i7.2<|w9v rfl<|w9v rfl<|w9v rfl<|j3.2<|h2 _ _<|h7.2 #v[n6 rfl,m5 rfl,j0 ?_];have f:jX (.list [.bool a,.bool b])=true:=by cases a <;> cases b <;> decide +kernel
 have e:jD [.list [.bool a,.bool b]]=some (.str (My.list [.bool a,.bool b]).shown):=by unfold jD;simp only[f,SA]
 refine U1.2<|aM.2<|n9.2<|ao.2<|c6.2<|w9w rfl<|h7.2<|d5 e ?_;refine ao.2<|c6.2<|jZ.2<|c6.2<|n9.2<|w9s rfl<|i9.2<|d5 rfl<|i9.2<|d5 (gq a) ?_;refine c6.2<|n9.2<|w9s rfl<|i9.2<|d5 rfl<|i9.2<|d5 (gq b)<|h7.2 #v[n6 rfl,h7.2<|d5 e<|d5 (rn _)<|d5 rfl<|v8 rfl<|L0.2 ?_];exact q _ _ _
end
def HK:(fN vC "rests").getD (.list [.str "told",.str "no"]) = .list [.str<|tnS false,.str<|tnS true]:=by rfl
def Ja:(fN vC "swings").getD (.list [.str "told",.str "no"]) = .list [.str<|tnS false,.str<|tnS false]:=by rfl
def HJ {w:Str}(h:w = "runs" \/ w = "still"):(fN vC w).getD (.list [.str "told",.str "no"]) = .list [.str<|tnS true,.str<|tnS false]:=by rcases h with rfl | rfl <;> rfl
def JE (h1:1<=j)(h2:j<=13):Frc ((2:Int) ^ j-1) ((2:Int) ^ j):=by
 have e:((2:Int) ^ j)=((2 ^ j:Nat)):=by push_cast;rfl
 have a:2 ^ 1<=2 ^ j:=Rf (by decide) h1;have b:2 ^ j<=2 ^ 13:=Rf (by decide) h2;rw[e];generalize 2 ^ j=z at a b;refine#v[by lia,by lia,?_,by lia];have c:(z:Int)=(z-1)+1:=by simp[*]
 have:Int.gcd (z-1) ((z-1)+1)=1:=by simp
 rwa [<-c]at this
section
variable {F:FdS}{Q:Out->FdS->Prop}
def Fo (ht:F.t<=1000)(q:∀F' o3 o4 o5 o6 o7 o8 o9 o10 o12,F'.t<=F.t+66->Q (.nx [none,some .feed,o2,o3,o4,o5,o6,o7,o8,o9,o10,none,o12]) F') :
  wp (mSq Z4 (mSq Z2<|mSq Y6<|mSq Z7<|mSq Z5<|mSq U9<|mSq Q5<|mSq Q9<|mSq O0<|mSq G2<|mSq D2 D8) [none,some .feed,o2,o3,o4,o5,o6,o7,o8,o9,o10,none,o12] F) Q:=by
 refine w9q<|n9.2<|i9.2<|w9d rfl ?_;refine B1 (by decide) (by decide) (by omega ) λr Z W V s1=>d5 E8 #v[m5 rfl,j0 ?_]
 obtain⟨h,O⟩:∃h:Nat,1+r=(h:Int):=#v[(1+r).toNat,by lia];rw[O];have E:1<=h:=by lia
 have n:h<=3:=by lia
 refine w9q<|i7.2<|lA.2<|kZ rfl<|w9v rfl<|j3.2 ?_;refine(xF E n).wp (by lia) λd T s2 D=>?_
 obtain⟨l,rfl,H⟩:=D;refine#v[m5 rfl,j0 ?_];refine w9q (i7.2<|w9v rfl<|j3.2<|yW H λw L N g hl R P=>#v[m5 rfl,j0 ?_]);have Y:Fy w L N (w4 l) h:=#v[g,hl,H.tot.2,E,n];have u:=DD (hh:=h) R P;unfold Z7;rw[kL];refine w9q<|i7.2<|w9v rfl<|w9v rfl<|j3.2 ?_;refine oQ g (by lia) n #v[m5 rfl,j0 ?_];rw[u];have m:∀c:List Rat,c.length=3->(∀z∈wkL l,z.1<=c.length)/\gwL l<=(c.length:Nat):=λc e=>by
  rw[e];refine#v[λz A=>(H.wk z A).1.2,?_];by_cases o:(wkL l).map (·.1)=[]
  .unfold gwL;rw[QH o];simp[*]
  .unfold gwL;rw[QK o];obtain⟨z,A,X⟩:=Rt.1<|Z8 o;have:=(H.wk z A).1.2;lia
 have tail:∀a b rx bx,(fN vC<|wdL l h).getD (.list [.str "told",.str "no"]) = .list [.str<|tnS a,.str<|tnS b]->(a=false->rx = .str (wdL l h))->(b=false->bx = .str (wdL l h)) ->
   (∀x y,Frc x y->∀F Q,Q (.bool a) F->wp (i4 [.dat<|fT w,.dat<|.int h,.dat<|if a then rx else .tuple [.int x,.int y]] F) Q) ->
   (∀p c,Dp p->Up c->c.length=3->∀F Q,Q (.bool b) F->wp (d9 [.dat<|bsD l,.dat<|.int h,.dat<|if b then bx else .tuple [qd p,hsD c]] F) Q) ->
   wp (mSq U9 (mSq Q5<|mSq Q9<|mSq O0<|mSq G2<|mSq D2 D8) [none,some .feed,o2,some<|.dat<|.int h,some<|.dat<|bsD l,some<|.dat<|fT w,some<|.dat<|.str<|wdL l h,some<|.dat<|.tuple [.str<|tnS a,rx],some<|.dat<|.tuple [.str<|tnS b,bx],o9,o10,none,o12] T) Q:=λa b rx bx hg k J M K=>by
  refine w6.2<|dS.2<|i7.2<|lA.2<|kZ rfl<|j3.2 ?_;refine Hq.wp (by lia) λd S U D=>?_
  obtain⟨x,y,p,c,rfl,C,t,s,f⟩:=D.ex;refine d5 rfl<|j0 ?_;refine Ht hg k J (M x y C) (K p c t s f) λ_ _ _=>q S _ _ _ _ _ _ _ _ _ (by lia)
 refine w6.2<|jl<|c6.2<|i7.2<|w9v rfl<|w9v rfl<|j3.2 ?_;by_cases k:M7 l<h*w4 l
 .have v:wdL l h = "rests":=by unfold wdL;rw[QH k]
  refine iN Y (λ_=>?_) (λz=>?_)
  .refine c6.2 (i7.2<|w9v rfl<|w9v rfl<|j3.2<|eF H n (λz=>absurd k z) λ_=>h7.2 #v[_,_,_,_,rfl,rfl,rfl,j0 ?_]);rw[u];refine tail false true (.str<|wdL l h) _ (by rw[v];exact HK) (λ_=>rfl) (λz=>nomatch z) (λx y g F Q q=>eU Y g (λz=>?_) λ_=>q) (λp c t s f F Q q=>um H n k q);rcases wd Y with ⟨_,o⟩ | ⟨i,_⟩
   .exact absurd z<|o x y g.a0 g.ab
   .rw[u,v]at i;exact absurd i (by decide +kernel)
  .rw[u,v]at z;exact absurd z (by decide +kernel)
 .rcases wd Y with ⟨i,o⟩ | ⟨i,o⟩
  .refine iN Y (λ_=>?_) (λz=>?_)
   .refine c6.2 (i7.2<|w9v rfl<|w9v rfl<|j3.2<|eF H n (λ_=>h7.2 #v[_,_,_,_,rfl,rfl,rfl,j0 ?_]) λz=>absurd z k);rw[u]at i ⊢;have v:wdL l h = "swings":=by
     rcases i with e | e
     .exfalso;unfold wdL at e;rw[QK k]at e;split at e
      .exact absurd e (by decide +kernel)
      .split at e <;> exact absurd e (by decide +kernel)
     .exact e
    refine tail false false (.str<|wdL l h) (.str<|wdL l h) (by rw[v];exact Ja) (λ_=>rfl) (λ_=>rfl) (λx y g F Q q=>eU Y g (λz=>absurd z<|o x y g.a0 g.ab) λ_=>q) (λp c t s f F Q q=>jP H n s (m c f).1 (m c f).2 t k q)
   .rcases i with e | e <;> rw[e]at z <;> exact absurd z (by decide +kernel)
  .refine iN Y (λz=>?_) (λ_ j I G B=>?_)
   .rcases i with e | e <;> rw[e]at z <;> exact absurd z (by decide +kernel)
   .refine c6.2 (i7.2<|w9v rfl<|w9v rfl<|j3.2<|eF H n (λ_=>h7.2 #v[_,_,_,_,rfl,rfl,rfl,j0 ?_]) λz=>absurd z k);rw[u]at i;exact tail true false (.tuple [.int<|(2) ^ j-1,.int<|(2) ^ j]) (.str<|wdL l h) (HJ i) (λz=>nomatch z) (λ_=>rfl) (λx y g F Q q=>eU Y (JE I G) (λ_=>q) λz=>absurd B z) (λp c t s f F Q q=>jP H n s (m c f).1 (m c f).2 t k q)
end
def fin (ns):∃F',mB ([none,some .feed]++List.replicate 11 none) (qp ns)=some (.rt<|.bool true,F'):=by
 have p:wp (mB [none,some .feed,none,none,none,none,none,none,none,none,none,none,none]<|qp ns) λo _=>o = .rt (.bool true):=by
  have ht:(qp ns).t=0:=rfl;refine w6.2 (T7.2<|aw.2<|c6.2<|i9.2<|h7.2<|d5 (lr<|by decide) ?_);refine R9 (λi E F'=>F'.t<=66*i/\∃m l k j h g f c b a,E=[none,some .feed,m,l,k,j,h,g,f,c,b,none,a]) _ 0 _ _ #v[by simp[*],none,none,none,none,none,none,none,none,none,none,rfl] ?_ ?_
  .rintro i d e E s ⟨q,m,l,k,j,h,g,f,c,b,a,rfl⟩;rw[Rx] at *;have u:i<4:=by have:=(QR.1 e).1;simpa using this
   refine#v[_,rfl,Fo (by lia) λF' _ _ _ _ _ _ _ _ _ r=>#v[_,rfl,by lia,_,_,_,_,_,_,_,_,_,_,rfl]]
  .rintro E s ⟨_,m,l,k,j,h,g,f,c,b,a,rfl⟩;refine j0 ?_;exact A4.2<|i9.2 rfl
 obtain⟨o,F',e,rfl⟩:=p;exact#v[F',e]
end K69
namespace K69
open PySem L2 L3
def all_mk {l:PySem.W.OpenLaw}(X:K.In h)(G:h.Ns XS mg)(hfa:mg "law" = some (.ref fa))
      
    (alaw:PySem.W.nsIn K XS "law" = some (some<|.ref flaw)) (llaw:K.lookup flaw=some #v[oclaw,odlaw,.func<|PySem.W.fnOf "law" "law" (defArgs Kn) (defBody Kn) (defScope Kn) .none kVlaw dclaw pmlaw anlaw cdlaw ctlaw,sllaw]) (claw:PySem.W.codeIn K cdlaw "law" = true) (klaw:PySem.W.keepIn K (.ref flaw)=true)
    (Of:L3.FI K "is_number" Lj)
    (Me:L3.FI K "is_number_from" KG)
    (Ni:L3.FI K "is_tuple_of" KQ)
    (Mf:L3.FI K "common_divisor" KH)
    (Nj:L3.FI K "is_fraction" KR)
    (OA:L3.FI K "fraction" Lz)
    (Qq:L3.FI K "plus" NT)
    (PP:L3.FI K "minus" MR)
    (PQ:L3.FI K "times" MS)
    (Qr:L3.FI K "over" NU)
    (PR:L3.FI K "power" MT)
    (Qt:L3.FI K "less" NV)
    (Pc:L3.FI K "mean_of" KU)
    (OB:L3.FI K "all_lots" KY)
    (PU:L3.FI K "added" MU)
    (PX:L3.FI K "total" MV)
    (OC:L3.FI K "share_of" LA)
    (Qu:L3.FI K "mean" NW)
    (Pd:L3.FI K "word_of" LQ)
    (ND:L3.FI K "mean_power" KZ)
    (PY:L3.FI K "rises" MW)
    (OD:L3.FI K "lets_run" LB)
    (Og:L3.FI K "run_paper" KP)
    (Mu:L3.FI K "greatest_work" KA)
    (Mg:L3.FI K "is_shaped_back" Kx)
    (OE:L3.FI K "steps_of" La)
    (PZ:L3.FI K "least" MX)
    (Nk:L3.FI K "mean_height" Kz)
    (Oh:L3.FI K "lets_back" Lk)
    (Pe:L3.FI K "work_in" Ls)
    (Pf:L3.FI K "flow_of" KW)
    (NF:L3.FI K "back_paper" KO)
    (Oi:L3.FI K "_law_feed" Ll)
    (Oj:L3.FI K "_law_draw" Lm)
    (NG:L3.FI K "_law_split" Lb)
    (NH:L3.FI K "_law_beats" Kt)
    (OF:L3.FI K "_law_run" LC)
    (Ol:L3.FI K "_law_back" Ln)
    (Mv:L3.FI K "_law_lets_run" KN)
    (Mh:L3.FI K "_law_lets_back" KI)
    (OG:L3.FI K "_law_own" Lc)
    (zabs:PySem.W.nsIn K XS "abs" = some none)
    (zall:PySem.W.nsIn K XS "all" = some none)
    (zbool:PySem.W.nsIn K XS "bool" = some none)
    (zenumerate:PySem.W.nsIn K XS "enumerate" = some none)
    (zint:PySem.W.nsIn K XS "int" = some none)
    (zisinstance:PySem.W.nsIn K XS "isinstance" = some none)
    (zlen:PySem.W.nsIn K XS "len" = some none)
    (zlist:PySem.W.nsIn K XS "list" = some none)
    (zmax:PySem.W.nsIn K XS "max" = some none)
    (zmin:PySem.W.nsIn K XS "min" = some none)
    (zrange:PySem.W.nsIn K XS "range" = some none)
    (zrepr:PySem.W.nsIn K XS "repr" = some none)
    (zsorted:PySem.W.nsIn K XS "sorted" = some none)
    (zsum:PySem.W.nsIn K XS "sum" = some none)
    (ztuple:PySem.W.nsIn K XS "tuple" = some none)
    (zzip:PySem.W.nsIn K XS "zip" = some none)
         (ga_NOUGHT:PySem.W.nsIn K XS "NOUGHT" = some (some<|.ref t_NOUGHT)) (gl_NOUGHT:K.lookup t_NOUGHT=some #v[.type "tuple",dd_NOUGHT,.seq it_NOUGHT n_NOUGHT,sl_NOUGHT]) (gq_NOUGHT:L3.intsV it_NOUGHT.toList=some ([0,1]:List Int))
         (ga_ONE:PySem.W.nsIn K XS "ONE" = some (some<|.ref t_ONE)) (gl_ONE:K.lookup t_ONE=some #v[.type "tuple",dd_ONE,.seq it_ONE n_ONE,sl_ONE]) (gq_ONE:L3.intsV it_ONE.toList=some ([1,1]:List Int))
     (aE_WaitError:PySem.W.nsIn K XS "WaitError" = some (some<|.ref x_WaitError))
     (aE_NoPaper:PySem.W.nsIn K XS "NoPaper" = some (some<|.ref x_NoPaper))
     (aE_NoRest:PySem.W.nsIn K XS "NoRest" = some (some<|.ref x_NoRest))
       {hd_NoPaper sn_NoPaper sub_NoPaper ab_NoPaper col_NoPaper dd_NoPaper k0_NoPaper k1_NoPaper k2_NoPaper k3_NoPaper k5_NoPaper}   
    (obj_NoPaper:K.lookup x_NoPaper=some (PySem.excClassObj nm_NoPaper q_NoPaper x_NoPaper N_NoPaper bs_NoPaper (.ref x_WaitError::L3.vMro) hd_NoPaper sn_NoPaper sub_NoPaper ab_NoPaper col_NoPaper dd_NoPaper k0_NoPaper k1_NoPaper k2_NoPaper k3_NoPaper k5_NoPaper "ValueError.__new__")) (tp_NoPaper:PySem.W.excIn K x_WaitError L3.vMro "ValueError.__new__" = true)
    (in_NoPaper:PySem.W.findIn K (.ref x_NoPaper) "__init__" = some (some<|.ref fi_NoPaper)) (fn_NoPaper:PySem.W.typeIn K (.ref fi_NoPaper)=some (.type "function")) (ca_NoPaper:PySem.W.specialIn K (.ref x_NoPaper) "__call__" = some (some<|.builtin "type.__call__")) (ty_NoPaper:PySem.W.instIn K (.ref x_NoPaper) (.type "type")=some true) (kp_NoPaper:PySem.W.keepIn K (.ref x_NoPaper)=true) (di_NoPaper:PySem.W.hasDictIn K x_NoPaper=true) (sa_NoPaper:PySem.W.findIn K (.ref x_NoPaper) "__setattr__" = some (some<|.builtin "object.__setattr__"))
    (li_NoPaper:K.lookup fi_NoPaper=some #v[oci_NoPaper,odi_NoPaper,.func<|PySem.W.fnOf "__init__" "NoPaper.__init__" (defArgs ini_NoPaper) (defBody ini_NoPaper) (defScope ini_NoPaper) .none kVi_NoPaper dci_NoPaper pmi_NoPaper ani_NoPaper cdi_NoPaper cti_NoPaper,sli_NoPaper]) (ci_NoPaper:PySem.W.codeIn K cdi_NoPaper "NoPaper.__init__" = true)
    (ga_NoPaper_:PySem.W.findIn K (.ref x_NoPaper) "__getattribute__" = some (some<|.builtin "BaseException.__getattribute__")) (gn_NoPaper:PySem.W.findIn K (.ref x_NoPaper) "__getattr__" = some none) (mb_NoPaper:PySem.W.mroIn K x_NoPaper (.type "BaseException")=some true) (mo_NoPaper:PySem.W.mroIn K x_NoPaper (.type "object")=some true) (cc_NoPaper:PySem.W.findIn K (.ref x_NoPaper) "__class__" = some (some<|.builtin "object.__class__")) (cg_NoPaper:PySem.W.specialIn K (.builtin "object.__class__") "__get__" = some (some<|.builtin "getset_descriptor.__get__")) (ct_NoPaper:PySem.W.takesIn K (.builtin "object.__class__")=some true)
    (sb_NoPaper:PySem.W.subIn K (.ref x_WaitError) (.type "BaseException")=some true) (ko_NoPaper:PySem.W.kitOne K (.ref x_NoPaper) (.ref x_WaitError)=some true) (ne_NoPaper:(Xx.ref x_NoPaper == Xx.ref x_WaitError)=false) (ve_NoPaper:PySem.W.kitOne K (.ref x_NoPaper) (.type "ValueError")=some true) (st_NoPaper:PySem.W.kitAny K (.ref x_NoPaper) []=some false)
    (na_NoPaper_word:PySem.W.findIn K (.ref x_NoPaper) "word" = some none)
    (na_NoPaper_number:PySem.W.findIn K (.ref x_NoPaper) "number" = some none)
       {hd_NoRest sn_NoRest sub_NoRest ab_NoRest col_NoRest dd_NoRest k0_NoRest k1_NoRest k2_NoRest k3_NoRest k5_NoRest}   
    (obj_NoRest:K.lookup x_NoRest=some (PySem.excClassObj nm_NoRest q_NoRest x_NoRest N_NoRest bs_NoRest (.ref x_WaitError::L3.vMro) hd_NoRest sn_NoRest sub_NoRest ab_NoRest col_NoRest dd_NoRest k0_NoRest k1_NoRest k2_NoRest k3_NoRest k5_NoRest "ValueError.__new__")) (tp_NoRest:PySem.W.excIn K x_WaitError L3.vMro "ValueError.__new__" = true)
    (in_NoRest:PySem.W.findIn K (.ref x_NoRest) "__init__" = some (some<|.ref fi_NoRest)) (fn_NoRest:PySem.W.typeIn K (.ref fi_NoRest)=some (.type "function")) (ca_NoRest:PySem.W.specialIn K (.ref x_NoRest) "__call__" = some (some<|.builtin "type.__call__")) (ty_NoRest:PySem.W.instIn K (.ref x_NoRest) (.type "type")=some true) (kp_NoRest:PySem.W.keepIn K (.ref x_NoRest)=true) (di_NoRest:PySem.W.hasDictIn K x_NoRest=true) (sa_NoRest:PySem.W.findIn K (.ref x_NoRest) "__setattr__" = some (some<|.builtin "object.__setattr__"))
    (li_NoRest:K.lookup fi_NoRest=some #v[oci_NoRest,odi_NoRest,.func<|PySem.W.fnOf "__init__" "NoRest.__init__" (defArgs ini_NoRest) (defBody ini_NoRest) (defScope ini_NoRest) .none kVi_NoRest dci_NoRest pmi_NoRest ani_NoRest cdi_NoRest cti_NoRest,sli_NoRest]) (ci_NoRest:PySem.W.codeIn K cdi_NoRest "NoRest.__init__" = true)
    (ga_NoRest_:PySem.W.findIn K (.ref x_NoRest) "__getattribute__" = some (some<|.builtin "BaseException.__getattribute__")) (gn_NoRest:PySem.W.findIn K (.ref x_NoRest) "__getattr__" = some none) (mb_NoRest:PySem.W.mroIn K x_NoRest (.type "BaseException")=some true) (mo_NoRest:PySem.W.mroIn K x_NoRest (.type "object")=some true) (cc_NoRest:PySem.W.findIn K (.ref x_NoRest) "__class__" = some (some<|.builtin "object.__class__")) (cg_NoRest:PySem.W.specialIn K (.builtin "object.__class__") "__get__" = some (some<|.builtin "getset_descriptor.__get__")) (ct_NoRest:PySem.W.takesIn K (.builtin "object.__class__")=some true)
    (sb_NoRest:PySem.W.subIn K (.ref x_WaitError) (.type "BaseException")=some true) (ko_NoRest:PySem.W.kitOne K (.ref x_NoRest) (.ref x_WaitError)=some true) (ne_NoRest:(Xx.ref x_NoRest == Xx.ref x_WaitError)=false) (ve_NoRest:PySem.W.kitOne K (.ref x_NoRest) (.type "ValueError")=some true) (st_NoRest:PySem.W.kitAny K (.ref x_NoRest) []=some false)
    (na_NoRest_word:PySem.W.findIn K (.ref x_NoRest) "word" = some none)
    (xs_NoPaper:PySem.W.exmOne K (.ref x_NoPaper) (.ref x_NoPaper)=some true)
    (xs_NoRest:PySem.W.exmOne K (.ref x_NoRest) (.ref x_NoRest)=some true)
    (hnd0:decide (((L3.tabsK ([]:List Str) K).map (·.2.2)).Nodup)=true)
   :∃fd,(∀s v,BindsTo s fd #v[[v],[]] [("_law_script",v)])/\∀base,K.In base->base.Ns XS mg->BMd base mg->(∀t∈L3.tabsK ([]:List Str) K,PySem.W.CodeHd base t.2.1 t.2.2)->FnOk l.prog w K mg base CX0 8 fa fd ["_law_script"] (spLaw K):=by
  have ab:(L3.tabP K).Nodup:=Rh hnd0;have e:=hfa.symm.trans<|SW X G alaw;cases e;have a:∀p∈L3.psT "NoPaper",PySem.W.findIn K (.ref x_NoPaper) p=some none:=by
    intro p c;have c:p∈(["word","number"]:List Str):=c;simp only[QQ,Sg,Uo]at c;rcases c with rfl | rfl
    · exact na_NoPaper_word
    · exact na_NoPaper_number
  have b:∀p∈L3.psT "NoRest",PySem.W.findIn K (.ref x_NoRest) p=some none:=by
    intro p c;have c:p∈(["word"]:List Str):=c;simp only[QQ,Sg,Uo]at c;rcases c with rfl
    · exact na_NoRest_word
  have T:Txt K mg:=#v[RE X G zabs,RE X G zall,RE X G zbool,RE X G zenumerate,RE X G zint,RE X G zisinstance,RE X G zlen,RE X G zlist,RE X G zmax,RE X G zmin,RE X G zrange,RE X G zrepr,RE X G zsorted,RE X G zsum,RE X G ztuple,RE X G zzip,L3.gd_mkI X G ga_NOUGHT gl_NOUGHT gq_NOUGHT (by decide),L3.gd_mkI X G ga_ONE gl_ONE gq_ONE (by decide),#v[x_WaitError,x_NoPaper,fi_NoPaper,[],SW X G aE_WaitError,rfl,L3.ecls_mk obj_NoPaper tp_NoPaper in_NoPaper fn_NoPaper ca_NoPaper ty_NoPaper kp_NoPaper di_NoPaper sa_NoPaper,L3.eini_mk it_NoPaper li_NoPaper ci_NoPaper a,L3.efit_mk (SW X G aE_NoPaper) di_NoPaper ga_NoPaper_ gn_NoPaper mb_NoPaper mo_NoPaper cc_NoPaper cg_NoPaper ct_NoPaper sb_NoPaper ko_NoPaper ne_NoPaper ve_NoPaper st_NoPaper a],#v[x_WaitError,x_NoRest,fi_NoRest,[],SW X G aE_WaitError,rfl,L3.ecls_mk obj_NoRest tp_NoRest in_NoRest fn_NoRest ca_NoRest ty_NoRest kp_NoRest di_NoRest sa_NoRest,L3.eini_mk it_NoRest li_NoRest ci_NoRest b,L3.efit_mk (SW X G aE_NoRest) di_NoRest ga_NoRest_ gn_NoRest mb_NoRest mo_NoRest cc_NoRest cg_NoRest ct_NoRest sb_NoRest ko_NoRest ne_NoRest ve_NoRest st_NoRest b],#v[x_NoPaper,SW X G aE_NoPaper,xs_NoPaper],#v[x_NoRest,SW X G aE_NoRest,xs_NoRest]];obtain⟨_,_,N,Om,On,_⟩:=Of.mk X G ["thing"];obtain⟨_,_,Lf,Mi,Mj,_⟩:=Me.mk X G ["least","thing"];obtain⟨_,_,LM,Nl,Nm,_⟩:=Ni.mk X G ["many","thing"];obtain⟨_,_,Lg,Ml,Mm,_⟩:=Mf.mk X G ["one","other"];obtain⟨_,_,LN,Nn,Np,_⟩:=Nj.mk X G ["thing"];obtain⟨_,_,Z,OH,OI,_⟩:=OA.mk X G ["top","bottom"];obtain⟨_,_,F,Qv,Qw,_⟩:=Qq.mk X G ["one","other"];obtain⟨_,_,B,Qa,Qc,_⟩:=PP.mk X G ["one","other"];obtain⟨_,_,A,Qd,Qe,_⟩:=PQ.mk X G ["one","other"];obtain⟨_,_,E,Qx,Qy,_⟩:=Qr.mk X G ["one","other"];obtain⟨_,_,y,Qg,Qh,_⟩:=PR.mk X G ["one","n"];obtain⟨_,_,D,Qz,QA,_⟩:=Qt.mk X G ["one","other"];obtain⟨_,_,L,Pj,Pk,_⟩:=Pc.mk X G ["pairs"];obtain⟨_,_,Y,OJ,OL,_⟩:=OB.mk X G ["beats"];obtain⟨_,_,x,Qi,Qj,_⟩:=PU.mk X G ["parts"];obtain⟨_,_,u,Qk,Ql,_⟩:=PX.mk X G ["flow"];obtain⟨_,_,W,OM,OO,_⟩:=OC.mk X G ["flow","k"];obtain⟨_,_,C,QB,QC,_⟩:=Qu.mk X G ["flow"];obtain⟨_,_,J,Po,Pp,_⟩:=Pd.mk X G ["flow","hands"];obtain⟨_,_,LZ,NK,NL,_⟩:=ND.mk X G ["flow","z"];obtain⟨_,_,r,Qm,Qn,_⟩:=PY.mk X G ["flow","hands","z"];obtain⟨_,_,V,OP,OQ,_⟩:=OD.mk X G ["flow","hands","thing"];obtain⟨_,_,M,Oo,Oq,_⟩:=Og.mk X G ["flow","hands"];obtain⟨_,_,Lq,Mz,MA,_⟩:=Mu.mk X G ["beats"];obtain⟨_,_,Lh,Mn,Mo,_⟩:=Mg.mk X G ["beats","thing"];obtain⟨_,_,U,OR,OS,_⟩:=OE.mk X G ["heights"];obtain⟨_,_,q,Qo,Qp,_⟩:=PZ.mk X G ["parts"];obtain⟨_,_,LO,Nq,Nr,_⟩:=Nk.mk X G ["beats","heights"];obtain⟨_,_,MB,Os,Ot,_⟩:=Oh.mk X G ["beats","hands","thing"];obtain⟨_,_,I,Pt,Pu,_⟩:=Pe.mk X G ["way"];obtain⟨_,_,H,Pw,Px,_⟩:=Pf.mk X G ["beats"];obtain⟨_,_,Q,NP,NQ,_⟩:=NF.mk X G ["beats","hands","most"];obtain⟨_,_,MC,Oc,Ou,_⟩:=Oi.mk X G ["_law_script"];obtain⟨_,_,MD,Od,Ov,_⟩:=Oj.mk X G ["_law_feed_here","_law_many"];obtain⟨_,_,P,NA,NR,_⟩:=NG.mk X G ["_law_feed_here","_law_work"];obtain⟨_,_,O,NB,NS,_⟩:=NH.mk X G ["_law_feed_here","_law_hands"];obtain⟨_,_,S,Oy,OT,_⟩:=OF.mk X G ["_law_flow","_law_hands"];obtain⟨_,_,ME,Oe,Ox,_⟩:=Ol.mk X G ["_law_beats_here","_law_hands"];obtain⟨_,_,Lr,Mt,MF,_⟩:=Mv.mk X G ["_law_flow","_law_hands","_law_thing"];obtain⟨_,_,Li,Md,Mp,_⟩:=Mh.mk X G ["_law_beats_here","_law_hands","_law_thing"];obtain⟨_,_,R,Oz,OU,_⟩:=OG.mk X G ["_law_feed_here"];have d:=fun_mk (st:=Kn) llaw claw klaw;have o:=d.binds (ps:=["_law_script"]) λ_ _ _ _ _ _ us hl=>by obtain⟨z0,rfl⟩:=L3.len_1 hl;rfl
  have m:=SW X G alaw;refine#v[PySem.W.fnOf "law" "law" (defArgs Kn) (defBody Kn) (defScope Kn) .none kVlaw dclaw pmlaw anlaw cdlaw ctlaw,λs v=>.of_eq rfl,λbase _ _ BM hC=>?_];have KB:=L3.cal l.prog w base (MY N T ) Om N On;have KJ:=L3.cal l.prog w base (LI Lf T KB) Mi Lf Mj;have Kv:=L3.cal l.prog w base (Mq LM T ) Nl LM Nm;have Kq:=L3.cal l.prog w base (LJ Lg T ) Ml Lg Mm;have Ks:=L3.cal l.prog w base (Mr LN T Kv KB KJ Kq) Nn LN Np;have f:=L3.cal l.prog w base (Nt Z T Kq) OH Z OI;have LR:=L3.cal l.prog w base (Py F T f) Qv F Qw;have Lw:=L3.cal l.prog w base (OV B T f) Qa B Qc;have Ly:=L3.cal l.prog w base (OW A T f) Qd A Qe;have NZ:=L3.cal l.prog w base (Pz E T f) Qx E Qy;have MZ:=L3.cal l.prog w base (OX y T ) Qg y Qh;have g:=L3.cal l.prog w base (PB D T ) Qz D QA;have LS:=L3.cal l.prog w base (NX L T f) Pj L Pk;have LF:=L3.cal l.prog w base (Nu Y T ) OJ Y OL;have Nb:=L3.cal l.prog w base (OY x T LR) Qi x Qj;have Lu:=L3.cal l.prog w base (OZ u T ) Qk u Ql;have LD:=L3.cal l.prog w base (Nv W T f Lu) OM W OO;have LU:=L3.cal l.prog w base (PD C T LS) QB C QC;have j:=L3.cal l.prog w base (NY J T LU g LD) Po J Pp;have Ld:=L3.cal l.prog w base (MG LZ T Lu) NK LZ NL;have Lv:=L3.cal l.prog w base (Pa r T g Ld MZ) Qm r Qn;have LH:CalleeX l.prog w K mg base "lets_run" 4 ["flow","hands","thing"] (spX K mg 3 KL):=#v[_,_,Nw V T Ks g Lv,OP,V.kp,OQ];have Lo:CalleeX l.prog w K mg base "run_paper" 6 ["flow","hands"] (spX K mg 2 KC):=#v[_,_,Na M T j Lv,Oo,M.kp,Oq];have Kr:=L3.cal l.prog w base (LV Lq T ) Mz Lq MA;have KM:=L3.cal l.prog w base (LK Lh T Kv Ks Kr) Mn Lh Mo;have LG:=L3.cal l.prog w base (Nx U T Lw) OR U OS;have Nd:=L3.cal l.prog w base (Pb q T g) Qo q Qp;have KS:=L3.cal l.prog w base (Ms LO T Ly NZ LF Nb) Nq LO Nr;have Lp:CalleeX l.prog w K mg base "lets_back" 6 ["beats","hands","thing"] (spX K mg 3 KD):=#v[_,_,Nc MB T KM g LG LR KS Ly Nd,Os,MB.kp,Ot];have LX:=L3.cal l.prog w base (Oa I T ) Pt I Pu;have Km:=L3.cal l.prog w base (Ob H T LX) Pw H Px;have Le:CalleeX l.prog w K mg base "back_paper" 6 ["beats","hands","most"] (spX K mg 3 Ky):=#v[_,_,MH Q T Km j Kr Lw LU,NP,Q.kp,NQ];have NC:=L3.cal l.prog w base (Nf MC) Oc MC Ou;have i:=L3.cal l.prog w base (Ng MD T ) Od MD Ov;have KF:=L3.cal l.prog w base (MI P T i) NA P NR;have Kh:=L3.cal l.prog w base (MJ O T i KF) NB O NS;have Kk:=L3.cal l.prog w base (Ny S T Lo) Oy S OT;have Ki:=L3.cal l.prog w base (Nh ME T Le) Oe ME Ox;have Kg:=L3.cal l.prog w base (LY Lr T LH) Mt Lr MF;have Kf:=L3.cal l.prog w base (LL Li T Lp) Md Li Mp;have Kl:=L3.cal l.prog w base (Nz R T i) Oz R OU;exact PN d T NC i Kh Km j Ki Kk Kl Kf Kg (λns _=>fin ns)
def walk {l:PySem.W.OpenLaw}{K:Params->PySem.W.Frag}(hn:l.most=some 63)(hdf:d.params.defaults=[])
  (hrec:(([]:List Str).all λx=>((PyProof.Rows.recsOf q).find? λe=>e.name == x).isSome)=true) (hnt:∀w:XB,PySem.W.noTabs (K w.params)=true)
  (hY:∀w h,YP w h->(K w.params).In h)
  (F:∀w mg fa h,(K w.params).In h->h.Ns XS mg->mg d.name=some (.ref fa) ->
   ∃fd,(∀s u,BindsTo s fd #v[[u],[]] [("_law_script",u)])/\∀base,(K w.params).In base->base.Ns XS mg->BMd base mg->(∀t∈L3.tabsK ([]:List Str) (K w.params),PySem.W.CodeHd base t.2.1 t.2.2)->FnOk l.prog w (K w.params) mg base CX0 8 fa fd ["_law_script"] (spLaw<|K w.params)) :
  PySem.W.WalkO q loose XP YP l.row.toRowW d [] (λf vs=>PySem.call f vs) :=
 L3.walk_ofT ([]) hn (by decide) hdf #v[rfl,by decide,by decide,rfl] hrec hnt hY F (λ_ _ a b hl g c=>#v[a,b,rfl,g,hl,c,λ_=>rfl]) λ_ _ _ _ _ z=>z
end K69
open PySem PySem.W PyProof.Rows
set_option maxRecDepth 100000 in
set_option maxHeartbeats 0 in
theorem PySem.Challenge.cw_hatchwaits_k69_whole_rests_runs_swings_holds : PySem.Challenge.rw_hatchwaits_k69_whole_rests_runs_swings.Holds := by
 w_on;o_law;k_head;(case hw=>w_witness2);k_fill;refine K69.walk (l:=PySem.Challenge.rw_hatchwaits_k69_whole_rests_runs_swings) rfl rfl (by first | rfl | kernel_rfl) (by intro w;first | kernel_rfl | with_unfolding_all rfl) (λw h Y=>PySem.W.kIn_of Y) ?F;case F =>
  intro w mg fa h KX G hmg
  apply K69.all_mk KX G hmg
  (case hnd0=>first | kernel_rfl | with_unfolding_all rfl)
  all_goals first | exact .of (by k_is) (by k_is) (by k_is) (by k_is) | k_is | kit_is | k_exc | rfl | decide | kernel_rfl | with_unfolding_all rfl