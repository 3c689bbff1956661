import PyProof.Rows.All
import Wide.All
import OpenK.AllK
import Wide.FinOn
import Lean
import PyProof.EqAt
import PyProof.EqKinds
import PyProof.TupleCall
import PyProof.Rows.EqDataRows
import PyProof.Rows.InDataRows
import PyProof.StrLawsRepr
import PyProof.AutoListH
import PyProof.TupleKey
import PyProof.P3Eq
import PyProof.FString2
import PyProof.FactsAll.bool
import KE.KDictList
import PyProof.Rows.RuleB_bool
import PySem.Challenge.RW_hatchwaits_k67_back_papers_told_or_words
set_option genInjectivity false in
set_option genSizeOf false in
structure PySem.W.Fast where(tw4083226681796407131 tw154572886724815588 tw13008311549980574547 tw7898590374153920676 tw183038651735493292 tw328863166921532373 tw17558512470889810691 tw15405729797799251595 tw1020775980771560667 tw17351705616273019570 tw16290607706578873782 tw2970504357307340806 tw18417253650948042149 tw11672951654467776821 tw18235160218924156408 tw8188468838746307281 tw1568903204718023735 tw3233041532506285534 tw7058842719043246940 tw8368736689669093916 tw12949436855616969879 tw4866285247955866226 tw6994213753446787920 tw13044545044079147010 tw14794877742751024040 tw7971598663184765810 tw1837614228631609444 tw16293428988877337873 tw3579953042449146124 tw12124503313936494664 tw2919931850826688160 tw12837580157099364763 tw6224848135489565975 tw11009827355017122374 tw12712032751933301383 tw7301419776939226395 tw1581008739395319579 tw12708408454727887211 tw12381282417262611122 tw4991111124979267329 tw15253312535243678247 tw7193811525418685861 tw7702540854870480317 tw6708946384652330733 tw3642344421868047844 tw11231074301716310147 tw17841552817135842745 tw4543171977996225534 tw2011861974874907993 tw6987576189097620836 tw16801897661051547659 tw11781520503915096614 tw768934777941812161 tw11387582798036693981 tw8964295122083482334 tw6094596969045031220 tw12291612446269882554 tw2631958769795354776 tw12064270645906444306 tw8232028041186767667 tw13069943234103791584 tw1456677720209132968 tw12933876343445243699 tw15057000235085298519 tw1297807275235675286 tw9938154506115825006 tw2694786210014200731 tw5279127348467906352 tw9722988236154186258 tw7084292444704667742 tw3086354445271127901 tw8537559514920156648 tw15577898087182374872 tw7709326104196307433 tw17679724462147703170 tw11887394554574974939 tw11020864997074596796 tw9935894368066766772 tw10037793848117960574 tw3372300024323202694 tw14233662763213275615 tw8812137741590116606 tw9899124205415886044 tw14319012654255643186 tw1529912794273040909 tw428065494090552446 tw2079088968041417230 tw11253979445890900795 tw14528230150629622403 tw16996898978042360396 tw1501191040604137039 tw12197845800058544743 tw14957533709966929392 tw17903996982721833902 tw3486513357180243869 tw10977504709974869990 tw8308267477575624857 tw15655652766437257006 tw2699418888321014340 tw11029919686254001771 tw16126327464644255501 tw15368136431571483940 tw2070563535908665311 tw3466550466130353663 tw17500012864919500292 tw11397763184543209061 tw16631665043309474111 tw3320803430570344168 tw4824089639346125580 tw10772590226401448739 tw8876821914119928352 tw6198825873349460490 tw18097423077858992180 tw3926965611299712311 tw9436585862037194768 tw2801392319039193402 tw16278041271227451700 tw13527987396924919334 tw10824773626246449240 tw5023624922103076997 tw13409759288735591282 tw1970866716373049496 tw12957651629474487001 tw16089986151136466842 tw8277692006227640191 tw3961308154488144116 tw5357874167586133643 tw3287155103778157051 tw14820429565210790965 tw1196509995133843224 tw10338873784727123375 tw3790492355702527865 tw8445926630832468711 tw16084035376360793593 tw10458195232745745437 tw16538671351594727710 tw15002303777741153388 tw14422651171890571657 tw6237883773630053573 tw12533274580385167443 tw3464392842137686075 tw10978557602294672130 tw17540423481540345286 tw1301416643694895605 tw7044531290183246568 tw9069025357221195425 tw11485812538074736834 tw13393598281875234244 tw10617845180760597422 tw4408906583076270655 tw3041572475965404958 tw15876763807262356797 tw3992435574027281217 tw12772109913680377711 tw6605968406544799921 tw17549680992314782312 tw13534459343942100550 tw6767849625934047834 tw18214426350749463529 tw5387460993299237667 tw14368567875858436021 tw9312934880342576220 tw15926049616845763933 tw5183558814037054088 tw11511537124431903858 tw10688492512438482461 tw7013259281153504934 tw10083483254185037639 tw3716167203091479130 tw157712941960619332 tw3341707374543160656 tw16197779430788572115 tw11791305339263196669 tw18292112918490892802 tw2202634647027245606 tw10486602319265199838 tw9192540432900617816 tw4431585575686091334 tw14324067322959323474 tw284588834085910990 tw18440405600811496223 tw14495162953809810644 tw665261152729932720 tw18052552622932835457 tw1664547272945466248 tw13959199798269702070 tw15688087181417125221 tw2760618101959556080 tw1894412720117763563 tw14405510724365885744 tw16050846731368161560 tw10914914761722530153 tw6865759119385225654 tw12492652881032511691 tw17411936434421137879 tw859933091492057582 tw11450298066267977435 tw12232045729200488283 tw10852596569638892563 tw579126158447610870 tw5646643310003620424 tw11488832787358762292 tw3380326666528811428 tw9551893993853832340 tw17060179233693353886 tw8026710863715449439 tw925567012261519411 tw9874553950973607375 tw3284322333838556120 tw18390770345237493375 tw6845705666044824696 tw15720266421210893158 tw1086372200410719159 tw16094543029958197373 tw15606267580118408782 tw5458805808745433190 tw16700951256068566274 tw3323831685114061543 tw113235923110738809 tw14969584356891262283 tw7825777262257412179 tw10888906905968274390 tw346604806275790135 tw16326176972557305504 tw1214375587590807847 tw9568746700174872050 tw3881846664719702731 tw1456911844317154503 tw8098922158224846279 tw3102220400939946482 tw16556524977230664896 tw15385589860729074275 tw16243494146856386540 tw6747420678256979679 tw121730349117825752 tw16589561308146496998 tw10628413645875314862 tw1612450249320748755 tw4390025605879377007 tw2382403123934795372 tw3654454059308140888 tw4316745447064222837 tw12792577937264967814 tw114621832345541514 tw10028658940553728077 tw13727794758486641706 tw4449940896327063892 tw7950549575196386681 tw17474399043610851783 tw9405112964066484710 tw15085051913982322766 tw12039034133147276189 tw6692364039996722770 tw11011506013994023971 tw12006922246571556509 tw8707766078607999407 tw2430925030021508925 tw4851725942264449096 tw3641806536294901254 tw3718815344084501019 tw17471035986442440872 tw6665101432950089520 tw12606719976455245983 tw13942077542801005153 tw16579830532881177551 tw17850836437933847775 tw8603460980826552676 tw17734991961359037222 tw738191346044997132 tw11989821595195713748 tw17915559526470772767 tw10117472000628032251 tw4854848125532769349 tw9300768265498598800 tw9010179406213792847 tw727533537389294433 tw330218963553997649 tw15850170955446169458 tw9439874035691908044 tw4684973814632150280 tw11816446621007268486 tw9346591551094975172 tw13516136735730592668 tw1422341862845805559 tw16499086763178672978 tw17295169497361106721 tw6629936395931228649 tw8237598075884868 tw13991221399438226678 tw3801242648868901206 tw12405458727093417068 tw15741323178852651669 tw6010572243774348519 tw9207024750690741843 tw12223899003015832297 tw7825009668926877336 tw14687439774990542608 tw4513219864777336765 tw9089565719269114391 tw1083453949769718370 tw15699760337833065274 tw15502059324180422585 tw17757418053319738761 tw420140728107474781 tw1332687350584831471 tw12152212800057412682 tw5341532080375780378 tw12230574366415808550 tw9378573429809356589 tw12252883863022065859 tw3666617294628262491 tw12628259065207455047 tw6691899790471686048 tw7933683834752544795 tw15382853637385800487 tw13492098500191945353 tw3144253866255344059 tw6918609115532839558 tw12033107839304749017 tw14383931822480104935 tw14113303201928796977 tw11909504341597911754 tw2070482768820344740 tw2638057837876577841 tw6393221313326113589 tw8589273016138133922 tw2537042837494160164 tw17881761757357910512 tw9843993785400649932 tw11345660498771039992 tw2672600749188119433 tw3767014205919933433 tw14794073177997049943 tw3377676580629427390 tw10605898869130260467 tw14111867373324727729 tw17161798950050759896 tw5590736693656811741 tw9096574159345189493 tw9362797841922315181 tw4523463479563270835 tw14291436635737581847 tw12902929556953070953 tw1224143859302149586 tw4709191806818693569 tw2593918745551980235 tw12364161738010624609 tw9967952775163427605 tw1135415774831874967 tw2023498198135776114 tw18340410623923788294 tw3908435900848036223 tw15398570105151735314 tw14451535245456258306 tw8187409985466972696 tw16236628966262752528 tw1403144618681174039 tw6598683191398053898 tw6167441412611323969 tw14591643301782554319 tw16371772355490335353 tw2589579404612398055 tw520097135155380096 tw5081603433503788837 tw14251585949677542116 tw1156021803136426276 tw16734589707109248024 tw18021124641577596367 tw12253203176562473998 tw15086521958112369593 tw17198938043420038362:Nat)
abbrev Fg:=PySem.W.Frag
open PySem renaming PyData->My,Value->Oe,Addr->Of,Shared->Og,Program->Oh,World->Oi,Around->Oj,Scope->Ol,FuncData->Om,Stmt->On,Expr->Oo,Heap->Oq,sizeLine->Os,starEach->Ot,Obj->Ou,Env->Ov,backTo->Ox,Keyword->Oy,wpAny->Oz,mainGlobals->OA,swapsWith->OB,attributeBase->OC,bootBuiltins->OD,foldedSetIterable->OE,assignEach->OF,cLine->OG,NameKind->OI,backToKw->OJ,keywordEach->OL
open PyProof.Rows renaming Keyed->OH
set_option compiler.extract_closed false
noncomputable section
local macro_rules | `(tactic| omega)=>`(tactic| lia)
def Iw:=@PySem.wpAny_bind
def Iy:=@PySem.wpAny_pure
def Iz:=@List.length_map
def IA:=@List.mem_cons_of_mem
def ID:=@PySem.Heap.get?_push_of_some
def IE:=@if_pos
def IF:=@PySem.Heap.lt_size
def IG:=@List.mem_cons_self
def IH:=@List.getElem?_eq_some_iff
def II:=@if_neg
def IJ:=@List.map_cons
def IK:=@List.length_cons
def IL:=@List.getElem?_set_ne
def IM:=@List.getElem?_eq_getElem
def IP:=@List.mem_cons
def IQ:=@Nat.lt_of_lt_of_le
def IR:=@List.getElem?_set_self
def IS:=@Option.some.inj
def IT:=@Nat.le_refl
def IU:=@List.getElem?_map
def IV:=@Nat.le_trans
def IW:=@List.size_toArray
def IX:=@Nat.ne_of_lt
def IZ:=@Bool.false_ne_true
def Ja:=@Option.map_eq_some_iff
def Jb:=@List.getD_eq_getElem?_getD
def Jc:=@PySem.Heap.get?_push_size
def Jd:=@Option.bind_some
def Je:=@decide_eq_true
def Jf:=@decide_eq_false
def Jg:=@of_decide_eq_true
def Jh:=@PySem.wpAny_mono
def Ji:=@List.cons_append
def Jj:=@Nat.lt_of_le_of_lt
def Jk:=@Bool.false_eq_true
def Jl:=@List.mem_append_right
def Jm:=@List.mem_map
def Jn:=@List.map_map
def Jo:=@List.nil_append
def Jp:=@List.lookup_cons
def Jq:=@Nat.pow_le_pow_right
def Jr:=@PySem.sizeLine_eq
def Js:=@Int.natAbs_natCast
def Jt:=@Nat.ne_of_gt
def Ju:=@List.mem_of_getElem?
def Jv:=@Nat.zero_add
def Jw:=@List.drop_eq_getElem_cons
def Jx:=@Int.toNat_natCast
def Jy:=@List.mem_singleton
def Jz:=@PySem.W.mg_none_of
def JA:=@PyProof.Rows.wpS_bind
def JB:=@List.length_nil
def JC:=@Ne.symm
def JD:=@PySem.Heap.get?_update_self
def JE:=@List.replicate_succ
def JF:=@PySem.Heap.get?_update_other
def JG:=@List.map_nil
def JH:=@List.length_set
def JI:=@if_false
def JJ:=@List.length_append
def JK:=@PySem.mem_of_lookup
def JL:=@PySem.wpAny_holding
def JM:=@Array.length_toList
def JN:=@PySem.Heap.get?_update_ne
def JO:=@List.getElem?_replicate
def JP:=@PySem.wpAny_newObj_type
def JQ:=@of_decide_eq_false
def JR:=@PySem.W.kia_one
def JS:=@Option.isSome_iff_exists
def JT:=@PySem.wpAny_call_entry
def JU:=@List.getElem_mem
def JV:=@Nat.zero_le
def JW:=@List.length_range
def JX:=@congrArg
def JY:=@PySem.W.mg_of
def JZ:=@List.sum_cons
def Ka:=@Nat.le_of_lt
def Kb:=@List.append_nil
def Kc:=@List.not_mem_nil
def Kd:=@Nat.lt_succ_self
def Ke:=@PyProof.Rows.wpS_pure
def Kf:=@List.getElem?_range
def Kg:=@PySem.wpAny_truthy_bool
def Kh:=@Nat.lt_succ_of_lt
def Ki:=@PySem.F.slot_dict_keyiterator_next
def Kj:=@PySem.Heap.size_push
def Kk:=@PySem.wpAny_field
def Kl:=@if_true
def Km:=@List.getElem?_append_right
def Kn:=@List.find?_cons_of_pos
def Ko:=@List.find?_cons_of_neg
def Kq:=@Nat.mul_le_mul
def Kr:=@List.flatten_cons
def Ks:=@List.getElem?_append_left
def Kt:=@List.map_append
def Ku:=@Classical.byContradiction
def Kv:=@Array.getElem?_toList
def Kx:=@List.getElem?_eq_none
def Ky:=@PyProof.Rows.Reads.keeps
def Kz:=@List.take_length
def KA:=@Nat.mul_pos
def KB:=@List.mem_append_left
def KC:=@PySem.wpAny_callSpecial?_slot
def KD:=@beq_eq_false_iff_ne
def KF:=@Nat.lt_irrefl
def KG:=@PySem.wpAny_standAt
def KH:=@PySem.F.slot_tuple_iterator_next
def KI:=@List.length_replicate
def KJ:=@List.pairwise_cons
def KL:=@Int.mul_nonneg
def KM:=@List.mem_filter
def KN:=@PySem.wpAny_rule
def KO:=@PySem.wpAny_specialOf
def KP:=@PySem.Around.under_plainId
def KQ:=@Rat.mul_le_mul_of_nonneg_right
def KR:=@Bool.not_true
def KS:=@PySem.wpAny_typeNameOfWhole_keyiter
def KU:=@List.length_eq_zero_iff
def KW:=@List.getElem?_cons_succ
def KY:=@PySem.wpAny_seqItems
def KZ:=@PySem.SeqAt.canLay_of_shaped
def La:=@Rat.mkRat_eq_div
def Lb:=@List.drop_of_length_le
def Lc:=@PyProof.Rows.callWith_type1
def Ld:=@PySem.wpAny_Call_Name_kw
def Le:=@PySem.wpAny_pyIter_tuple
def Lf:=@PySem.Obj.data_mapFields
def Lg:=@PySem.F.slot_enumerate_next
def Lh:=@Rat.div_mul_cancel
def Li:=@PySem.wpAny_execs_nil
def Lj:=@PySem.wpAny_passesOwn
def Lk:=@List.nodup_cons
def Ll:=@Classical.choose_spec
def Lm:=@PySem.wpAny_updateSeq
def Ln:=@Int.natCast_mul
def Lo:=@decide_eq_true_eq
def Lp:=@PySem.call_meets
def Lq:=@List.getElem?_zip_eq_some
def Lr:=@List.pairwise_iff_getElem
def Ls:=@PySem.wpAny_setField
def Lu:=@PySem.wpAny_typeNameOf_keyiter
def Lv:=@PySem.AutoSeq1.sub_tuple_tuple
def Lw:=@PySem.F.plain_max_loop
def Ly:=@PySem.Heap.SameBut.update
def Lz:=@List.map_congr_left
def LA:=@Rat.intCast_natCast
def LB:=@PySem.wpAny_attempt
def LC:=@PySem.plainId_quiet
def LD:=@List.mem_append
def LF:=@PySem.wpAny_call
def LG:=@List.zip_cons_cons
def LH:=@Nat.not_lt_zero
def LI:=@PySem.codeAny_builtin
def LJ:=@PySem.W.cellsFrom_some
def LK:=@or_false
def LL:=@Int.le_refl
def LM:=@Rat.normalize_eq_mkRat
def LN:=@Nat.lt_trans
def LO:=@Nat.lt_or_ge
def LQ:=@PySem.wpAny_loadName_local
def LR:=@Bool.and_eq_true
def LS:=@Nat.not_lt
def LU:=@PySem.Heap.size_update
def LV:=@List.getElem_map
def LX:=@PySem.wpAny_callSpecialIfBoundUnlessNone?_slot
def LY:=@PySem.wpAny_isInstance
def LZ:=@PySem.F.slot_tuple_mul
def Ma:=@List.all_eq_true
def Mb:=@Nat.pow_lt_pow_right
def Mc:=@Array.getElem?_eq_some_iff
def Md:=@Nat.le_succ
def Me:=@List.filterMap_cons
def Mf:=@List.length_pos_iff
def Mg:=@List.mem_map_of_mem
def Mh:=@PySem.F.plain_extend_loop
def Mi:=@Nat.add_le_add_left
def Mj:=@Bool.eq_iff_iff
def Ml:=@PySem.F.args_tuple_add_2
def Mm:=@PySem.wpAny_comprehension_free
def Mn:=@PyProof.Rows.wpS_forRange
def Mo:=@PySem.F.args_dict_keyiterator_next_1
def Mp:=@List.set_cons_zero
def Mq:=@List.set_cons_succ
def Mr:=@Int.emod_lt_of_pos
def Ms:=@PySem.W.looks_findIn
def Mt:=@Option.toList_some
def Mu:=@Rat.mul_inv_cancel
def Mv:=@Rat.le_of_lt
def Mw:=@PySem.F.entry_dict_keyiterator_next
def Mx:=@Rat.mkRat_self
def Mz:=@Int.natAbs_mul
def MA:=@PySem.wpAny_tryCatch
def MB:=@Rat.not_lt
def MC:=@PySem.F.entry_tuple_add
def MD:=@PySem.AutoSeq1.sub_tuple_list
def ME:=@PySem.AutoSeq1.sub_list_tuple
def MF:=@PySem.Heap.get?_push_ne
def MG:=@PySem.F.slot_tuple_hash
def MH:=@Option.some.injEq
def MI:=@PySem.F.args_tuple_iterator_next_1
def MJ:=@Int.gcd_dvd_right
def MK:=@List.take_add_one
def ML:=@PySem.F.slot_tuple_add
def MM:=@decide_true
def MN:=@List.take_of_length_le
def MO:=@PySem.AutoSeq1.sub_list_list
def MP:=@PySem.F.entry_tuple_iterator_next
def MQ:=@PySem.intItems_at
def MR:=@PySem.F.slot_list_iadd
def MS:=@Nat.pow_add
def MT:=@PySem.wpAny_execs_cons
def MU:=@List.length_take
def MV:=@PySem.wpAny_forIn_list
def MW:=@PySem.F.slot_bool_hash
def MX:=@List.drop_length
def MY:=@PySem.W.Looks.ld
def MZ:=@List.filter_cons
def Na:=@PySem.Obj.isFreed_of_fields
def Nb:=@List.sizeOf_lt_of_mem
def Nc:=@Nat.le_of_ble_eq_true
def Nd:=@PySem.codeAny_mono
def Nf:=@List.of_mem_zip
def Ng:=@PySem.F.slot_int_rmul
def Nh:=@Option.map_some
def Ni:=@decide_false
def Nj:=@PyProof.Rows.pairsOf_size
def Nk:=@PySem.wpAny_ite_false
def Nl:=@Int.emod_nonneg
def Nm:=@PySem.codeAny_call_builtin
def Nn:=@PySem.F.args_enumerate_next_1
def Np:=@Rat.mul_le_mul_of_nonneg_left
def Nq:=@PySem.F.entry_enumerate_next
def Nr:=@Int.gcd_pos_of_ne_zero_right
def Nt:=@Int.mul_one
def Nu:=@PySem.wpAny_of_eq
def Nv:=@PySem.wpAny_letGo
def Nw:=@List.mem_filterMap
def Nx:=@Int.lt_or_eq_of_le
def Ny:=@List.getElem_range
def Nz:=@PySem.wpAny_tupleItemsOf
def NA:=@PySem.F.args_tuple_mul_2
def NB:=@PySem.Heap.get?_some_iff
def NC:=@PySem.wpAny_setField_rec
def ND:=@PySem.F.attrBase_ValueError
def NF:=@Nat.pos_of_ne_zero
def NG:=@PySem.Paired.length
def NH:=@Int.fdiv_eq_ediv_of_nonneg
def NI:=@Nat.add_assoc
def NJ:=@Nat.le_of_dvd
def NK:=@PySem.W.kitx_list
def NL:=@List.append_assoc
def NM:=@Option.isSome_map
def NO:=@List.mapM_toArray
def NP:=@Nat.mul_comm
def NQ:=@map_eq_pure_bind
def NR:=@beq_self_eq_true
def NS:=@Nat.gcd_comm
def NT:=@Int.gcd_dvd_left
def NU:=@Int.mul_comm
def NV:=@Rat.mkRat_eq_iff
def NW:=@Nat.mul_lt_mul''
def NX:=@Int.lt_or_le
def NY:=@List.sum_append
def NZ:=@Rat.num_natCast
def Oa:=@Rat.den_natCast
def Ob:=@Nat.log2_lt
def Oc:=@Int.mul_add
def Od:=@Rat.div_def
def bS9 {α:Type _}{β:Type _}{x:Option α}{f:α->Option β}{b:β}(h:x.bind f=some b):∃a,x=some a/\f a=some b:=Option.bind_eq_some_iff.1 h
set_option Elab.async false
set_option linter.all false
set_option maxRecDepth 100000
set_option hygiene false
local macro_rules | `(tactic| walk_at "v")=>`(tactic| first | exact Or.inl rfl | exact Or.inr rfl | exact Or.inr (Or.inl rfl) | exact Or.inr (Or.inr rfl) | assumption)
local macro_rules | `(tactic| walk_at "kh")=>`(tactic| (split at hf <;> try cases hf))
local macro_rules | `(tactic| walk_at "kg")=>`(tactic| (intro OM s σ H xs us Q I r h))
local macro_rules | `(tactic| walk_at "kf")=>`(tactic| (intro X hP hw hK hc i OM s σ H E I hf st hg;subst hP hw hK))
local macro_rules | `(tactic| walk_at "ke")=>`(tactic| (refine ha.ok G B E F σ H _ x F1 I e1 λv H1 k1 f1 h1=>?_))
local macro_rules | `(tactic| walk_at "kd")=>`(tactic| (intro OM s σ H x y v u Q I rx ry h;obtain⟨fp,B,d,e,r,bk,h1,h2,hf,q⟩:=h))
local macro_rules | `(tactic| walk_at "kc")=>`(tactic| (intro OM s σ H xs us Q I r h;obtain⟨fp,B,ds,z,bk,h1,hf,q⟩:=h))
local macro_rules | `(tactic| walk_at "kb")=>`(tactic| (refine D4.2 ?_;dsimp only[A1,IJ,JG,IK,JB,List.replicate,Ji,Jo,Nat.reduceAdd,Nat.reduceSub]))
local macro_rules | `(tactic| walk_at "ka")=>`(tactic| (refine⟨_,rfl,_,_,rfl,rfl,(by show(0:Int)<1000003;decide),_,rfl,_,_,rfl,rfl,.inl ⟨by decide,by decide⟩,_,rfl,_,_,rfl,rfl,.inr ⟨by omega,by omega⟩,_,_,rfl,rfl,_,rfl,_,_,rfl,rfl,.inl ⟨by decide,by decide⟩,_,_,rfl,rfl,_,_,rfl,rfl,_,_,rfl,rfl,.inr ⟨by decide,by decide⟩,_,_,rfl,rfl,(by show(0:Int)<999961;decide),?_⟩;refine⟨_,rfl,_,rfl,_,_,rfl,rfl,.inl ⟨by omega,by omega⟩,_,rfl,_,_,rfl,rfl,.inl ⟨by decide,by decide⟩,_,_,rfl,rfl,_,_,rfl,rfl,_,_,rfl,rfl,(by show(0:Int)<2097143;decide),?_⟩;exact⟨_,rfl,_,_,rfl,rfl,.inr ⟨by decide,by decide⟩,_,_,rfl,rfl,(by show(0:Int)<2147483629;decide),_,_,rfl,rfl,⟨by decide,by decide⟩,_,rfl,_,_,rfl,rfl,hm,hq⟩))
set_option hygiene true
namespace L2
open PySem PySem.Spec PyProof.Rows
section
abbrev Key :=Sum Int Str
def xC:Key->Oe->Bool
 | .inl k,v=>Oe.isInt k v
 | .inr x,v=>Oe.isStrOf x v
def CN (w:Oi):Key->Int
 | .inl k=>hashInt k
 | .inr x=>hashStr w x
theorem B6:∀{k:Key} {v:Oe},xC k v=true->(∃i t,k=Sum.inl i/\v=Oe.int i t)\/(∃x t,k=Sum.inr x/\v=Oe.str x t)
 | .inl i,v,h=>by
  obtain⟨t,e⟩:=Oe.isInt_shape (k:=i) (v:=v) h;exact .inl ⟨i,t,rfl,e⟩
 | .inr x,v,h=>by obtain⟨t,e⟩:=Oe.isStrOf_shape (x:=x) (v:=v) h;exact .inr ⟨x,t,rfl,e⟩
def zS (a b:Int):decide ((Sum.inl a:Key)=Sum.inl b)=(a == b):=by
 by_cases e:a=b
 .subst e;simp
 .have h:¬(Sum.inl a:Key)=Sum.inl b:=λq=>e<|Sum.inl.inj q
  rw[Jf h];exact(KD.2 e).symm
def yQ (a b:Str):decide ((Sum.inr a:Key)=Sum.inr b)=decide (a=b):=by
 by_cases e:a=b
 .subst e;simp
 .have h:¬(Sum.inr a:Key)=Sum.inr b:=λq=>e<|Sum.inr.inj q
  rw[Jf h,Jf e]
def Av (a:Int)(b:Str):decide ((Sum.inl a:Key)=Sum.inr b)=false:=Jf (λq=>nomatch q)
def yE (a:Str)(b:Int):decide ((Sum.inr a:Key)=Sum.inl b)=false:=Jf (λq=>nomatch q)
def jj (prog:Oh)(w:Oi):PySem.KeyKind prog w Key where
 is:=xC
 hash:=CN w
 inj:=λv a b ha hb=>by
  rcases B6 ha with ⟨i,t,rfl,rfl⟩ | ⟨x,t,rfl,rfl⟩
  .rcases B6 hb with ⟨j,u,rfl,e⟩ | ⟨y,u,rfl,e⟩
   .injection e with e1 _;rw[e1]
   .exact nomatch e
  .rcases B6 hb with ⟨j,u,rfl,e⟩ | ⟨y,u,rfl,e⟩
   .exact nomatch e
   .injection e with e1 _;rw[e1]
 byValue:=λk v h=>by rcases B6 h with ⟨i,t,rfl,rfl⟩ | ⟨x,t,rfl,rfl⟩ <;> rfl
 pyHash:=λhv h=>by
  rcases B6 hv with ⟨i,t,rfl,rfl⟩ | ⟨x,t,rfl,rfl⟩
  .exact wpAny_pyHash_int h
  .exact wpAny_pyHash_str h
 eqBool:=λhu hv h=>by
  rcases B6 hu with ⟨i,t,rfl,rfl⟩ | ⟨x,t,rfl,rfl⟩
  .rcases B6 hv with ⟨j,u,rfl,rfl⟩ | ⟨y,u,rfl,rfl⟩
   .rw[zS]at h;exact wpAny_eqBool_int h
   .rw[Av]at h;exact SeqAt.EqAt.int_str i t y u _ _ _ _ h
  .rcases B6 hv with ⟨j,u,rfl,rfl⟩ | ⟨y,u,rfl,rfl⟩
   .rw[yE]at h;exact SeqAt.EqAt.str_int x t j u _ _ _ _ h
   .rw[yQ]at h;exact wpAny_eqBool_str h
 «strs»:=λk x t v h=>by
  rcases B6 h with ⟨i,u,rfl,e⟩ | ⟨y,u,rfl,e⟩
  .exact nomatch e
  .injection e with e1 _
   subst e1;cases v <;> rfl
end
variable {h':Oq}
section
inductive V where
 | non | bl (b:Bool) | int (i:Int) | str (x:Str) | byt (b:Array UInt8) | flt (b:UInt64) | ref (a:Of) | ty (n:String)
 deriving DecidableEq
def u0:V->Oe->Prop
 | .non,u=>u=Oe.none
 | .bl b,u=>u=Oe.bool b
 | .int i,u=>∃t,u=Oe.int i t
 | .str x,u=>∃t,u=Oe.str x t
 | .byt b,u=>∃t,u=Oe.bytes b t
 | .flt b,u=>∃t,u=Oe.float b t
 | .ref a,u=>u=Oe.ref a
 | .ty n,u=>u=Oe.type n
abbrev n5 :List V->List Oe->Prop:=Paired u0
def n5.length {xs:List V}{us:List Oe}(r:n5 xs us):xs.length=us.length:=NG r
theorem n5.get:∀{xs:List V} {us:List Oe} {i:Nat} {x:V},n5 xs us->xs[i]? = some x->∃u,us[i]? = some u/\u0 x u
 | _,_,_,_,.nil,e=>by simp at e
 | _,_,0,_,.cons r _,e=>by simp at e;subst e;exact⟨_,rfl,r⟩
 | _,_,i+1,x,.cons _ t,e=>by obtain⟨u,h1,h2⟩:=n5.get (i:=i) (x:=x) t (by simpa using e);exact⟨u,by simpa using h1,h2⟩
theorem n5.set {x:V}{u:Oe}(r:u0 x u):∀{xs:List V} {us:List Oe} (i:Nat),n5 xs us->n5 (xs.set i x) (us.set i u)
 | _,_,_,.nil=>.nil
 | _,_,0,.cons _ t=>.cons r t
 | _,_,i+1,.cons q t=>.cons q<|n5.set r i t
theorem n5.append:∀{xs ys:List V} {us ws:List Oe},n5 xs us->n5 ys ws->n5 (xs++ys) (us++ws)
 | _,_,_,_,.nil,s=>s
 | _,_,_,_,.cons r t,s=>.cons r<|n5.append t s
theorem n5.take:∀{xs:List V} {us:List Oe} (n:Nat),n5 xs us->n5 (xs.take n) (us.take n)
 | _,_,0,_=>.nil
 | _,_,_+1,.nil=>.nil
 | _,_,n+1,.cons r t=>.cons r<|n5.take n t
theorem n5.drop:∀{xs:List V} {us:List Oe} (n:Nat),n5 xs us->n5 (xs.drop n) (us.drop n)
 | _,_,0,r=>r
 | _,_,_+1,.nil=>.nil
 | _,_,n+1,.cons _ t=>n5.drop n t
def ik:Option V->Option Oe->Prop
 | some v,some u=>u0 v u
 | none,none=>True
 | _,_=>False
def KV {κ:Type}:List (κ×V)->List (κ×Oe)->Prop:=Paired λ(p:κ×V) (q:κ×Oe)=>p.1=q.1/\u0 p.2 q.2
def kV:Key->V
 | .inl i=>.int i
 | .inr x=>.str x
inductive HO where
  | lst (xs:List V)
  | tup (xs:List V)
  | dK (OQ:List (Key×V)) | dT (OQ:List (List Key×V))
  | set (S:Int->Bool) (n:Nat)
  | ins (C dx:Of) (fs:List (Str×V))
  | own (x:Of)
  | xd (fs:List (Str×V))
  | met (f x:Of)
  | rng (lo hi:Int)
  | frz (o:Ou) (u:HO)
  | tbl (ps:Array Oe)
  | ext (φ:Oq->Prop)
abbrev Hp :=Of->Option HO
def upd (H:Hp)(a:Of)(o:HO):Hp:=λb=>if b=a then some o else H b
def i7 {H:Hp}{a:Of}{o:HO}:upd H a o a=some o:=by unfold upd;rw[IE rfl]
def h8 {H:Hp}{a b:Of}{o:HO}(h:b≠a):upd H a o b=H b:=by unfold upd;rw[II h]
def l6 {H:Hp}{a b:Of}{o:HO}(h:H a=some o)(h':H b=none):a≠b:=by intro e;subst e;rw[h]at h';cases h'
section
variable (P:Oh)(w:Oi)
def D1 (H:Hp)(h:Oq)(a:Of):HO->Prop
 | .lst xs=>xs.length<=Os/\∃(its:List Oe) (n:Nat),n5 xs its/\h.get? a=some { cls:=.type "list",data:=.seq its.toArray n }
 | .tup xs=>xs.length<=Os/\∃its:List Oe,n5 xs its/\IsTup h a its.toArray
 | .dK OQ=>OQ.length<=Os/\(a == sysModules)=false/\∃vs,KV OQ vs/\h.DictOf (jj P w) a vs
 | .dT OQ=>OQ.length<=Os/\(a == sysModules)=false/\∃xs:List (List Key×Of×Oe),
   Paired (λ(p:List Key×V) (q:List Key×Of×Oe)=>p.1=q.1/\H q.2.1=some (.tup<|p.1.map kV)/\u0 p.2 q.2.2) OQ xs /\
   ∃o es ep,h.get? a=some o/\o.ExactDict/\o.data = .dict es ep/\es.toList=xs.map (entryOfKey<|tupleKind<|jj P w)/\(xs.map (·.1)).Nodup
 | .set S n=>h.SetOf (intKind P w) a S n
 | .ins C dx fs=>H dx=some (.own a)/\fs.length<=1000/\dx≠a/\h.get? a=some (PySem.W.instObj C dx) /\
   ∃mA,h.Ns1 dx mA/\(∀f,ik (fs.lookup f)<|mA f)/\PySem.Within mA (fs.map (·.1))
 | .own _=>∃o,h.get? a=some o
 | .xd fs=>∃mA,h.Ns1 a mA/\∀f,ik (fs.lookup f)<|mA f
 | .rng lo hi=>∃t u v,h.get? a=some { cls:=.type "range",data:=.fields #[.int lo t,.int hi u,.int 1 v] }
 | .frz o u=>h.get? a=some o/\D1 H h a u
 | .tbl ps=>h.get? a=some { cls:=.none,data:=.fields ps }
 | .met f x=>h.get? a=some (PySem.W.methodObj (.ref f)<|.ref x)
 | .ext φ=>φ h/\(∃o,h.get? a=some o)/\∀h1 h2:Oq,φ h1->(∀o,h1.get? a=some o->h2.get? a=some o)->φ h2
def HOk (H:Hp)(h:Oq):Prop:=∀a o,H a=some o->D1 P w H h a o
end
section
variable {P:Oh}{w:Oi}{H H':Hp}{h:Oq}{a:Of}{o:HO}
def D1.lt (x:D1 P w H h a o):a<h.objs.size:=by
 cases o with
 | lst xs=>obtain⟨_,_,_,_,e⟩:=x;exact IF e
 | tup xs=>obtain⟨_,_,_,p⟩:=x;exact p.lt
 | dK OQ=>obtain⟨_,_,_,_,o,_,_,e,_⟩:=x;exact IF e
 | dT OQ=>obtain⟨_,_,_,_,o,_,_,e,_⟩:=x;exact IF e
 | set S n=>obtain⟨o,_,_,_,e,_⟩:=x;exact IF e
 | ins C dx fs=>obtain⟨_,_,_,e,_⟩:=x;exact IF e
 | own y=>obtain⟨_,e⟩:=x;exact IF e
 | xd fs=>obtain⟨_,⟨_,_,_,e,_⟩,_⟩:=x;exact IF e
 | rng lo hi=>obtain⟨_,_,_,e⟩:=x;exact IF e
 | frz ob u=>obtain⟨e,_⟩:=x;exact IF e
 | tbl ps=>exact IF (show h.get? a=some _ from x)
 | met f y=>exact IF (show h.get? a=some _ from x)
 | ext φ=>obtain⟨_,⟨_,e⟩,_⟩:=x;exact IF e
theorem Paired.mapP {α β:Type}{F G:α->β->Prop}:∀{l₁:List α} {l₂:List β},Paired F l₁ l₂->(∀a b,F a b->G a b)->Paired G l₁ l₂
 | _,_,.nil,_=>.nil
 | _,_,.cons r t,f=>.cons (f _ _ r)<|Paired.mapP t f
def D1.stay (x:D1 P w H h a o)(k:∀b u,(b=a\/H b=some (.own a))->h.get? b=some u->h'.get? b=some u)
  (ho:∀b,H b=some (.own a)->H' b=some (.own a)) (ht:∀b xs,H b=some (.tup xs)->H' b=some (.tup xs)):D1 P w H' h' a o:=by
 induction o with
 | lst xs=>obtain⟨z,its,n,r,e⟩:=x;exact⟨z,its,n,r,k _ _ (.inl rfl) e⟩
 | tup xs=>obtain⟨z,its,r,ob,e,c⟩:=x;exact⟨z,its,r,ob,k _ _ (.inl rfl) e,c⟩
 | dK OQ=>obtain⟨z,y,vs,r,ob,es,ep,e,c⟩:=x;exact⟨z,y,vs,r,ob,es,ep,k _ _ (.inl rfl) e,c⟩
 | dT OQ =>obtain⟨z,y,xs,r,ob,es,ep,e,c⟩:=x;exact⟨z,y,xs,Paired.mapP r λp q z=>⟨z.1,ht _ _ z.2.1,z.2.2⟩,ob,es,ep,k _ _ (.inl rfl) e,c⟩
 | set S n=>obtain⟨ob,es,ep,t,e,c⟩:=x;exact⟨ob,es,ep,t,k _ _ (.inl rfl) e,c⟩
 | ins C dx fs =>obtain⟨d,z,ne,e,mA,⟨od,es,ep,e2,c⟩,r⟩:=x;exact⟨ho _ d,z,ne,k _ _ (.inl rfl) e,mA,⟨od,es,ep,k _ _ (.inr d) e2,c⟩,r⟩
 | own y=>obtain⟨ob,e⟩:=x;exact⟨ob,k _ _ (.inl rfl) e⟩
 | xd fs=>obtain⟨mA,⟨od,es,ep,e,c⟩,r⟩:=x;exact⟨mA,⟨od,es,ep,k _ _ (.inl rfl) e,c⟩,r⟩
 | rng lo hi=>obtain⟨t,u,v,e⟩:=x;exact⟨t,u,v,k _ _ (.inl rfl) e⟩
 | frz ob u ih=>obtain⟨e,q⟩:=x;exact⟨k _ _ (.inl rfl) e,ih q⟩
 | tbl ps =>have e:h.get? a=some { cls:=.none,data:=.fields ps }:=x;show h'.get? a=some { cls:=.none,data:=.fields ps };exact k a _ (.inl rfl) e
 | met f y =>have e:h.get? a=some (PySem.W.methodObj (.ref f)<|.ref y):=x;show h'.get? a=some (PySem.W.methodObj (.ref f)<|.ref y);exact k a _ (.inl rfl) e
 | ext φ=>obtain⟨p,⟨o,e⟩,st⟩:=x;exact⟨st _ _ p λo q=>k _ _ (.inl rfl) q,⟨o,k _ _ (.inl rfl) e⟩,st⟩
def HOk.lt (x:HOk P w H h)(e:H a=some o):a<h.objs.size:=(x a o e).lt
def HOk.fresh (x:HOk P w H h)(e:h.objs.size<=a):H a=none:=by
 cases q:H a with
 | none=>rfl
 | some u=>exact absurd (IQ (x.lt q) e)<|KF _
def HOk.kept (x:HOk P w H h)(k:∀b u,h.get? b=some u->h'.get? b=some u):HOk P w H h':=λa o e =>
 (x a o e).stay (λb u _ q=>k b u q) (λ_ q=>q) λ_ _ q=>q
def HOk.laid (x:HOk P w H h)(k:∀b u,h.get? b=some u->h'.get? b=some u)(hp:h.objs.size<=a)(new:D1 P w (upd H a o) h' a o):HOk P w (upd H a o) h':=λb u e=>by
 have hn:=x.fresh hp;by_cases hb:b=a
 .subst hb;rw[i7]at e;cases e;exact new
 .rw[h8 hb]at e;exact(x b u e).stay (λc v _ q=>k c v q) (λc q=>by rw[h8<|l6 q hn];exact q) λc xs q=>by rw[h8<|l6 q hn];exact q
end
def Rd (H:Hp)(a:Of)(u:HO):Prop:=H a=some u\/∃o,H a=some (.frz o u)
def Rd.ok {P:Oh}{w:Oi}{H:Hp}{h:Oq}{a:Of}{u:HO}(r:Rd H a u)(x:HOk P w H h):D1 P w H h a u:=by
 rcases r with r | ⟨o,r⟩
 .exact x a u r
 .obtain⟨_,q⟩:=x a _ r;exact q
def Mut:Option HO->Prop
 | some (.lst _)=>True
 | some (.dK _)=>True
 | some (.dT _)=>True
 | some (.set _ _)=>True
 | some (.ins _ _ _)=>True
 | some (.ext _)=>True
 | _=>False
section
variable {P:Oh}{w:Oi}{H:Hp}{h:Oq}{x e:Of}{o':HO}
def HOk.write (ok:HOk P w H h)(mu:Mut (H x))(he:e=x\/H e=some (.own x))(k:∀b u,b≠e->h.get? b=some u->h'.get? b=some u)(heo:∃u,h'.get? e=some u)
  (new:D1 P w (upd H x o') h' x o'):HOk P w (upd H x o') h':=λb u q=>by
 have nown:∀c y,H c=some (.own y)->c≠x:=λc y r z=>by subst z;rw[r]at mu;exact mu
 have ntup:∀c xs,H c=some (.tup xs)->c≠x:=λc xs r z=>by subst z;rw[r]at mu;exact mu
 by_cases hb:b=x
 .subst hb;rw[i7]at q;cases q;exact new
 .rw[h8 hb]at q;by_cases hbe:b=e
  .have q':H b=some (.own x):=by
    rcases he with z | z
    .exact absurd (hbe.trans z) hb
    .rw[hbe];exact z
   rw[q]at q';cases q';obtain⟨v,hv⟩:=heo;exact⟨v,by rw[hbe];exact hv⟩
  .refine(ok b u q).stay (λc v hc r=>k c v ?_ r) (λc r=>by rw[h8<|nown c b r];exact r) λc xs r=>by rw[h8<|ntup c xs r];exact r
   rcases hc with rfl | hc
   .exact hbe
   .rintro rfl;rcases he with z | z
    .exact nown c b hc z
    .rw[hc]at z;cases z;exact hb rfl
end
structure Un (fs ex:List Of) (H H':Hp) (h h':Oq):Prop where
 keep:∀b o,h.get? b=some o->H b=none->b ∉ fs->b ∉ ex->h'.get? b=some o
 slot:∀b o,h.get? b=some o->H b=none->b∈fs->b ∉ ex->∃sl,h'.get? b=some { o with slots:=sl }
 free:∀b o,h.get? b=some o->H b=none->b ∉ ex->H' b=none
 there:∀b o,h.get? b=some o->b ∉ ex->∃o',h'.get? b=some o'
 tups:∀b xs,H b=some (.tup xs)->H' b=some (.tup xs)
 frzs:∀b o u,H b=some (.frz o u)->H' b=some (.frz o u)
 tbls:∀b ps,H b=some (.tbl ps)->∃more,H' b=some (.tbl<|ps++more)
section
variable {fs fs' ex ex':List Of}{H H1 H2:Hp}{h h1 h2:Oq}{a x e:Of}{o:HO}
def Un.any (u:Un fs ex H H1 h h1){b:Of}{ob:Ou}(q:h.get? b=some ob)(n:H b=none)(hx:b ∉ ex):∃sl,h1.get? b=some { ob with slots:=sl }:=by
 by_cases hb:b∈fs
 .exact u.slot b ob q n hb hx
 .exact⟨ob.slots,u.keep b ob q n hb hx⟩
def Un.kept (k:∀b u,h.get? b=some u->h'.get? b=some u):Un fs ex H H h h' :=
 ⟨λb ob q _ _ _=>k b ob q,λb ob q _ _ _=>⟨ob.slots,k b ob q⟩,λ_ _ _ n _=>n,λb ob q _=>⟨ob,k b ob q⟩,λ_ _ q=>q,λ_ _ _ q=>q,λ_ ps q=>⟨#[],by rw[q];simp⟩⟩
def Un.refl :Un fs ex H H h h:=Un.kept λ_ _ q=>q
def Un.laid (k:∀b u,h.get? b=some u->h'.get? b=some u)(hp:h.objs.size<=a)(hn:H a=none):Un fs ex H (upd H a o) h h' where
 keep:=λb u q _ _ _=>k b u q
 slot:=λb u q _ _ _=>⟨u.slots,k b u q⟩
 free:=λb u q n _=>by rw[h8<|IX<|IQ (IF q) hp];exact n
 there:=λb u q _=>⟨u,k b u q⟩
 tups:=λb xs q=>by rw[h8<|l6 q hn];exact q
 frzs:=λb u xs q=>by rw[h8<|l6 q hn];exact q
 tbls:=λb ps q=>⟨#[],by rw[h8<|l6 q hn,q];simp⟩
def Un.write (mu:Mut (H x))(he:e=x\/H e=some (.own x))(k:∀b u,b≠e->h.get? b=some u->h'.get? b=some u)(heo:∃u,h'.get? e=some u):Un fs ex H (upd H x o) h h':=by
 have hx:∀b,H b=none->b≠x:=λb n z=>by subst z;rw[n]at mu;exact mu
 have hb:∀b,H b=none->b≠e:=λb n z=>by
  subst z;rcases he with r | r
  .exact hx b n r
  .rw[n]at r;cases r
 have hm:∀b u,H b=some u->¬Mut (some u)->b≠x:=λb u q nm z=>by subst z;rw[q]at mu;exact nm mu
 refine⟨λb u q n _ _=>k b u (hb b n) q,λb u q n _ _=>⟨u.slots,k b u (hb b n) q⟩,λb u q n _=>by rw[h8<|hx b n];exact n,λb u q _=>?_,
  λb xs q=>by rw[h8<|hm b _ q λz=>z];exact q,λb u xs q=>by rw[h8<|hm b _ q λz=>z];exact q,λb ps q=>⟨#[],by rw[h8<|hm b _ q λz=>z,q];simp⟩⟩
 by_cases hbe:b=e
 .subst hbe;exact heo
 .exact⟨u,k b u hbe q⟩
end
def trk (h:Oq)(H:Hp):List Of:=(List.range h.objs.size).filter λa=>(H a).isSome
def eQ (h:Oq)(H:Hp):Oq:=PySem.W.hideAll h<|trk h H
def pE (h:Oq)(H:Hp):(eQ h H).objs.size=h.objs.size:=PySem.W.hideAll_size _ _
def rf {h:Oq}{H:Hp}{b:Of}{o:Ou}(e:h.get? b=some o)(n:H b=none):(eQ h H).get? b=some o :=
 PySem.W.hideAll_get _ e λhm=>by have q:(H b).isSome=true:=(KM.1 hm).2;rw[n]at q;simp at q
def xp {h:Oq}{H:Hp}{b:Of}{o:Ou}(e:(eQ h H).get? b=some o):h.get? b=some o/\H b=none:=by
 have e':h.get? b=some o:=PySem.W.of_hideAll (trk h H) e;refine⟨e',?_⟩;cases q:H b with
 | none=>rfl
 | some x =>have hm:b∈trk h H:=KM.2 ⟨List.mem_range.2<|IF e',by simp[q]⟩;have z:(eQ h H).get? b=none:=PySem.W.hideAll_none (trk h H) hm;rw[z]at e;cases e
end
variable {OM:List (Of×Ou)}{g':Array GenState}{t':Nat}
section
structure Mod (K:Fg) (mg:Str->Option Oe) (base:Oq):Prop where
 kin:K.In base
 glob:base.Ns OA mg
 blt:∃mb,base.Ns builtinsNs mb/\∀x:Str,x ≠ "__name__"->mb x=OD x
 nolimit:base.NoLimit
structure Cx where
 prog:Oh
 w:Oi
 K:Fg
 mg:Str->Option Oe
 base:Oq
 A:Oj
 N:List Str
 s₀:Og
 H₀:Hp
 env:Ov
 outer:List Ov
 stack:List Ov
 ex:List Of
 fn:Str->Bool
 calm:Bool
 pn:List (Of×Ou)
 xe:Oe->Og->Prop
def frs (l:List Ov):List Of:=l.filterMap (·.frame)
abbrev Cx.fs (X:Cx):List Of:=frs X.outer
def Vis (sc:Ol)(x:Str):Prop:=sc.names.lookup x=some .local\/sc.names.lookup x=some .cell\/sc.names.lookup x=some .free
def Loc (sc:Ol)(x:Str):Prop:=sc.names.lookup x=some .local\/sc.names.lookup x=some .cell
def Cz (env:Ov)(h:Oq)(m:Str->Option Oe)(x:Str)(u:Oe):Prop :=
 (env.kindOf x=some .local/\m x=some u)\/((env.kindOf x=some .cell\/env.kindOf x=some .free)/\∃c,env.cells.lookup x=some c/\h.IsCell c (some u))
structure Cx.Ok (X:Cx):Prop where
 mod:Mod X.K X.mg X.base
 kind:X.env.scope.kind = .function
 glob:X.env.globals=OA
 blt:X.env.builtins=builtinsNs
 above:X.s₀.heap.objs.size<=X.env.locals
 inj:∀x y c,X.env.cells.lookup x=some c->X.env.cells.lookup y=some c->x=y
 has:∀x,(X.env.kindOf x=some .cell\/X.env.kindOf x=some .free)->∃c,X.env.cells.lookup x=some c
 cab:∀x c,X.fn x=true->X.env.cells.lookup x=some c->X.s₀.heap.objs.size<=c
 hd:X.calm=true->X.A.handled=none
 frames:X.A.frames=some X.stack
 stk:X.stack=X.outer\/(X.stack=X.env::X.outer/\X.env.frame=some X.env.locals)
 exf:∀b∈X.ex,b≠X.env.locals/\∀x c,X.env.cells.lookup x=some c->c≠b
 bs:∀b o,X.base.get? b=some o->X.s₀.heap.get? b=some o/\X.H₀ b=none
 bsz:X.base.objs.size<=X.s₀.heap.objs.size
 noex:∀b o,X.base.get? b=some o->b ∉ X.ex
 exfs:∀b∈X.ex,b ∉ X.fs
 funs:X.s₀.heap.FunFrames X.base X.outer
 frf:∀b∈X.fs,X.H₀ b=none
structure Inv (X:Cx) (OM:List (Of×Ou)) (σ:List (Option V)) (H:Hp) (s:Og):Prop where
 ok:X.Ok
 os:s.os=X.s₀.os
 bare:AllBare s.gens
 base:Un X.fs X.ex X.H₀ H X.s₀.heap s.heap
 loc:∃m,s.heap.Ns X.env.locals m/\∀(i:Nat) (x:Str) (v:V),X.N[i]? = some x->σ[i]? = some (some v)->Vis X.env.scope x->∃u,u0 v u/\Cz X.env s.heap m x u
 cell:∀x c,X.env.cells.lookup x=some c->∃v,s.heap.IsCell c v
 free:H X.env.locals=none
 freeC:∀x c,X.env.cells.lookup x=some c->H c=none
 pin:∀p∈X.pn++OM,s.heap.get? p.1=some p.2/\H p.1=none/\p.1≠X.env.locals/\p.1 ∉ X.fs/\∀v,p.2.data ≠ .cell v
 hok:HOk X.prog X.w H s.heap
 len:σ.length=X.N.length
section
variable {X:Cx}{σ:List (Option V)}{H H':Hp}{s:Og}
def Cx.Ok.nofr (ok:X.Ok){b:Of}{o:Ou}(e:X.base.get? b=some o):b ∉ X.fs:=λhb=>by have:=(ok.funs.mem hb).1;rw[e]at this;cases this
def Inv.bs (I:Inv X OM σ H s):∀b o,X.base.get? b=some o->s.heap.get? b=some o/\H b=none:=λb o e =>
 ⟨I.base.keep b o (I.ok.bs b o e).1 (I.ok.bs b o e).2 (I.ok.nofr e)<|I.ok.noex b o e,I.base.free b o (I.ok.bs b o e).1 (I.ok.bs b o e).2<|I.ok.noex b o e⟩
def Inv.bk (I:Inv X OM σ H s):∀b o,X.base.get? b=some o->s.heap.get? b=some o:=λb o e=>(I.bs b o e).1
def Inv.mod (I:Inv X OM σ H s):Mod X.K X.mg X.base:=I.ok.mod
def Inv.kIn (I:Inv X OM σ H s):X.K.In s.heap:=I.ok.mod.kin.keeps I.bk
def Inv.nolimit (I:Inv X OM σ H s):s.heap.NoLimit:=I.ok.mod.nolimit.keeps I.bk
def Inv.lt (I:Inv X OM σ H s):X.env.locals<s.heap.objs.size:=let ⟨_,hn,_⟩:=I.loc;hn.lt
def Inv.sz (I:Inv X OM σ H s):X.s₀.heap.objs.size<=s.heap.objs.size:=IV I.ok.above<|Ka I.lt
def Inv.nofs (I:Inv X OM σ H s){a:Of}(h:s.heap.objs.size<=a):a ∉ X.fs:=λhb=>by obtain⟨_,o,ho,_⟩:=I.ok.funs.mem hb;exact absurd (IQ (IF ho)<|IV I.sz h)<|KF _
def Inv.cne (I:Inv X OM σ H s):∀x c,X.env.cells.lookup x=some c->c≠X.env.locals:=λx c e z=>by obtain⟨v,o,ho,hd⟩:=I.cell x c e;obtain⟨m,⟨o',es,ep,ho',hd',_⟩,_⟩:=I.loc;rw[z,ho']at ho;cases ho;rw[hd']at hd;cases hd
def Inv.funs (I:Inv X OM σ H s):s.heap.FunFrames X.base X.outer:=by
 have all:∀(l:List Ov),(∀b∈frs l,b∈X.fs)->X.s₀.heap.FunFrames X.base l->s.heap.FunFrames X.base l:=by
  intro l;induction l with
  | nil=>intro _ _;trivial
  | cons env r ih =>
   intro hs hl;obtain⟨hk,⟨L,o,hf,hn,ho,hd⟩,hr⟩:=hl;have hL:L∈X.fs:=hs L (by unfold frs;rw[Me,hf];exact IG);obtain⟨sl,e⟩:=I.base.slot L o ho (I.ok.frf L hL) hL λz=>I.ok.exfs L z hL
   exact⟨hk,⟨L,_,hf,hn,e,hd⟩,ih (λb hb=>hs b (by unfold frs;rw[Me,hf];exact IA _ hb)) hr⟩
 exact all X.outer (λ_ hb=>hb) I.ok.funs
def Inv.stack (I:Inv X OM σ H s):s.heap.FunFrames X.base X.stack:=by
 rcases I.ok.stk with e | ⟨e,hf⟩
 .rw[e];exact I.funs
 .rw[e];obtain⟨m,hn,_⟩:=I.loc;refine .cons (by rw[I.ok.kind];decide) hf hn ?_ I.funs;exact Oq.get?_none_of_le<|IV I.ok.bsz I.ok.above
def Inv.stkSub (I:Inv X OM σ H s):∀b∈frs X.stack,b∈X.env.locals::X.fs:=λb hb=>by
 rcases I.ok.stk with e | ⟨e,hf⟩
 .rw[e]at hb;exact IA _ hb
 .rw[e]at hb;unfold frs at hb;rw[Me,hf]at hb;exact hb
def Inv.stkFree (I:Inv X OM σ H s):∀b∈frs X.stack,H b=none:=λb hb=>by
 rcases IP.1 (I.stkSub b hb) with e | hb
 .rw[e];exact I.free
 .obtain⟨_,o,ho,_⟩:=I.ok.funs.mem hb;exact I.base.free b o ho (I.ok.frf b hb) λz=>I.ok.exfs b z hb
def Inv.step {d':Drawn}{ch:List Of}(I:Inv X OM σ H s)
  (hch:∀b∈ch,(b∈X.ex\/X.s₀.heap.objs.size<=b)/\b≠X.env.locals/\(∀x c,X.env.cells.lookup x=some c->c≠b)/\∀p∈X.pn++OM,p.1≠b)
  (keep:∀b o,b≠X.env.locals->b ∉ X.fs->b ∉ ch->s.heap.get? b=some o->H b=none->h'.get? b=some o)
  (slot:∀b o,b≠X.env.locals->b∈X.fs->b ∉ ch->s.heap.get? b=some o->H b=none->∃sl,h'.get? b=some { o with slots:=sl }) (free:∀b o,b ∉ ch->s.heap.get? b=some o->H b=none->H' b=none)
  (there:∀b o,b ∉ ch->s.heap.get? b=some o->∃o',h'.get? b=some o')
  (tups:∀b xs,H b=some (.tup xs)->H' b=some (.tup xs)) (frzs:∀b o u,H b=some (.frz o u)->H' b=some (.frz o u)) (tbls:∀b ps,H b=some (.tbl ps)->∃more,H' b=some (.tbl<|ps++more))
  (ns:∀m,s.heap.Ns X.env.locals m->h'.Ns X.env.locals m) (hok:HOk X.prog X.w H' h') (hg:AllBare g') :
  Inv X OM σ H' { s with heap:=h',gens:=g',drawn:=d',toks:=t' }:=by
 have neL:∀b o,X.s₀.heap.get? b=some o->b≠X.env.locals:=λb o e=>IX<|IQ (IF e) I.ok.above
 have neC:∀b o,X.s₀.heap.get? b=some o->b ∉ X.ex->b ∉ ch:=λb o e hx hb=>by
  rcases(hch b hb).1 with z | z
  .exact hx z
  .exact absurd (IQ (IF e) z)<|KF _
 have cellK:∀x c,X.env.cells.lookup x=some c->∀v,s.heap.IsCell c v->h'.IsCell c v:=λx c e v ⟨o,ho,hd⟩=>by
  have nch:c ∉ ch:=λz=>(hch c z).2.2.1 x c e rfl
  by_cases hc:c∈X.fs
  .obtain⟨sl,q⟩:=slot c o (I.cne x c e) hc nch ho<|I.freeC x c e;exact⟨_,q,hd⟩
  .exact⟨o,keep c o (I.cne x c e) hc nch ho<|I.freeC x c e,hd⟩
 refine⟨I.ok,I.os,hg,⟨λb o e n hb hx=>?_,λb o e n hb hx=>?_,λb o e n hx=>?_,λb o e hx=>?_,λb xs e=>tups b xs<|I.base.tups b xs e,λb o xs e=>frzs b o xs<|I.base.frzs b o xs e,λb ps e=>?_⟩,?_,λx c e=>?_,?_,λx c e=>?_,λp hp=>?_,hok,I.len⟩
 .exact keep b o (neL b o e) hb (neC b o e hx) (I.base.keep b o e n hb hx)<|I.base.free b o e n hx
 .obtain⟨sl,e1⟩:=I.base.slot b o e n hb hx;obtain⟨sl',e2⟩:=slot b _ (neL b o e) hb (neC b o e hx) e1<|I.base.free b o e n hx;exact⟨sl',e2⟩
 .obtain⟨o',e1⟩:=I.base.there b o e hx;exact free b o' (neC b o e hx) e1<|I.base.free b o e n hx
 .obtain⟨o',e1⟩:=I.base.there b o e hx;exact there b o' (neC b o e hx) e1
 .obtain⟨m1,e1⟩:=I.base.tbls b ps e;obtain⟨m2,e2⟩:=tbls b _ e1;exact⟨m1++m2,by rw[e2,Array.append_assoc]⟩
 .obtain⟨m,hn,hl⟩:=I.loc;refine⟨m,ns m hn,λi x v e1 e2 e3=>?_⟩;obtain⟨u,r,l⟩:=hl i x v e1 e2 e3;refine⟨u,r,?_⟩;rcases l with l | ⟨k,c,e,z⟩
  .exact .inl l
  .exact .inr ⟨k,c,e,cellK x c e _ z⟩
 .obtain⟨v,z⟩:=I.cell x c e;exact⟨v,cellK x c e v z⟩
 .obtain⟨m,⟨o,_,_,ho,_⟩,_⟩:=I.loc;exact free _ o (λz=>(hch _ z).2.1 rfl) ho I.free
 .obtain⟨v,o,ho,hd⟩:=I.cell x c e;exact free c o (λz=>(hch c z).2.2.1 x c e rfl) ho<|I.freeC x c e
 .obtain⟨e,n,ne,nf,d⟩:=I.pin p hp;have nch:p.1 ∉ ch:=λz=>(hch p.1 z).2.2.2 p hp rfl
  exact⟨keep p.1 p.2 ne nf nch e n,free p.1 p.2 nch e n,ne,nf,d⟩
def Inv.un (I:Inv X OM σ H s)(u:Un X.fs [] H H' s.heap h')(hok:HOk X.prog X.w H' h'):Inv X OM σ H' { s with heap:=h',toks:=t' }:=by
 obtain⟨m,⟨o,es,ep,ho,r⟩,_⟩:=id I.loc;obtain⟨sl,hL⟩:=u.any ho I.free (by simp);exact I.step (g':=s.gens) (d':=s.drawn) (ch:=[]) (λ_ z=>nomatch z) (λb o _ hb _ e n=>u.keep b o e n hb<|by simp) (λb o _ hb _ e n=>u.slot b o e n hb<|by simp) (λb o _ e n=>u.free b o e n<|by simp) (λb o _ e=>u.there b o e<|by simp) u.tups u.frzs u.tbls (λm' hm=>by obtain⟨o',es',ep',ho',r'⟩:=hm;rw[ho]at ho';cases ho';exact⟨_,es',ep',hL,r'⟩) hok I.bare
def Inv.call {d':Drawn}{ch:List Of}(I:Inv X OM σ H s)(u:Un (frs X.stack) ch H H' s.heap h')(hok:HOk X.prog X.w H' h')(hg:AllBare g')
  (hch:∀b∈ch,(b∈X.ex\/X.s₀.heap.objs.size<=b)/\b≠X.env.locals/\(∀x c,X.env.cells.lookup x=some c->c≠b)/\∀p∈X.pn++OM,p.1≠b) :
  Inv X OM σ H' { s with heap:=h',gens:=g',drawn:=d',toks:=t' }:=by
 obtain⟨m,⟨o,es,ep,ho,r⟩,_⟩:=id I.loc;obtain⟨sl,hL⟩:=u.any ho I.free λz=>(hch _ z).2.1 rfl
 exact I.step (ch:=ch) hch (λb o hL hb hc e n=>u.keep b o e n (λz=>(IP.1<|I.stkSub b z).elim hL hb) hc) (λb o _ _ hc e n=>u.any e n hc) (λb o hc e n=>u.free b o e n hc) (λb o hc e=>u.there b o e hc) u.tups u.frzs u.tbls (λm' hm=>by obtain⟨o',es',ep',ho',r'⟩:=hm;rw[ho]at ho';cases ho';exact⟨_,es',ep',hL,r'⟩) hok hg
def Inv.turned {it:Of}(I:Inv X OM σ H s)(k:∀b o,b≠it->s.heap.get? b=some o->h'.get? b=some o)(hn:H it=none)(hL:it≠X.env.locals)
  (h1:it∈X.ex\/X.s₀.heap.objs.size<=it) (h2:∀x c,X.env.cells.lookup x=some c->c≠it) (h3:∀p∈X.pn++OM,p.1≠it):Inv X OM σ H { s with heap:=h',toks:=t' }:=by
 have nit:∀b u,H b=some u->b≠it:=λb u e z=>by rw[z,hn]at e;cases e
 refine I.step (g':=s.gens) (d':=s.drawn) (ch:=[it]) (λb hb=>?_) (λb o _ _ hc e _=>k b o (λz=>hc<|by simp[z]) e) (λb o _ _ hc e _=>⟨o.slots,k b o (λz=>hc<|by simp[z]) e⟩) (λ_ _ _ _ n=>n)
  (λb o hc e=>⟨o,k b o (λz=>hc<|by simp[z]) e⟩) (λ_ _ e=>e) (λ_ _ _ e=>e) (λb ps e=>⟨#[],by rw[e];simp⟩) (λm hm=>?_) (λb u e=>?_) I.bare
 .have e:b=it:=by simpa using hb
  subst e;exact⟨h1,hL,h2,h3⟩
 .obtain⟨o,es,ep,ho,r⟩:=hm;exact⟨o,es,ep,k _ o (JC hL) ho,r⟩
 .refine(I.hok b u e).stay (λc v hc q=>k c v ?_ q) (λ_ q=>q) λ_ _ q=>q
  rcases hc with z | z
  .rw[z];exact nit b u e
  .exact nit c _ z
def Inv.tok (I:Inv X OM σ H s)(t:Nat):Inv X OM σ H { s with toks:=t }:=I.un (h':=s.heap) (t':=t) Un.refl I.hok
def Inv.kept (I:Inv X OM σ H s)(k:∀b u,s.heap.get? b=some u->h'.get? b=some u):Inv X OM σ H { s with heap:=h',toks:=t' }:=I.un (Un.kept k)<|I.hok.kept k
def Inv.laid {a:Of}{o:HO}(I:Inv X OM σ H s)(k:∀b u,s.heap.get? b=some u->h'.get? b=some u)(hp:s.heap.objs.size<=a)(new:D1 X.prog X.w (upd H a o) h' a o) :
  Inv X OM σ (upd H a o) { s with heap:=h',toks:=t' }:=I.un (Un.laid k hp<|I.hok.fresh hp)<|I.hok.laid k hp new
def Inv.write {x e:Of}{o:HO}(I:Inv X OM σ H s)(mu:Mut (H x))(he:e=x\/H e=some (.own x))(k:∀b u,b≠e->s.heap.get? b=some u->h'.get? b=some u)(heo:∃u,h'.get? e=some u)
  (new:D1 X.prog X.w (upd H x o) h' x o):Inv X OM σ (upd H x o) { s with heap:=h',toks:=t' }:=I.un (Un.write mu he k heo)<|I.hok.write mu he k heo new
def Inv.pins_of {pins':List (Of×Ou)}(I:Inv X OM σ H s)(h:∀p∈pins',s.heap.get? p.1=some p.2/\H p.1=none/\p.1≠X.env.locals/\p.1 ∉ X.fs/\∀v,p.2.data ≠ .cell v):Inv X pins' σ H s :=
 ⟨I.ok,I.os,I.bare,I.base,I.loc,I.cell,I.free,I.freeC,λp hp=>(LD.1 hp).elim (λz=>I.pin p<|KB _ z)<|h p,I.hok,I.len⟩
def fu {N:List Str}(hN:N.Nodup){i j:Nat}{x:Str}(a:N[i]? = some x)(b:N[j]? = some x):i=j:=by obtain⟨h1,e1⟩:=IH.1 a;obtain⟨h2,e2⟩:=IH.1 b;exact(List.getElem_inj hN).1<|e1.trans e2.symm
def pJ {M:Model}{A:Oj}{E:Oe->Og->Prop}{i:Nat}{x:Str}{v:V}{u:Oe}{Q:Unit->Og->Prop}(I:Inv X OM σ H s)(hN:X.N.Nodup)(hi:X.N[i]? = some x)(hx:Loc X.env.scope x)(r:u0 v u)
  (h:∀s',Inv X OM (σ.set i<|some v) H s'->(∃a,Oq.SameBut a s.heap s'.heap/\(a=X.env.locals\/X.env.cells.lookup x=some a))->Q () s') (hf:X.fn x=true\/X.env.scope.names.lookup x=some .local:=by walk_at "v"):Oz M A (storeName X.env x u) Q E s:=by
 obtain⟨m,hn,hl⟩:=id I.loc;have hcls:(X.env.scope.kind == .class||(X.env.scope.kind == .module&&X.env.locals != X.env.globals))=false:=by rw[I.ok.kind];rfl
 have hiσ:i < σ.length:=by rw[I.len];exact(IH.1 hi).1
 have cne:=I.cne;have tracked:∀{a:Of} {h':Oq},(∃o,s.heap.get? a=some o/\H a=none)->Oq.SameBut a s.heap h'->HOk X.prog X.w H h':=λ{a h'} ha hs b ob e=>by
  obtain⟨_,_,hfree⟩:=ha;refine(I.hok b ob e).stay (λc w' hc q=>(hs.2 c ?_).trans q) (λ_ q=>q) λ_ _ q=>q
  rintro rfl;rcases hc with rfl | hc
  .rw[hfree]at e;cases e
  .rw[hfree]at hc;cases hc
 rcases hx with hk | hk
 .refine wpAny_storeName_local hk hn (λh' hn' hs=>?_) hcls;obtain⟨oL,_,_,hoL,_⟩:=id hn;refine h _ ⟨I.ok,I.os,I.bare,⟨λb o e n hb hx=>?_,λb o e n hb hx=>?_,I.base.free,λb o e hx=>?_,I.base.tups,I.base.frzs,I.base.tbls⟩,⟨_,hn',λj y v' e1 e2 e3=>?_⟩,λy c e=>?_,I.free,I.freeC,λp hp=>?_,tracked ⟨oL,hoL,I.free⟩ hs,by simpa using I.len⟩ ⟨_,hs,.inl rfl⟩
  .exact(hs.2 b<|IX<|IQ (IF e) I.ok.above).trans<|I.base.keep b o e n hb hx
  .obtain⟨sl,e1⟩:=I.base.slot b o e n hb hx;exact⟨sl,(hs.2 b<|IX<|IQ (IF e) I.ok.above).trans e1⟩
  .obtain⟨o',e1⟩:=I.base.there b o e hx;exact⟨o',(hs.2 b<|IX<|IQ (IF e) I.ok.above).trans e1⟩
  .by_cases hj:j=i
   .subst hj;rw[hi]at e1;cases e1;rw[IR hiσ]at e2;cases e2;exact⟨u,r,.inl ⟨hk,by simp⟩⟩
   .rw[IL<|JC hj]at e2;obtain⟨u',r',q⟩:=hl j y v' e1 e2 e3;refine⟨u',r',?_⟩;rcases q with ⟨k,e⟩ | ⟨k,c,e,z⟩
    .refine .inl ⟨k,?_⟩;have:y≠x:=λe=>hj<|fu hN e1<|e▸hi
     simp[this,e]
    .exact .inr ⟨k,c,e,z.sameBut hs<|cne y c e⟩
  .obtain⟨w',z⟩:=I.cell y c e;exact⟨w',z.sameBut hs<|cne y c e⟩
  .obtain⟨e,n,ne,nf,d⟩:=I.pin p hp;exact⟨(hs.2 p.1 ne).trans e,n,ne,nf,d⟩
 .have hfn:X.fn x=true:=by
   rcases hf with z | z
   .exact z
   .rw[z]at hk;cases hk
  obtain⟨c,hc⟩:=I.ok.has x<|.inl hk;obtain⟨w',z⟩:=I.cell x c hc;refine wpAny_storeName_cell I.ok.kind hk hc z (λh' hc' hs=>?_);obtain⟨oc,hoc,hocd⟩:=id z;refine h { s with heap:=h' } ⟨I.ok,I.os,I.bare,⟨λb o e n hb hx=>?_,λb o e n hb hx=>?_,I.base.free,λb o e hx=>?_,I.base.tups,I.base.frzs,I.base.tbls⟩,⟨m,hn.sameBut hs<|JC<|cne x c hc,λj y v' e1 e2 e3=>?_⟩,λy c' e=>?_,I.free,I.freeC,λp hp=>?_,tracked ⟨oc,hoc,I.freeC x c hc⟩ hs,by simpa using I.len⟩ ⟨c,hs,.inr hc⟩
  .exact(hs.2 b<|IX<|IQ (IF e)<|I.ok.cab x c hfn hc).trans<|I.base.keep b o e n hb hx
  .obtain⟨sl,e1⟩:=I.base.slot b o e n hb hx;exact⟨sl,(hs.2 b<|IX<|IQ (IF e)<|I.ok.cab x c hfn hc).trans e1⟩
  .obtain⟨o',e1⟩:=I.base.there b o e hx;exact⟨o',(hs.2 b<|IX<|IQ (IF e)<|I.ok.cab x c hfn hc).trans e1⟩
  .by_cases hj:j=i
   .subst hj;rw[hi]at e1;cases e1;rw[IR hiσ]at e2;cases e2;exact⟨u,r,.inr ⟨.inl hk,c,hc,hc'⟩⟩
   .rw[IL<|JC hj]at e2;obtain⟨u',r',q⟩:=hl j y v' e1 e2 e3;refine⟨u',r',?_⟩;rcases q with q | ⟨k,c',e,z'⟩
    .exact .inl q
    .refine .inr ⟨k,c',e,z'.sameBut hs ?_⟩;rintro rfl;exact hj<|fu hN e1<|I.ok.inj _ _ _ e hc▸hi
  .by_cases hcc:c'=c
   .subst hcc;exact⟨_,hc'⟩
   .obtain⟨w2,z2⟩:=I.cell y c' e;exact⟨w2,z2.sameBut hs hcc⟩
  .obtain⟨e,n,ne,nf,d⟩:=I.pin p hp;refine⟨(hs.2 p.1 ?_).trans e,n,ne,nf,d⟩;intro q;rw[q,hoc]at e;have q':oc=p.2:=IS e;exact d w' (by rw[<-q'];exact hocd)
def Q1 {M:Model}{A:Oj}{E:Oe->Og->Prop}{i:Nat}{x:Str}{v:V}{u:Oe}{Q:Unit->Og->Prop}(I:Inv X OM σ H s)(hN:X.N.Nodup)(hi:X.N[i]? = some x)(hx:Loc X.env.scope x)(r:u0 v u)
  (h:∀s',Inv X OM (σ.set i<|some v) H s'->Q () s') (hf:X.fn x=true\/X.env.scope.names.lookup x=some .local:=by walk_at "v"):Oz M A (storeName X.env x u) Q E s :=
 pJ I hN hi hx r (λs' I' _=>h s' I') hf
def Inv.call' {s':Og}{ch:List Of}(I:Inv X OM σ H s)(ho:s'.os=s.os)(u:Un (frs X.stack) ch H H' s.heap s'.heap)(hok:HOk X.prog X.w H' s'.heap)(hg:AllBare s'.gens)
  (hch:∀b∈ch,(b∈X.ex\/X.s₀.heap.objs.size<=b)/\b≠X.env.locals/\(∀x c,X.env.cells.lookup x=some c->c≠b)/\∀p∈X.pn++OM,p.1≠b):Inv X OM σ H' s':=by obtain⟨h',g',d',t',o'⟩:=s';have e:o'=s.os:=ho;subst e;exact I.call (g':=g') (t':=t') (d':=d') u hok hg hch
end
abbrev XK :=Oe->Option Of->Hp->Prop
abbrev St :=List<|Option V
abbrev VK :=V->Hp->Prop
abbrev TE :=St->Hp->VK->Prop
abbrev TT :=St->Hp->(Bool->Hp->Prop)->Prop
abbrev TA :=St->Hp->(List V->Hp->Prop)->Prop
structure Ends where
 nx:St->Hp->Prop
 rt:VK
 bk:St->Hp->Prop:=λ_ _=>False
 ct:St->Hp->Prop:=λ_ _=>False
abbrev TS :=Ends->St->Hp->Prop
def EP (X:Cx)(OM:List (Of×Ou))(σ:St)(Q:VK)(u:Oe)(s':Og):Prop:=∃v H',Inv X OM σ H' s'/\u0 v u/\Q v H'
def TP (X:Cx)(OM:List (Of×Ou))(σ:St)(Q:Bool->Hp->Prop)(b:Bool)(s':Og):Prop:=∃H',Inv X OM σ H' s'/\Q b H'
def AP (X:Cx)(OM:List (Of×Ou))(σ:St)(Q:List V->Hp->Prop)(us:List Oe)(s':Og):Prop:=∃vs H',Inv X OM σ H' s'/\n5 vs us/\Q vs H'
def SP (X:Cx)(OM:List (Of×Ou))(D:Ends)(f:Flow)(s':Og):Prop :=
 match f with
 | .next=>∃O' H',Inv X OM O' H' s'/\D.nx O' H'
 | .brk=>∃O' H',Inv X OM O' H' s'/\D.bk O' H'
 | .cont=>∃O' H',Inv X OM O' H' s'/\D.ct O' H'
 | .ret u=>∃v O' H',Inv X OM O' H' s'/\u0 v u/\D.rt v H'
def PE (X:Cx)(e:Oo)(t:TE):Prop :=
 ∀(OM:List (Of×Ou)) (s:Og) (σ:St) (H:Hp) (Q:VK),Inv X OM σ H s->t σ H Q->Oz (model X.prog X.w) X.A (eval e X.env) (EP X OM σ Q) X.xe s
def PT (X:Cx)(e:Oo)(t:TT):Prop :=
 ∀(OM:List (Of×Ou)) (s:Og) (σ:St) (H:Hp) (Q:Bool->Hp->Prop),Inv X OM σ H s->t σ H Q->Oz (model X.prog X.w) X.A (isTrue e X.env<|eval e X.env) (TP X OM σ Q) X.xe s
def PW (X:Cx)(e:Oo)(t:TT):Prop :=
 ∀(whole:Sem Oe) (OM:List (Of×Ou)) (s:Og) (σ:St) (H:Hp) (Q:Bool->Hp->Prop),Inv X OM σ H s->t σ H Q->Oz (model X.prog X.w) X.A (isTrue e X.env whole) (TP X OM σ Q) X.xe s
def PW.pt {X:Cx}{e:Oo}{t:TT}(h:PW X e t):PT X e t:=h _
def PA (X:Cx)(es:List Oo)(t:TA):Prop :=
 ∀(pos:Pos) (OM:List (Of×Ou)) (s:Og) (σ:St) (H:Hp) (Q:List V->Hp->Prop),Inv X OM σ H s->t σ H Q->Oz (model X.prog X.w) X.A (spliced<|Ox pos<|Ot es X.env) (AP X OM σ Q) X.xe s
def PS (X:Cx)(st:On)(t:TS):Prop :=
 ∀(OM:List (Of×Ou)) (s:Og) (σ:St) (H:Hp) (D:Ends),Inv X OM σ H s->t D σ H->Oz (model X.prog X.w) X.A (exec st X.env) (SP X OM D) X.xe s
def PSs (X:Cx)(st:List On)(t:TS):Prop :=
 ∀(OM:List (Of×Ou)) (s:Og) (σ:St) (H:Hp) (D:Ends),Inv X OM σ H s->t D σ H->Oz (model X.prog X.w) X.A (execs st X.env) (SP X OM D) X.xe s
def thn {α:Type}{t:Sem α}{Q Q':α->Og->Prop}{M:Model}{A:Oj}{E:Oe->Og->Prop}{s:Og}(h:Oz M A t Q E s)(hQ:∀a s,Q a s->Q' a s):Oz M A t Q' E s:=Jh h hQ λ_ _ x=>x
end
variable {pos:Pos}{ta:TE}
section
section
variable {X:Cx}
def Q8 (i:Nat):TE:=λσ H Q=>∃v,σ[i]? = some (some v)/\Q v H
def tC (v:V):TE:=λ_ H Q=>Q v H
def G5 {i:Nat}{x:Str}(hN:X.N[i]? = some x)(hv:Vis X.env.scope x)(hd:(x == ("__debug__":Str))=false:=by decide)(hcd:(x == ("__classdict__":Str))=false:=by decide):PE X (.Name x pos) (Q8 i):=by
 intro OM s σ H Q I h;obtain⟨v,e,h⟩:=h;obtain⟨m,hn,hl⟩:=I.loc;obtain⟨u,r,l⟩:=hl i x v hN e hv;have fin:EP X OM σ Q u s:=⟨v,H,I,r,h⟩;rcases l with ⟨hk,hm⟩ | ⟨hk,c,hc,hcell⟩
 .exact wpAny_Name (LQ I.ok.kind hk hn hm fin) hd
 .rcases hk with hk | hk
  .exact wpAny_Name (wpAny_loadName_cell I.ok.kind hk hc hcell fin) hd
  .exact wpAny_Name (wpAny_loadName_free I.ok.kind hk hc hcell fin hcd) hd
def p0 {i j pos}:PE X (.Constant (.int i) j pos) (tC<|.int i):=λ_ _ _ H _ I h=>wpAny_Constant_int ⟨.int i,H,I.tok _,⟨_,rfl⟩,h⟩
def BY {b j pos}:PE X (.Constant (.bool b) j pos) (tC<|.bl b):=λ_ _ _ H _ I h=>Constant_bool ⟨.bl b,H,I,rfl,h⟩
def zQ {j pos}:PE X (.Constant .none j pos) (tC .non):=λ_ _ _ H _ I h=>Constant_none ⟨.non,H,I,rfl,h⟩
def mD {x j pos}:PE X (.Constant (.str x) j pos) (tC<|.str x):=λ_ _ _ H _ I h=>Calls.Constant_str ⟨.str x,H,I.tok _,⟨_,rfl⟩,h⟩
def Gl (X:Cx)(x:Str):Prop:=X.env.kindOf x=some .globalImplicit
def bo {E:Oe->Og->Prop}{s:Og}{σ:St}{H:Hp}{x:Str}{u:Oe}{Q:Oe->Og->Prop}(I:Inv X OM σ H s)(hg:Gl X x)(hm:X.mg x=some u)(h:Q u s)
  (hd:(x == ("__debug__":Str))=false:=by decide):Oz (model X.prog X.w) X.A (eval (.Name x pos) X.env) Q E s :=
 Calls.Name_function_global I.ok.kind hg (Calls.loadGlobal_global (by rw[I.ok.glob];exact I.mod.glob.keeps I.bk) hm h) hd
def aT {E:Oe->Og->Prop}{s:Og}{σ:St}{H:Hp}{x:Str}{u:Oe}{Q:Oe->Og->Prop}(I:Inv X OM σ H s)(hg:Gl X x)(hm:X.mg x=none)(hv:OD x=some u)(h:Q u s)
  (hn:x ≠ "__name__":=by decide) (hd:(x == ("__debug__":Str))=false:=by decide):Oz (model X.prog X.w) X.A (eval (.Name x pos) X.env) Q E s:=by obtain⟨mb,h1,h2⟩:=I.mod.blt;exact Calls.Name_function_global I.ok.kind hg (Calls.loadGlobal_builtin (by rw[I.ok.glob];exact I.mod.glob.keeps I.bk) hm (by rw[I.ok.blt];exact h1.keeps I.bk) ((h2 x hn).trans hv) h) hd
def iT {x:Str}{v:V}{u:Oe}(hg:Gl X x)(hm:X.mg x=some u)(r:u0 v u)(hd:(x == ("__debug__":Str))=false:=by decide):PE X (.Name x pos) (tC v) :=
 λ_ _ _ H _ I h=>bo I hg hm ⟨v,H,I,r,h⟩ hd
def nV {x:Str}{v:V}{u:Oe}(hg:Gl X x)(hm:X.mg x=none)(hv:OD x=some u)(r:u0 v u)(hn:x ≠ "__name__":=by decide)(hd:(x == ("__debug__":Str))=false:=by decide):PE X (.Name x pos) (tC v) :=
 λ_ _ _ H _ I h=>aT I hg hm hv ⟨v,H,I,r,h⟩ hn hd
variable {a b:Oo}{tb:TE}
def tB (t:TE):TT:=λσ H Q=>t σ H λx H1=>∃c,x = .bl c/\Q c H1
def mI {e:Oo}{t:TE}(h:PE X e t)(he:∀whole,isTrue e X.env whole=(do let v <-whole;standAt e.pos;holding [v] (truthy v)):=by intro _;rfl):PT X e (tB t):=by intro OM s σ H Q I hw;refine isTrue_plain (thn (h OM s σ H _ I hw) λv s1 ⟨x,H1,I1,r1,q1⟩=>?_)<|he _;obtain⟨d,rfl,q⟩:=q1;cases r1;exact Kg ⟨H1,I1,q⟩
variable {tA tB':TT}{rest:List Oo}
def yS (t u:TT):TT:=λσ H Q=>t σ H λc H1=>if c=true then u σ H1 Q else Q false H1
def tOr (t u:TT):TT:=λσ H Q=>t σ H λc H1=>if c=true then Q true H1 else u σ H1 Q
def AA (t:TT):TT:=λσ H Q=>t σ H λc H1=>Q (!c) H1
def og (ha:PT X a tA):PW X (.BoolOp .And [a] pos) tA:=by
 intro wh OM s σ H Q I h;refine isTrue_and (thn (ha OM s σ H Q I h) λc s1 e=>?_);cases c with
 | true=>exact isTrue_and_nil e
 | false=>exact e
def Aj (ha:PT X a tA):PW X (.BoolOp .Or [a] pos) tA:=by
 intro wh OM s σ H Q I h;refine isTrue_or (thn (ha OM s σ H Q I h) λc s1 e=>?_);cases c with
 | false=>exact isTrue_or_nil e
 | true=>exact e
def mv (ha:PT X a tA)(hb:PW X (.BoolOp .And (b::rest) pos) tB'):PW X (.BoolOp .And (a::b::rest) pos) (yS tA tB'):=by
 intro wh OM s σ H Q I h;refine isTrue_and (thn (ha OM s σ H _ I h) λc s1 ⟨H1,I1,q1⟩=>?_);cases c with
 | true=>exact hb wh OM s1 σ H1 Q I1 q1
 | false=>exact⟨H1,I1,q1⟩
def Cj (ha:PT X a tA)(hb:PW X (.BoolOp .Or (b::rest) pos) tB'):PW X (.BoolOp .Or (a::b::rest) pos) (tOr tA tB'):=by
 intro wh OM s σ H Q I h;refine isTrue_or (thn (ha OM s σ H _ I h) λc s1 ⟨H1,I1,q1⟩=>?_);cases c with
 | true=>exact⟨H1,I1,q1⟩
 | false=>exact hb wh OM s1 σ H1 Q I1 q1
def tT (ha:PT X a tA):PT X (.UnaryOp .Not a pos) (AA tA):=by intro OM s σ H Q I h;exact isTrue_not (ha OM s σ H (λc H1=>Q (!c) H1) I h)
def yf (ta tb:TE):TE:=λσ H Q=>ta σ H λx H1=>∃c,x = .bl c/\if c=true then tb σ H1 Q else Q (.bl false) H1
def xS (ta:TE):TE:=λσ H Q=>ta σ H λx H1=>∃c,x = .bl c/\Q (.bl (!c)) H1
def Ae {op}{t:TE}(h:PE X a t):PE X (.BoolOp op [a] pos) t:=λOM s σ H Q I hw=>BoolOp_one<|h OM s σ H Q I hw
def yJ (ha:PE X a ta)(hb:PE X (.BoolOp .And (b::rest) pos) tb):PE X (.BoolOp .And (a::b::rest) pos) (yf ta tb):=by
 intro OM s σ H Q I h;refine BoolOp_and (thn (ha OM s σ H _ I h) λv s1 ⟨x,H1,I1,r1,q1⟩=>?_);obtain⟨c,rfl,q1⟩:=q1;cases r1;refine Kg ?_;cases c with
 | true=>exact hb OM s1 σ H1 Q I1 q1
 | false=>exact⟨.bl false,H1,I1,rfl,q1⟩
def Ak (ha:PE X a ta):PE X (.UnaryOp .Not a pos) (xS ta):=by intro OM s σ H Q I h;refine UnaryOp_ (thn (ha OM s σ H _ I h) λv s1 ⟨x,H1,I1,r1,q1⟩=>?_);obtain⟨c,rfl,q1⟩:=q1;cases r1;exact not_of<|Kg ⟨.bl (!c),H1,I1,rfl,q1⟩
def tIf (t:TT)(ta tb:TE):TE:=λσ H Q=>t σ H λc H1=>if c=true then ta σ H1 Q else tb σ H1 Q
def kf {c:Oo}(hc:PT X c tA)(ha:PE X a ta)(hb:PE X b tb):PE X (.IfExp c a b pos) (tIf tA ta tb):=by
 intro OM s σ H Q I h;refine wpAny_IfExp (thn (hc OM s σ H _ I h) λd s1 ⟨H1,I1,q1⟩=>?_);cases d with
 | true=>exact ha OM s1 σ H1 Q I1 q1
 | false=>exact hb OM s1 σ H1 Q I1 q1
end
end
variable {te:TE}{es:List Oo}{tg:Oo}{body:List On}
section
def SqL (K:Fg)(H:Hp)(a:Of)(xs:List V):Prop :=
 Rd H a (.lst xs) \/
  ∃(o:Ou) (its:Array Oe) (n:Nat),K.lookup a=some o/\o.cls = .type "list" /\ o.dict=none/\o.data = .seq its n/\its.size<=Os/\n5 xs its.toList
def SqT (K:Fg)(H:Hp)(a:Of)(xs:List V):Prop :=
 Rd H a (.tup xs) \/
  ∃(o:Ou) (its:Array Oe) (n:Nat),K.lookup a=some o/\o.cls = .type "tuple" /\ o.data = .seq its n/\its.size<=Os/\n5 xs its.toList
def CK:Oe->Option V
 | .none=>some .non
 | .bool b=>some<|.bl b
 | .int i _=>some<|.int i
 | .str x _=>some<|.str x
 | .bytes b _=>some<|.byt b
 | .float b _=>some<|.flt b
 | .ref a=>some<|.ref a
 | .type n=>some<|.ty n
 | _=>none
def u0.abs {x:V}{u:Oe}(r:u0 x u):CK u=some x:=by
 cases x with
 | non=>cases r;rfl
 | bl _=>cases r;rfl
 | int _=>obtain⟨t,rfl⟩:=r;rfl
 | str _=>obtain⟨t,rfl⟩:=r;rfl
 | byt _=>obtain⟨t,rfl⟩:=r;rfl
 | flt _=>obtain⟨t,rfl⟩:=r;rfl
 | ref _=>cases r;rfl
 | ty _=>cases r;rfl
def u0.inj {x y:V}{u:Oe}(r:u0 x u)(q:u0 y u):x=y:=IS<|r.abs.symm.trans q.abs
theorem n5.inj:∀{xs ys:List V} {us:List Oe},n5 xs us->n5 ys us->xs=ys
 | _,_,_,.nil,.nil=>rfl
 | _,_,_,.cons r t,.cons r' t'=>by rw[r.inj r',n5.inj t t']
section
variable {X:Cx}{σ:St}{H:Hp}{s:Og}{a:Of}{xs ys:List V}
def SqL.of {K:Fg}(h:H a=some (.lst xs)):SqL K H a xs:=.inl<|.inl h
def SqT.of {K:Fg}(h:H a=some (.tup xs)):SqT K H a xs:=.inl<|.inl h
def Inv.list (I:Inv X OM σ H s)(h:SqL X.K H a xs):∃its:List Oe,n5 xs its/\PlainL s.heap a its.toArray/\xs.length<=Os:=by
 rcases h with h | ⟨o,its,n,hk,hc,hd,hs,hz,r⟩
 .obtain⟨z,its,n,r,e⟩:=h.ok I.hok;exact⟨its,r,⟨_,n,e,rfl,rfl,rfl⟩,z⟩
 .refine⟨its.toList,r,⟨o,n,I.kIn a o hk,hc,hd,by simpa using hs⟩,?_⟩;have e:=r.length;simp only[JM]at e;omega
def Inv.tuple (I:Inv X OM σ H s)(h:SqT X.K H a xs):∃its:List Oe,n5 xs its/\IsTup s.heap a its.toArray/\xs.length<=Os:=by
 rcases h with h | ⟨o,its,n,hk,hc,hs,hz,r⟩
 .obtain⟨z,its,r,p⟩:=h.ok I.hok;exact⟨its,r,p,z⟩
 .refine⟨its.toList,r,⟨o,I.kIn a o hk,hc,n,by simpa using hs⟩,?_⟩;have e:=r.length;simp only[JM]at e;omega
def Inv.list_inj (I:Inv X OM σ H s)(h:SqL X.K H a xs)(h':SqL X.K H a ys):xs=ys:=by
 obtain⟨its,r,⟨o,n,e,_,_,d⟩,_⟩:=I.list h;obtain⟨its',r',⟨o',n',e',_,_,d'⟩,_⟩:=I.list h';rw[e]at e';cases e';rw[d]at d';injection d' with d1 _
 have:its=its':=by simpa using JX Array.toList d1
 subst this;exact r.inj r'
def Inv.tuple_inj (I:Inv X OM σ H s)(h:SqT X.K H a xs)(h':SqT X.K H a ys):xs=ys:=by
 obtain⟨its,r,⟨o,e,_,n,d⟩,_⟩:=I.tuple h;obtain⟨its',r',⟨o',e',_,n',d'⟩,_⟩:=I.tuple h';rw[e]at e';cases e';rw[d]at d';injection d' with d1 _
 have:its=its':=by simpa using JX Array.toList d1
 subst this;exact r.inj r'
end
abbrev Cx.wish (X:Cx)(E:Oe->Og->Prop):Cx:={ X with xe:=E }
abbrev Cx.nox (X:Cx):Cx:=X.wish λ_ _=>False
def Cx.Ok.wish {X:Cx}(ok:X.Ok)(E:Oe->Og->Prop):(X.wish E).Ok :=
 ⟨ok.mod,ok.kind,ok.glob,ok.blt,ok.above,ok.inj,ok.has,ok.cab,ok.hd,ok.frames,ok.stk,ok.exf,ok.bs,ok.bsz,ok.noex,ok.exfs,ok.funs,ok.frf⟩
def Cx.Ok.unwish {X:Cx}{E:Oe->Og->Prop}(ok:(X.wish E).Ok):X.Ok :=
 ⟨ok.mod,ok.kind,ok.glob,ok.blt,ok.above,ok.inj,ok.has,ok.cab,ok.hd,ok.frames,ok.stk,ok.exf,ok.bs,ok.bsz,ok.noex,ok.exfs,ok.funs,ok.frf⟩
section
variable {X:Cx}{σ:St}{H:Hp}{s:Og}{E:Oe->Og->Prop}
def Inv.wish (I:Inv X OM σ H s)(E:Oe->Og->Prop):Inv (X.wish E) OM σ H s:=⟨I.ok.wish E,I.os,I.bare,I.base,I.loc,I.cell,I.free,I.freeC,I.pin,I.hok,I.len⟩
def Inv.unwish (I:Inv (X.wish E) OM σ H s):Inv X OM σ H s:=⟨I.ok.unwish,I.os,I.bare,I.base,I.loc,I.cell,I.free,I.freeC,I.pin,I.hok,I.len⟩
def SP.unwish {D:Ends}{f:Flow}{s':Og}(h:SP (X.wish E) OM D f s'):SP X OM D f s':=by
 cases f with
 | next=>obtain⟨O',H',I,q⟩:=h;exact⟨O',H',I.unwish,q⟩
 | brk=>obtain⟨O',H',I,q⟩:=h;exact⟨O',H',I.unwish,q⟩
 | cont=>obtain⟨O',H',I,q⟩:=h;exact⟨O',H',I.unwish,q⟩
 | ret u=>obtain⟨v,O',H',I,r,q⟩:=h;exact⟨v,O',H',I.unwish,r,q⟩
def PT.nox {e:Oo}{t:TT}(h:PT X.nox e t):PT X e t:=λOM s σ H Q I hw =>
 Jh (h OM s σ H Q (I.wish _) hw) (λ_ _ ⟨H',I',q⟩=>⟨H',I'.unwish,q⟩) λ_ _ z=>False.elim z
def PSs.nox {st:List On}{t:TS}(h:PSs X.nox st t):PSs X st t:=λOM s σ H D I hw =>
 Jh (h OM s σ H D (I.wish _) hw) (λ_ _ q=>q.unwish) λ_ _ z=>False.elim z
end
section
variable {X:Cx}{st:On}{rest:List On}{t u:TS}{e:Oo}
def sG :TS:=λD σ H=>D.nx σ H
def tZ (t u:TS):TS:=λD σ H=>t { D with nx:=u D } σ H
def dB :PSs X [] sG:=λ_ _ σ H _ I h=>Li ⟨σ,H,I,h⟩
def B1 (h1:PS X st t)(h2:PSs X rest u):PSs X (st::rest) (tZ t u):=by
 intro OM s σ H D I h;refine MT (thn (h1 OM s σ H { D with nx:=u D } I h) λf s1 q=>?_);cases f with
 | next =>obtain⟨O',H',I',q⟩:=q;exact h2 OM s1 O' H' D I' q
 | ret v=>exact q
 | brk=>exact q
 | cont=>exact q
def O6 (h1:PS X st t):PSs X [st] t:=by
 intro OM s σ H D I h;refine MT (thn (h1 OM s σ H D I h) λf s1 q=>?_);cases f with
 | next=>exact Li q
 | ret v=>exact q
 | brk=>exact q
 | cont=>exact q
def Inv.quiet {σ:St}{H:Hp}{s:Og}(I:Inv X OM σ H s):interactive X.env=false:=by simp[interactive,I.ok.kind]
def jL (te:TE):TS:=λD σ H=>te σ H λ_ H1=>D.nx σ H1
def oE (he:PE X e te)(hs:OB e none pos.line X.env=pure false:=by rfl):PS X (.Expr e pos) (jL te):=by intro OM s σ H D I h;exact wpAny_Expr_any (thn (he OM s σ H _ I h) λv s1 ⟨x,H1,I1,r1,q1⟩=>⟨σ,H1,I1,q1⟩) I.quiet hs
def Aq (te:TE):TS:=λD σ H=>te σ H D.rt
def cq (he:PE X e te):PS X (.Return (some e) pos) (Aq te):=by intro OM s σ H D I h;exact wpAny_Return_some (thn (he OM s σ H _ I h) λv s1 ⟨x,H1,I1,r1,q1⟩=>⟨x,σ,H1,I1,r1,q1⟩)
def uW (c:TT)(t u:TS):TS:=λD σ H=>c σ H λb H1=>if b=true then t D σ H1 else u D σ H1
def jQ {c:Oo}{a b:List On}{tc:TT}(hc:PT X c tc)(ha:PSs X a t)(hb:PSs X b u):PS X (.If c a b pos) (uW tc t u):=by
 intro OM s σ H D I h;refine wpAny_If (thn (hc OM s σ H _ I h) λd s1 ⟨H1,I1,q1⟩=>?_);cases d with
 | true=>exact ha OM s1 σ H1 D I1 q1
 | false=>exact hb OM s1 σ H1 D I1 q1
end
abbrev TG :=V->St->Hp->(St->Hp->Prop)->Prop
abbrev TGs :=List V->St->Hp->(St->Hp->Prop)->Prop
def PG (X:Cx)(target:Oo)(t:TG):Prop :=
 ∀(OM:List (Of×Ou)) (s:Og) (σ:St) (H:Hp) (v:V) (u:Oe) (Q:St->Hp->Prop),Inv X OM σ H s->u0 v u->t v σ H Q ->
  Oz (model X.prog X.w) X.A (assign target X.env u) (λ_ s'=>∃O' H',Inv X OM O' H' s'/\Q O' H') X.xe s
def PGs (X:Cx)(ts:List Oo)(t:TGs):Prop :=
 ∀(OM:List (Of×Ou)) (s:Og) (σ:St) (H:Hp) (vs:List V) (us:List Oe) (Q:St->Hp->Prop),Inv X OM σ H s->n5 vs us->t vs σ H Q ->
  Oz (model X.prog X.w) X.A (assignInOrder ((OF ts X.env).map (·.2)) us) (λ_ s'=>∃O' H',Inv X OM O' H' s'/\Q O' H') X.xe s
abbrev qH :=V->V->V->Hp->(Hp->Prop)->Prop
def zC (X:Cx)(t:qH):Prop :=
 ∀(OM:List (Of×Ou)) (s:Og) (σ:St) (H:Hp) (o i v:V) (ov iv u:Oe) (Q:Hp->Prop),Inv X OM σ H s->u0 o ov->u0 i iv->u0 v u->t o i v H Q ->
  Oz (model X.prog X.w) X.A (setItem ov iv u) (λ_ s'=>∃H',Inv X OM σ H' s'/\Q H') X.xe s
abbrev TIp :=V->V->Hp->VK->Prop
def PIp (X:Cx)(op:Operator)(t:TIp):Prop :=
 ∀(OM:List (Of×Ou)) (s:Og) (σ:St) (H:Hp) (x y:V) (v u:Oe) (Q:VK),Inv X OM σ H s->u0 x v->u0 y u->t x y H Q ->
  Oz (model X.prog X.w) X.A (inplaceOp op v u) (EP X OM σ Q) X.xe s
section
variable {X:Cx}
def Q5 (i:Nat):TG:=λv σ H Q=>Q (σ.set i<|some v) H
def uV {i:Nat}{x:Str}(hN:X.N.Nodup)(hi:X.N[i]? = some x)(hx:Loc X.env.scope x)(hf:X.fn x=true\/X.env.scope.names.lookup x=some .local:=by walk_at "v"):PG X (.Name x pos) (Q5 i):=by intro OM s σ H v u Q I r h;exact wpAny_assign_Name (Q1 I hN hi hx r (λs' I'=>⟨_,H,I',h⟩) hf)
def Ck :TGs:=λvs σ H Q=>vs=[]/\Q σ H
def ye (t:TG)(u:TGs):TGs:=λvs σ H Q=>∃v r,vs=v::r/\t v σ H λO' H'=>u r O' H' Q
def vP :PGs X [] Ck:=by intro OM s σ H vs us Q I r h;obtain⟨e,h⟩:=h;subst e;cases r;exact assignInOrder_nil ⟨σ,H,I,h⟩
def rW {e:Oo}{t:TG}{u:TGs}(h1:PG X e t)(h2:PGs X es u)
  (hs:(OF (e::es) X.env).map (·.2)=assign e X.env::(OF es X.env).map (·.2):=by rfl):PGs X (e::es) (ye t u):=by
 intro OM s σ H vs us Q I r h;obtain⟨v,vr,e1,h⟩:=h;subst e1;cases r with
 | cons r rr =>rw[hs];refine assignInOrder_cons (thn (h1 OM s σ H _ _ _ I r h) λ_ s1 ⟨σ1,H1,I1,q1⟩=>?_);exact h2 OM s1 σ1 H1 _ _ Q I1 rr q1
def yP (K:Fg)(n:Nat)(t:TGs):TG:=λv σ H Q=>∃a xs,v = .ref a/\SqT K H a xs/\xs.length=n/\t xs σ H Q
def zG {k:Nat}{t:TGs}{n:Nat}(hc:X.calm=true)(h:PGs X es t)
  (hn:(OF es X.env).length=n:=by rfl) (hst:(OF es X.env).findIdx? (·.1)=none:=by rfl):PG X (.Tuple es k pos) (yP X.K n t):=by
 intro OM s σ H v u Q I r hw;obtain⟨a,xs,e1,hq,hl,hw⟩:=hw;subst e1;cases r;obtain⟨its,rv,ht,hz⟩:=I.tuple hq;refine assign_Tuple_tuple (I.ok.hd hc) ht (by simp[hn,<-hl,rv.length]) hst λh' hx=>?_
 have I1:Inv X OM σ H { s with heap:=h' }:=I.kept (t':=s.toks) λb o e=>hx b o (IX<|IF e) e
 exact h OM _ σ H xs _ Q I1 (by simpa using rv) hw
def CM (to ti:TE)(t:qH):TG:=λv σ H Q=>to σ H λo H1=>ti σ H1 λi H2=>t o i v H2 λH3=>Q σ H3
def mP {o i:Oo}{to ti:TE}{t:qH}(ho:PE X o to)(hi:PE X i ti)(hs:zC X t)
  (ha:∀v,assign (.Subscript o i pos) X.env v=(do
   let ov <-holding [v] (eval o X.env)
   let iv <-holding [v,ov] (eval i X.env)
   standAt pos
   holding [v,ov,iv] (setItem ov iv v)
   release [v,ov,iv] []):=by intro _;rfl):PG X (.Subscript o i pos) (CM to ti t):=by intro OM s σ H v u Q I r h;rw[ha];refine Iw (JL<|thn (ho OM s σ H _ I h) λov s1 ⟨x,H1,I1,r1,q1⟩=>?_);refine Iw (JL<|thn (hi OM s1 σ H1 _ I1 q1) λiv s2 ⟨y,H2,I2,r2,q2⟩=>?_);refine Iw (KG<|Iw<|JL<|thn (hs OM s2 σ H2 x y v ov iv u _ I2 r1 r2 r q2) λ_ s3 ⟨H3,I3,q3⟩=>?_);exact wpAny_release ⟨σ,H3,I3,q3⟩
def aU (te:TE)(g:TG):TS:=λD σ H=>te σ H λx H1=>g x σ H1 D.nx
def iK {e:Oo}{g:TG}(he:PE X e te)(hg:PG X tg g)(hs:swapsWithSole [tg] e pos.line X.env=pure false:=by rfl)(hw:swappedStores [tg] e X.env=pure none:=by rfl)
  (h1:(OF [tg] X.env).map (·.2)=[assign tg X.env]:=by rfl):PS X (.Assign [tg] e pos) (aU te g):=by intro OM s σ H D I h;refine wpAny_Assign_stores (thn (he OM s σ H _ I h) λv s1 ⟨x,H1,I1,r1,q1⟩=>?_) hs hw;rw[h1];exact thn (hg OM s1 σ H1 x v _ I1 r1 q1) λ_ s2 q=>q
def N9 {i:Nat}{x:Str}{e:Oo}{pos':Pos}(hN:X.N.Nodup)(hi:X.N[i]? = some x)(hx:Loc X.env.scope x)(he:PE X e te)(hs:OB e (some<|.Name x pos') pos.line X.env=pure false:=by rfl)(hf:X.fn x=true\/X.env.scope.names.lookup x=some .local:=by walk_at "v") :
  PS X (.Assign [.Name x pos'] e pos) (aU te<|Q5 i):=by intro OM s σ H D I h;refine wpAny_Assign_Name (thn (he OM s σ H _ I h) λv s1 ⟨y,H1,I1,r1,q1⟩=>?_) hs;exact Q1 I1 hN hi hx r1 (λs2 I2=>⟨_,H1,I2,q1⟩) hf
def Aa (i j:Nat)(ta:TA):TS:=λD σ H=>ta σ H λvs H1=>∃v w,vs=[v,w]/\D.nx ((σ.set i<|some v).set j<|some w) H1
def qN {i j:Nat}{x y:Str}{a b:Oo}{ta:TA}{px py pt:Pos}{kt k2 pt2}(hc:X.calm=true)(hN:X.N.Nodup)(hi:X.N[i]? = some x)(hj:X.N[j]? = some y)(hij:i≠j)
  (hx:X.env.scope.names.lookup x=some .local) (hy:X.env.scope.names.lookup y=some .local) (ha:PA X [a,b] ta)
  (hw:swappedStores [.Tuple [.Name x px,.Name y py] kt pt] (.Tuple [a,b] k2 pt2) X.env=pure (some [x,y]))
  (hs:swapsWithSole [.Tuple [.Name x px,.Name y py] kt pt] (.Tuple [a,b] k2 pt2) pos.line X.env=pure false:=by rfl) :
  PS X (.Assign [.Tuple [.Name x px,.Name y py] kt pt] (.Tuple [a,b] k2 pt2) pos) (Aa i j ta):=by
 intro OM s σ H D I h;rw[exec_Assign_arm];refine Iw<|KG ?_;rw[hs];refine Iw<|Iy ?_;rw[II<|by decide];refine Iw (Tuple_<|thn (ha _ OM s σ H _ I h) λus s1 ⟨vs,H1,I1,r1,q1⟩=>?_);obtain⟨v,w,e1,q1⟩:=q1;subst e1;obtain⟨u1,u2,rfl,rv,rw'⟩:∃u1 u2,us=[u1,u2]/\u0 v u1/\u0 w u2:=by
  cases r1 with
  | cons p q =>
   cases q with
   | cons p' q' =>cases q';exact⟨_,_,rfl,p,p'⟩
 refine JP ?_ (by show 2<=Os;decide);have I2:Inv X OM σ H1 { s1 with heap:=s1.heap.push { cls:=.type "tuple",data:=.seq [u1,u2].toArray } }:=I1.kept (t':=s1.toks) λb o e=>ID _ e
 rw[hw];refine Iw<|Iy ?_;show Oz (model X.prog X.w) X.A (do rule "assign.swapped-stores";let items <-unpackItems (.ref s1.heap.objs.size) 2 none;assignInOrder [λv=>bindName X.env y v,λv=>bindName X.env x v] items.reverse;pure Flow.next) _ _ _;refine Iw (KN<|Iw<|unpackItems_tuple (items:=#[u1,u2]) (I.ok.hd hc) (IsTup.new s1.heap _) λh' hx'=>?_);have I3:=I2.kept (h':=h') (t':=s1.toks) λb o e=>hx' b o (IX<|IF e) e
 show Oz _ _ (assignInOrder [λv=>bindName X.env y v,λv=>bindName X.env x v] [u2,u1] >>= λ_=>pure Flow.next) _ _ _;refine Iw (assignInOrder_cons<|wpAny_bindName<|Q1 I3 hN hj (.inl hy) rw' (λs2 I4=>?_)<|.inr hy);refine assignInOrder_cons (wpAny_bindName<|Q1 I4 hN hi (.inl hx) rv (λs3 I5=>assignInOrder_nil<|Iy ?_)<|.inr hx);rw[List.set_comm _ _<|JC hij]at I5;exact⟨_,H1,I5,q1⟩
def zm (i:Nat)(te:TE)(ti:TIp):TS:=λD σ H=>∃x,σ[i]? = some (some x)/\te σ H λy H1=>ti x y H1 λz H2=>D.nx (σ.set i<|some z) H2
def Am {i:Nat}{x:Str}{e:Oo}{op:Operator}{ti:TIp}{pos':Pos}(hN:X.N.Nodup)(hi:X.N[i]? = some x)(hx:Loc X.env.scope x)(he:PE X e te)(ho:PIp X op ti)(hf:X.fn x=true\/X.env.scope.names.lookup x=some .local:=by walk_at "v") :
  PS X (.AugAssign (.Name x pos') op e pos) (zm i te ti):=by
 intro OM s σ H D I h;obtain⟨v,e1,h⟩:=h;obtain⟨m,hn,hl⟩:=I.loc;have vis:Vis X.env.scope x:=by rcases hx with k | k;exact .inl k;exact .inr<|.inl k
 obtain⟨u,r,l⟩:=hl i x v hi e1 vis;refine wpAny_AugAssign_Name ?_;have go:Oz (model X.prog X.w) X.A (eval e X.env) (λw s₂=>Oz (model X.prog X.w) X.A (inplaceOp op u w) (λr s₃=>Oz (model X.prog X.w) X.A (storeName X.env x r) (λ_=>SP X OM D .next) X.xe s₃) X.xe s₂) X.xe s:=by
  refine thn (he OM s σ H _ I h) λw s1 ⟨y,H1,I1,r1,q1⟩=>?_
  refine thn (ho OM s1 σ H1 v y u w _ I1 r r1 q1) λz s2 ⟨zv,H2,I2,r2,q2⟩=>?_
  exact Q1 I2 hN hi hx r2 (λs3 I3=>⟨_,H2,I3,q2⟩) hf
 rcases l with ⟨hk,hm⟩ | ⟨hk,c,hc,hcell⟩
 .exact LQ I.ok.kind hk hn hm go
 .rcases hk with hk | hk
  .exact wpAny_loadName_cell I.ok.kind hk hc hcell go
  .rcases hx with k | k
   .have:X.env.scope.names.lookup x=some .free:=hk;rw[k]at this;cases this
   .have:X.env.scope.names.lookup x=some .free:=hk;rw[k]at this;cases this
def ur (to ti te:TE)(tget:V->V->Hp->VK->Prop)(tip:TIp)(tset:qH):TS:=λD σ H=>to σ H λo H1=>ti σ H1 λi H2=>tget o i H2 λx H3=>te σ H3 λy H4=>tip x y H4 λz H5=>tset o i z H5 λH6=>D.nx σ H6
def Cd (X:Cx)(t:V->V->Hp->VK->Prop):Prop :=
 ∀(OM:List (Of×Ou)) (s:Og) (σ:St) (H:Hp) (o i:V) (ov iv:Oe) (Q:VK),Inv X OM σ H s->u0 o ov->u0 i iv->t o i H Q ->
  Oz (model X.prog X.w) X.A (getItem ov iv) (EP X OM σ Q) X.xe s
def wR {o i e:Oo}{to ti:TE}{tget:V->V->Hp->VK->Prop}{tip:TIp}{tset:qH}{op:Operator}{tpos:Pos}(ho:PE X o to)(hi:PE X i ti)(hg:Cd X tget)(he:PE X e te)(hp:PIp X op tip)(hs:zC X tset)
  (ha:∀ov iv new,augStore i ov iv new=(do holding [new,ov,iv] (setItem ov iv new);release [new,ov,iv] [];pure .next):=by intros;rfl):PS X (.AugAssign (.Subscript o i tpos) op e pos) (ur to ti te tget tip tset):=by
 intro OM s σ H D I h;refine wpAny_AugAssign_SubscriptAny (thn (ho OM s σ H _ I h) λov s1 ⟨x1,H1,I1,r1,q1⟩=>?_) ha;refine thn (hi OM s1 σ H1 _ I1 q1) λiv s2 ⟨x2,H2,I2,r2,q2⟩=>?_
 refine thn (hg OM s2 σ H2 x1 x2 ov iv _ I2 r1 r2 q2) λold s3 ⟨x3,H3,I3,r3,q3⟩=>?_
 refine thn (he OM s3 σ H3 _ I3 q3) λv s4 ⟨x4,H4,I4,r4,q4⟩=>?_
 refine thn (hp OM s4 σ H4 x3 x4 old v _ I4 r3 r4 q4) λnew s5 ⟨x5,H5,I5,r5,q5⟩=>?_
 exact thn (hs OM s5 σ H5 x1 x2 x5 ov iv new _ I5 r1 r2 r5 q5) λ_ s6 ⟨H6,I6,q6⟩=>⟨σ,H6,I6,q6⟩
def ipI (f:Int->Int->Int):TIp:=λx y H Q=>∃i j,x = .int i/\y = .int j/\Q (.int<|f i j) H
def Ar :PIp X .Add (ipI λi j=>i+j):=by intro OM s σ H x y v u Q I r1 r2 h;obtain⟨i,j,e1,e2,q⟩:=h;subst e1;subst e2;obtain⟨t,rfl⟩:=r1;obtain⟨t',rfl⟩:=r2;exact iadd_int ⟨.int _,H,I.tok _,⟨_,rfl⟩,q⟩
end
section
variable {X:Cx}
def mR (c:TT)(tb:TS):TS:=λD σ H=>∃W:Nat->St->Hp->Prop,(∃m,W m σ H)/\∀m σ H,W m σ H ->
 c σ H λb H1=>if b=true then ∃N:St->Hp->Prop,(∀O' H',N O' H'->∃m',m'<m/\W m' O' H')/\tb { D with nx:=N,ct:=N,bk:=D.nx } σ H1 else D.nx σ H1
def rD {c:Oo}{tc:TT}{tb:TS}(hp:PassesOwn (model X.prog X.w) X.A X.env X.xe)(hc:PT X c tc)(hb:PSs X body tb):PS X (.While c body [] pos) (mR tc tb):=by
 intro OM s σ H D I h;obtain⟨W,⟨m0,w0⟩,turn⟩:=h;refine wpAny_While (codeAny_whileLoop (λn s'=>∃O' H',Inv X OM O' H' s'/\W n O' H') ?_ m0 ⟨σ,H,I,w0⟩);rintro n s1 ⟨σ1,H1,I1,w1⟩;refine Lj hp (thn (hc OM s1 σ1 H1 _ I1<|turn n σ1 H1 w1) λb s2 ⟨H2,I2,q2⟩=>?_);cases b with
 | true =>
  obtain⟨N,hN,q2⟩:=q2;rw[IE rfl];refine Lj hp (thn (hb OM s2 σ1 H2 _ I2 q2) λf s3 q3=>?_);cases f with
  | next =>obtain⟨σ3,H3,I3,n3⟩:=q3;obtain⟨m',hm,w3⟩:=hN σ3 H3 n3;exact⟨m',hm,σ3,H3,I3,w3⟩
  | cont =>obtain⟨σ3,H3,I3,n3⟩:=q3;obtain⟨m',hm,w3⟩:=hN σ3 H3 n3;exact⟨m',hm,σ3,H3,I3,w3⟩
  | brk=>exact q3
  | ret v=>exact q3
 | false =>rw[II IZ];exact Li ⟨σ1,H2,I2,q2⟩
end
structure It where
 go:Nat->Hp->Prop
 yld:Nat->Hp->V->Hp->Prop
 stop:Nat->Hp->Prop
def bq (X:Cx)(OM:List (Of×Ou))(H:Hp)(b:Of):Prop :=
 H b=none/\b≠X.env.locals/\b ∉ X.fs/\(b∈X.ex\/X.s₀.heap.objs.size<=b)/\(∀x c,X.env.cells.lookup x=some c->c≠b)/\∀p∈X.pn++OM,p.1≠b
def Inv.fpOk {X:Cx}{σ:St}{H H':Hp}{s:Og}{b:Of}(I:Inv X OM σ H s)(hb:s.heap.objs.size<=b)(hn:H' b=none):bq X OM H' b:=by
 refine⟨hn,Jt<|IQ I.lt hb,I.nofs hb,.inr<|IV I.sz hb,λx c e z=>?_,λp hp z=>?_⟩
 .obtain⟨v,q⟩:=I.cell x c e;exact absurd (IQ q.lt (by rw[z];exact hb))<|KF _
 .exact absurd (IQ (IF (I.pin p hp).1) (by rw[z];exact hb))<|KF _
structure Turn (P:Oh) (w:Oi) (K:Fg) (tg:Oo) (J:It) (fp:List Of) (it:Of) (tn:Nat->Oq->Prop):Prop where
 mem:it∈fp
 obj:∀i h,tn i h->∀b∈fp,∃o,h.get? b=some o/\∀v,o.data ≠ .cell v
 keep:∀i h h',tn i h->(∀b∈fp,∀o,h.get? b=some o->h'.get? b=some o)->tn i h'
 item:∀(X:Cx),X.prog=P->X.w=w->X.K=K->X.calm=true->∀(i:Nat) (OM:List (Of×Ou)) (s:Og) (σ:St) (H:Hp) (E:Oe->Og->Prop),Inv X OM σ H s->(∀b∈fp,bq X OM H b)->tn i s.heap->J.go i H ->
  Oz (model P w) X.A (pyNext<|.ref it) (λr s1=>∃u,r=some u /\
   Oz (model P w) X.A (letOwnedTupleGo tg (.ref it) u) (λ_ s2=>∃x H',Inv X OM σ H' s2/\u0 x u/\J.yld i H x H'/\tn (i+1) s2.heap/\∀b∈fp,H' b=none) E s1) E s
 done:∀(X:Cx),X.prog=P->X.w=w->X.K=K->X.calm=true->∀(i:Nat) (OM:List (Of×Ou)) (s:Og) (σ:St) (H:Hp) (E:Oe->Og->Prop),Inv X OM σ H s->(∀b∈fp,bq X OM H b)->tn i s.heap->J.stop i H ->
  Oz (model P w) X.A (pyNext<|.ref it) (λr s1=>r=none/\Inv X OM σ H s1) E s
 self:∀(A:Oj) (i:Nat) (s:Og) (Q:Oe->Og->Prop) (E:Oe->Og->Prop),tn i s.heap->Q (.ref it) s->Oz (model P w) A (pyIter<|.ref it) Q E s
abbrev TI :=St->Hp->(It->Hp->Prop)->Prop
def PIE (X:Cx)(OM:List (Of×Ou))(σ:St)(tg:Oo)(R:It->Hp->Prop)(itv:Oe)(s2:Og):Prop :=
 ∃(it:Of) (fp:List Of) (tn:Nat->Oq->Prop) (J:It) (H':Hp),itv = .ref it/\Inv X OM σ H' s2/\Turn X.prog X.w X.K tg J fp it tn/\tn 0 s2.heap/\(∀b∈fp,bq X OM H' b)/\R J H'
def PI (X:Cx)(tg iter:Oo)(wi:TI):Prop :=
 ∀(OM:List (Of×Ou)) (s:Og) (σ:St) (H:Hp) (R:It->Hp->Prop),Inv X OM σ H s->wi σ H R ->
  Oz (model X.prog X.w) X.A (eval iter X.env) (λv s1=>Oz (model X.prog X.w) X.A (pyIter v) (PIE X OM σ tg R) X.xe s1) X.xe s
def sR {M:Model}{A:Oj}{E:Oe->Og->Prop}{s:Og}{it:Of}{u:Oe}{o:Ou}{n:String}{vs:Array Oe}{Q:Unit->Og->Prop}(ho:s.heap.get? it=some o)(hc:o.cls = .type n)(hd:o.data = .fields vs)
    (hn:["enumerate","zip","dict_itemiterator","dict_reverseitemiterator","odict_iterator","itertools.zip_longest","itertools.pairwise"].contains n=false) (hQ:Q () s):Oz M A (letOwnedTupleGo tg (.ref it) u) Q E s:=by
  unfold letOwnedTupleGo;cases tg <;> first
    | exact Iy hQ
    | (cases u <;> first
        | exact Iy hQ
        | (refine Iw (wpAny_load ho ?_)
           rw[hc,hd]
           show Oz M A (if (["enumerate","zip","dict_itemiterator","dict_reverseitemiterator","odict_iterator","itertools.zip_longest","itertools.pairwise"].contains n&&vs[0]? == some (rawInt _))=true then _ else _) Q E s
           rw[II (by intro h;rw[hn,Bool.false_and]at h;cases h)]
           exact Iy hQ))
def Itl (K:Fg)(a:Of):It :=
 ⟨λi H=>∃xs x,SqL K H a xs/\xs[i]? = some x,λi H x H'=>H'=H/\∀xs,SqL K H a xs->xs[i]? = some x,λi H=>∃xs,SqL K H a xs/\xs.length<=i⟩
def Itt (K:Fg)(a:Of):It :=
 ⟨λi H=>∃xs x,SqT K H a xs/\xs[i]? = some x,λi H x H'=>H'=H/\∀xs,SqT K H a xs->xs[i]? = some x,λi H=>∃xs,SqT K H a xs/\xs.length<=i⟩
def Itr (lo:Int)(n:Nat):It:=⟨λi _=>i<n,λi H x H'=>H'=H/\x = .int (lo+i),λi _=>n<=i⟩
def pf {P:Oh}{w:Oi}{K:Fg}(a it:Of):Turn P w K tg (Itl K a) [it] it (λi h=>h.IsListIter it a i) where
 mem:=by simp
 obj:=λi h st b hb=>by
  have e:b=it:=by simpa using hb
  subst e;obtain⟨o,e,c,d⟩:=st;exact⟨o,e,λv z=>by rw[d]at z;cases z⟩
 keep:=λi h h' st k=>st.at λo e=>k it (by simp) o e
 item:=by
  walk_at "kf";obtain⟨xs,x,hq,hx⟩:=hg;obtain⟨its,rv,p,hz⟩:=I.list hq;obtain⟨u,hu,ru⟩:=rv.get hx;obtain⟨f0,f1,f2,f3,f4,f5⟩:=hf it (by simp);refine wpAny_pyNext_list_item st p.isList (x:=u) (by simpa using hu) λh' st' sb=>?_
  have I1:Inv X OM σ H { s with heap:=h' }:=I.turned (t':=s.toks) (λb o hb e=>(sb.2 b hb).trans e) f0 f1 f3 f4 f5;obtain⟨o,e,c,d⟩:=id st';exact⟨u,rfl,sR (s:={ s with heap:=h' }) e c d (by decide) ⟨x,H,I1,ru,⟨rfl,λys hy=>by rw[I.list_inj hy hq];exact hx⟩,st',λb hb=>(hf b hb).1⟩⟩
 done:=by intro X hP hw hK hc i OM s σ H E I hf st hg;subst hP hw hK;obtain⟨xs,hq,hx⟩:=hg;obtain⟨its,rv,p,hz⟩:=I.list hq;obtain⟨f0,f1,f2,f3,f4,f5⟩:=hf it (by simp);have hl:=rv.length;exact wpAny_pyNext_list_end (I.ok.hd hc) st p.isList (by simp;omega) λh' eb=>⟨rfl,I.turned (t':=s.toks) (λb o hb e=>eb b o hb e) f0 f1 f3 f4 f5⟩
 self:=λ_ _ _ _ _ st h=>wpAny_pyIter_listiter st h
def lr {P:Oh}{w:Oi}{K:Fg}(a it:Of):Turn P w K tg (Itt K a) [it] it (λi h=>h.IsTupleIter it a i) where
 mem:=by simp
 obj:=λi h st b hb=>by
  have e:b=it:=by simpa using hb
  subst e;obtain⟨o,e,c,d⟩:=st;exact⟨o,e,λv z=>by rw[d]at z;cases z⟩
 keep:=λi h h' st k=>st.at λo e=>k it (by simp) o e
 item:=by
  walk_at "kf";obtain⟨xs,x,hq,hx⟩:=hg;obtain⟨its,rv,p,hz⟩:=I.tuple hq;obtain⟨u,hu,ru⟩:=rv.get hx;obtain⟨f0,f1,f2,f3,f4,f5⟩:=hf it (by simp);refine wpAny_pyNext_tuple_item st (show s.heap.IsTuple a its.toArray from p) (x:=u) (by simpa using hu) λh' st' sb=>?_
  have I1:Inv X OM σ H { s with heap:=h' }:=I.turned (t':=s.toks) (λb o hb e=>(sb.2 b hb).trans e) f0 f1 f3 f4 f5;obtain⟨o,e,c,d⟩:=id st';exact⟨u,rfl,sR (s:={ s with heap:=h' }) e c d (by decide) ⟨x,H,I1,ru,⟨rfl,λys hy=>by rw[I.tuple_inj hy hq];exact hx⟩,st',λb hb=>(hf b hb).1⟩⟩
 done:=by intro X hP hw hK hc i OM s σ H E I hf st hg;subst hP hw hK;obtain⟨xs,hq,hx⟩:=hg;obtain⟨its,rv,p,hz⟩:=I.tuple hq;obtain⟨f0,f1,f2,f3,f4,f5⟩:=hf it (by simp);have hl:=rv.length;exact wpAny_pyNext_tuple_end (I.ok.hd hc) st (show s.heap.IsTuple a its.toArray from p) (by simp;omega) λh' eb=>⟨rfl,I.turned (t':=s.toks) (λb o hb e=>eb b o hb e) f0 f1 f3 f4 f5⟩
 self:=λ_ _ _ _ _ st h=>wpAny_pyIter_tupleiter st h
def mT {P:Oh}{w:Oi}{K:Fg}(it:Of)(lo:Int)(n:Nat):Turn P w K tg (Itr lo n) [it] it (λi h=>IsRangeIter h it (lo+(i:Nat)*1) ((n:Int)-(i:Nat)) 1) where
 mem:=by simp
 obj:=λi h st b hb=>by
  have e:b=it:=by simpa using hb
  subst e;exact⟨_,st,λv z=>by have z':Data.fields _=Data.cell v:=z;cases z'⟩
 keep:=λi h h' st k=>k it (by simp) _ st
 item:=by
  walk_at "kf";obtain⟨f0,f1,f2,f3,f4,f5⟩:=hf it (by simp);have W:=Walks.range (prog:=X.prog) (w:=X.w) (I.ok.hd hc) it lo 1 n;refine W.item i s _ _ hg st λv h' tk hv st' kk=>?_
  obtain⟨t,rfl⟩:=hv;have I1:Inv X OM σ H { s with heap:=h',toks:=tk }:=I.turned (λb o hb e=>kk b o (by simpa using hb) e) f0 f1 f3 f4 f5;refine⟨_,rfl,sR (s:={ s with heap:=h',toks:=tk }) (n:="range_iterator") st' rfl rfl (by decide) ⟨.int<|lo+i,H,I1,⟨t,?_⟩,⟨rfl,rfl⟩,st',λb hb=>(hf b hb).1⟩⟩;rw[Nt]
 done:=by intro X hP hw hK hc i OM s σ H E I hf st hg;subst hP hw hK;obtain⟨f0,f1,f2,f3,f4,f5⟩:=hf it (by simp);exact wpAny_pyNext_range_end (I.ok.hd hc) st (by have:n<=i:=hg;omega) λh' eb=>⟨rfl,I.turned (t':=s.toks) (λb o hb e=>eb b o hb e) f0 f1 f3 f4 f5⟩
 self:=λ_ _ _ _ _ st h=>wpAny_pyIter_rangeiter st h
end
variable {fp:List Of}
section
section
variable {X:Cx}
def rO {σ:St}{H:Hp}{s:Og}{R:It->Hp->Prop}{E:Oe->Og->Prop}{lo hi:Int}{t u v:Tok}{tk:Nat}(I:Inv X OM σ H s)(h1:-(2 ^ 62)<=lo)(h2:lo<2 ^ 62)(h3:-(2 ^ 62)<=hi)(h4:hi<2 ^ 62)
  (q:R (Itr lo (hi-lo).toNat) H):Oz (model X.prog X.w) X.A (pyIter<|.ref s.heap.objs.size) (PIE X OM σ tg R) E { s with heap:=s.heap.push { cls:=.type "range",data:=.fields #[.int lo t,.int hi u,.int 1 v] },toks:=tk }:=by
 refine wpAny_pyIter_range (IsRange.new ..) (small_one h1 h2 h3 h4) ?_;have I1:Inv X OM σ H { s with heap:=s.heap.push { cls:=.type "range",data:=.fields #[.int lo t,.int hi u,.int 1 v] },toks:=tk }:=I.kept λb o e=>ID _ e
 refine⟨(s.heap.push { cls:=.type "range",data:=.fields #[.int lo t,.int hi u,.int 1 v] }).objs.size,[(s.heap.push { cls:=.type "range",data:=.fields #[.int lo t,.int hi u,.int 1 v] }).objs.size],_,_,H,rfl,
  I1.kept (t':=tk) λb o e=>ID _ e,mT _ lo (hi-lo).toNat,?_,λb hb=>?_,q⟩
 .have e1:lo+((0:Nat):Int)*1=lo:=by simp
  have e2:(((hi-lo).toNat:Nat):Int)-((0:Nat):Int)=Builtin.Range.rangeSize lo hi 1:=by rw[rangeSize_one];split <;> omega
  show IsRangeIter _ _ (lo+((0:Nat):Int)*1) ((((hi-lo).toNat:Nat):Int)-((0:Nat):Int)) 1;rw[e1,e2];exact Jc _ rfl
 .have e:b=(s.heap.push { cls:=.type "range",data:=.fields #[.int lo t,.int hi u,.int 1 v] }).objs.size:=by simpa using hb
  subst e;exact I1.fpOk (IT _)<|I1.hok.fresh<|IT _
def xY (ta:TA):TI:=λσ H R=>ta σ H λvs H1=>∃j:Int,vs=[.int j] /\ -(2 ^ 62)<=j/\j<2 ^ 62/\R (Itr 0 j.toNat) H1
def qu {a:Oo}{ta:TA}{p:Pos}(hg:Gl X "range")(hm:X.mg "range" = none)(ha:PA X [a] ta)(hs:Ot [a] X.env=[(false,eval a X.env)]:=by rfl):PI X tg (.Call (.Name "range" p) [a] [] pos) (xY ta):=by
 intro OM s σ H R I h;refine Call_ (aT I hg hm boot_range<|Lc (thn (ha pos OM s σ H _ I h) λus s1 ⟨vs,H1,I1,r1,q1⟩=>?_) hs rfl);obtain⟨j,e,q1,q2,q⟩:=q1;subst e;cases r1 with
 | cons r rr =>cases rr;obtain⟨t,rfl⟩:=r;exact call_range_1 (rO I1 (by omega) (by omega) q1 q2<|by simpa using q)
def zM (wi:TI)(g:TG)(tb:TS):TS:=λD σ H=>wi σ H λJ H1=>∃W:Nat->Nat->St->Hp->Prop,(∃m,W 0 m σ H1)/\∀i m σ H,W i m σ H ->
 (J.stop i H/\D.nx σ H)\/(J.go i H/\∃N:St->Hp->Prop,(∀O' H',N O' H'->∃m',m'<m/\W (i+1) m' O' H')/\∀x H',J.yld i H x H'->g x σ H' λσ2 H2=>tb { D with nx:=N,ct:=N,bk:=D.nx } σ2 H2)
def bY (fp:List Of)(h:Oq):List (Of×Ou):=fp.filterMap λb=>(h.get? b).map λo=>(b,o)
def M2 {h:Oq}{b:Of}{o:Ou}(hb:b∈fp)(e:h.get? b=some o):(b,o)∈bY fp h:=Nw.2 ⟨b,hb,by rw[e];rfl⟩
def qk {h:Oq}{p:Of×Ou}(hp:p∈bY fp h):p.1∈fp/\h.get? p.1=some p.2:=by
 obtain⟨b,hb,e⟩:=Nw.1 hp;cases q:h.get? b with
 | none=>rw[q]at e;cases e
 | some o =>rw[q]at e;have e':(b,o)=p:=IS e;subst e';exact⟨hb,q⟩
def Inv.pinned {σ:St}{H:Hp}{s:Og}(I:Inv X OM σ H s)(hf:∀b∈fp,bq X OM H b)(ho:∀b∈fp,∃o,s.heap.get? b=some o/\∀v,o.data ≠ .cell v):Inv X (OM++bY fp s.heap) σ H s :=
 I.pins_of λp hp=>(LD.1 hp).elim (λz=>I.pin p<|Jl _ z) λz=>by obtain⟨hb,e⟩:=qk z;obtain⟨f0,f1,f2,_⟩:=hf p.1 hb;obtain⟨o,e',d⟩:=ho p.1 hb;rw[e]at e';cases e';exact⟨e,f0,f1,f2,d⟩
def Inv.unpinned {pl:List (Of×Ou)}{σ:St}{H:Hp}{s:Og}(I:Inv X (OM++pl) σ H s):Inv X OM σ H s:=I.pins_of λp hp=>I.pin p<|Jl _<|KB _ hp
def Ah {iter:Oo}{wi:TI}{g:TG}{tb:TS}(hp:PassesOwn (model X.prog X.w) X.A X.env X.xe)(hc:X.calm=true)(hi:PI X tg iter wi)(hg:PG X tg g)(hb:PSs X body tb)
  (hs:∀x,OE iter X.env x=pure x:=by intro _;rfl):PS X (.For tg iter body [] pos) (zM wi g tb):=by
 intro OM s σ H D I h;refine wpAny_For (thn (hi OM s σ H _ I h) λv s1 h1=>thn h1 λitv s2 h2=>?_) hs;obtain⟨it,fp,tn,J,H2,e,I2,T,st2,f2,W,⟨m0,w0⟩,turn⟩:=h2;subst e;have stat:∀{H':Hp},(∀b∈fp,H' b=none)->∀b∈fp,bq X OM H' b:=λhn b hb=>⟨hn b hb,(f2 b hb).2⟩
 refine codeAny_forLoop_any (λn s'=>∃i O' H',Inv X OM O' H' s'/\tn i s'.heap/\(∀b∈fp,H' b=none)/\W i n O' H') ?_ m0 ⟨0,σ,H2,I2,st2,λb hb=>(f2 b hb).1,w0⟩;rintro n s3 ⟨i,σ3,H3,I3,st3,fr3,w3⟩;rcases turn i n σ3 H3 w3 with ⟨stop,qn⟩ | ⟨go,N,hN,step⟩
 .refine Lj hp (thn (T.done X rfl rfl rfl hc i OM s3 σ3 H3 X.xe I3 (stat fr3) st3 stop) λr s4 ⟨hr,I4⟩=>?_);subst hr;exact Li ⟨σ3,H3,I4,qn⟩
 .refine Lj hp (thn (T.item X rfl rfl rfl hc i OM s3 σ3 H3 X.xe I3 (stat fr3) st3 go) λr s4 ⟨u,hr,h4⟩=>?_);subst hr;refine Lj hp (thn h4 λ_ s5 ⟨x,H5,I5,r5,y5,st5,fr5⟩=>?_);have I5':=I5.pinned (stat fr5)<|T.obj _ _ st5;refine Lj hp (thn (hg _ s5 σ3 H5 x u _ I5' r5<|step x H5 y5) λ_ s6 ⟨σ6,H6,I6,q6⟩=>?_);refine Lj hp (thn (hb _ s6 σ6 H6 _ I6 q6) λf s7 q7=>?_);have again:∀{σ7:St} {H7:Hp},Inv X (OM++bY fp s5.heap) σ7 H7 s7->N σ7 H7->∃m,m<n/\∃i O' H',Inv X OM O' H' s7/\tn i s7.heap/\(∀b∈fp,H' b=none)/\W i m O' H':=λ{σ7 H7} I7 n7=>by obtain⟨m',hm,w7⟩:=hN σ7 H7 n7;refine⟨m',hm,i+1,σ7,H7,I7.unpinned,T.keep _ _ _ st5 λb hb o e=>(I7.pin (b,o)<|Jl _<|Jl _<|M2 hb e).1,λb hb=>?_,w7⟩;obtain⟨o,e,d⟩:=T.obj _ _ st5 b hb;exact(I7.pin (b,o)<|Jl _<|Jl _<|M2 hb e).2.1
  cases f with
  | next=>obtain⟨σ7,H7,I7,n7⟩:=q7;exact again I7 n7
  | cont=>obtain⟨σ7,H7,I7,n7⟩:=q7;exact again I7 n7
  | brk=>obtain⟨σ7,H7,I7,q7⟩:=q7;exact⟨σ7,H7,I7.unpinned,q7⟩
  | ret v=>obtain⟨x7,σ7,H7,I7,r7,q7⟩:=q7;exact⟨x7,σ7,H7,I7.unpinned,r7,q7⟩
end
end
section
abbrev R2 :=V->V->Hp->VK->Prop
def OpR (X:Cx)(f:Oe->Oe->Sem Oe)(r:R2):Prop :=
 ∀(OM:List (Of×Ou)) (s:Og) (σ:St) (H:Hp) (x y:V) (v u:Oe) (Q:VK),Inv X OM σ H s->u0 x v->u0 y u->r x y H Q ->
  Oz (model X.prog X.w) X.A (f v u) (EP X OM σ Q) X.xe s
def UnR (X:Cx)(f:Oe->Sem Oe)(r:V->Hp->VK->Prop):Prop :=
 ∀(OM:List (Of×Ou)) (s:Og) (σ:St) (H:Hp) (x:V) (v:Oe) (Q:VK),Inv X OM σ H s->u0 x v->r x H Q ->
  Oz (model X.prog X.w) X.A (f v) (EP X OM σ Q) X.xe s
def A3 (X:Cx)(f:Oe)(r:List V->Hp->VK->Prop):Prop :=
 ∀(OM:List (Of×Ou)) (s:Og) (σ:St) (H:Hp) (xs:List V) (us:List Oe) (Q:VK),Inv X OM σ H s->n5 xs us->r xs H Q ->
  Oz (model X.prog X.w) X.A (call f us) (EP X OM σ Q) X.xe s
def CC (X:Cx)(r:V->Hp->(Bool->Hp->Prop)->Prop):Prop :=
 ∀(OM:List (Of×Ou)) (s:Og) (σ:St) (H:Hp) (x:V) (v:Oe) (Q:Bool->Hp->Prop),Inv X OM σ H s->u0 x v->r x H Q ->
  Oz (model X.prog X.w) X.A (truthy v) (TP X OM σ Q) X.xe s
def tOp (r:R2)(ta tb:TE):TE:=λσ H Q=>ta σ H λx H1=>tb σ H1 λy H2=>r x y H2 Q
def tUn (r:V->Hp->VK->Prop)(ta:TE):TE:=λσ H Q=>ta σ H λx H1=>r x H1 Q
def rI (C:Int->Int->Prop)(g:Int->Int->V):R2:=λx y H Q=>∃i j,x = .int i/\y = .int j/\C i j/\Q (g i j) H
def rI0 (g:Int->Int->V):R2:=λx y H Q=>∃i j,x = .int i/\y = .int j/\Q (g i j) H
def rU (g:Int->V):V->Hp->VK->Prop:=λx H Q=>∃i,x = .int i/\Q (g i) H
section
variable {X:Cx}{a b c:Oo}{tb tc:TE}
def zo (ha:PE X a ta)(hb:PE X b tb){s:Og}{σ:St}{H:Hp}{R:V->V->Hp->Prop}(I:Inv X OM σ H s)
  (h:ta σ H λx H1=>tb σ H1 λy H2=>R x y H2) {Q:Oe->Og->Prop} {f:Oe->Oe->Sem Oe}
  (hf:∀v u s2 x y H2,Inv X OM σ H2 s2->u0 x v->u0 y u->R x y H2->Oz (model X.prog X.w) X.A (f v u) Q X.xe s2) :
  Oz (model X.prog X.w) X.A (eval a X.env) (λv s₁=>Oz (model X.prog X.w) X.A (eval b X.env) (λu s₂=>Oz (model X.prog X.w) X.A (f v u) Q X.xe s₂) X.xe s₁) X.xe s:=by
 refine thn (ha OM s σ H _ I h) λv s1 ⟨x,H1,I1,r1,q1⟩=>?_
 refine thn (hb OM s1 σ H1 _ I1 q1) λu s2 ⟨y,H2,I2,r2,q2⟩=>?_
 exact hf v u s2 x y H2 I2 r1 r2 q2
def C3 {op:Operator}{r:R2}(ho:OpR X (binaryOp op) r)(ha:PE X a ta)(hb:PE X b tb):PE X (.BinOp a op b pos) (tOp r ta tb):=by intro OM s σ H Q I h;exact wpAny_BinOp (zo ha hb I h λv u s2 x y H2 I2 rx ry q=>ho OM s2 σ H2 x y v u Q I2 rx ry q)
def yc {op:UnaryOp}{r:V->Hp->VK->Prop}(ho:UnR X (unaryOp op) r)(ha:PE X a ta):PE X (.UnaryOp op a pos) (tUn r ta):=by intro OM s σ H Q I h;exact UnaryOp_ (thn (ha OM s σ H _ I h) λv s1 ⟨x,H1,I1,r1,q1⟩=>ho OM s1 σ H1 x v Q I1 r1 q1)
def opI {f:Oe->Oe->Sem Oe}{C:Int->Int->Prop}{g:Int->Int->Int}
  (rule:∀(i j:Int) (t u:Tok) (s:Og) (Q:Oe->Og->Prop) (E:Oe->Og->Prop),C i j->Q (.int (g i j) s.toks) { s with toks:=s.toks+1 }->Oz (model X.prog X.w) X.A (f (.int i t)<|.int j u) Q E s) :
  OpR X f (rI C λi j=>.int<|g i j):=by intro OM s σ H x y v u Q I rx ry h;obtain⟨i,j,rfl,rfl,hc,q⟩:=h;obtain⟨t,rfl⟩:=rx;obtain⟨t',rfl⟩:=ry;exact rule i j t t' s _ _ hc ⟨.int<|g i j,H,I.tok _,⟨_,rfl⟩,q⟩
def Bs {f:Oe->Oe->Sem Oe}{g:Int->Int->Int}
  (rule:∀(i j:Int) (t u:Tok) (s:Og) (Q:Oe->Og->Prop) (E:Oe->Og->Prop),Q (.int (g i j) s.toks) { s with toks:=s.toks+1 }->Oz (model X.prog X.w) X.A (f (.int i t)<|.int j u) Q E s) :
  OpR X f (rI0 λi j=>.int<|g i j):=by intro OM s σ H x y v u Q I rx ry h;obtain⟨i,j,rfl,rfl,q⟩:=h;obtain⟨t,rfl⟩:=rx;obtain⟨t',rfl⟩:=ry;exact rule i j t t' s _ _ ⟨.int<|g i j,H,I.tok _,⟨_,rfl⟩,q⟩
def uQ {f:Oe->Oe->Sem Oe}{g:Int->Int->Bool}
  (rule:∀(i j:Int) (t u:Tok) (s:Og) (Q:Oe->Og->Prop) (E:Oe->Og->Prop),Q (.bool<|g i j) s->Oz (model X.prog X.w) X.A (f (.int i t)<|.int j u) Q E s) :
  OpR X f (rI0 λi j=>.bl<|g i j):=by intro OM s σ H x y v u Q I rx ry h;obtain⟨i,j,rfl,rfl,q⟩:=h;obtain⟨t,rfl⟩:=rx;obtain⟨t',rfl⟩:=ry;exact rule i j t t' s _ _ ⟨.bl<|g i j,H,I,rfl,q⟩
def CJ (i j:Int):Prop:=0<j/\j<1073741824
def vL (i j:Int):Prop:=0<=j/\j<=1000000/\i.natAbs<2 ^ 64
def ux (i j:Int):Prop:=(-(2 ^ 64)<i/\i<2 ^ 64)\/(-(2 ^ 64)<j/\j<2 ^ 64)
def ux.ok {i j:Int}(h:ux i j):IntMulOk i j:=by
 rcases h with ⟨h1,h2⟩ | ⟨h1,h2⟩
 .exact .of_left<|intBits_le_64 h1 h2
 .exact .of_right<|intBits_le_64 h1 h2
def aK :OpR X (binaryOp .Add) (rI0 λi j=>.int<|i+j):=Bs λ_ _ _ _ _ _ _ q=>add_int q
def yL :OpR X (binaryOp .Sub) (rI0 λi j=>.int<|i-j):=Bs λ_ _ _ _ _ _ _ q=>sub_int q
def aO :OpR X (binaryOp .Mult) (rI ux λi j=>.int<|i*j):=opI λ_ _ _ _ _ _ _ hc q=>mul_int q hc.ok
def jq :OpR X (binaryOp .FloorDiv) (rI CJ λi j=>.int<|i / j):=opI λi j _ _ _ _ _ hc q=>by have h1:(0:Int)<j:=hc.1;have h2:j<1073741824:=hc.2;exact floordiv_int (by omega) (by rw[NH i<|by omega];exact q) (.inl<|PyProof.noPylong_small<|by omega)
def W3 :OpR X (binaryOp .Mod) (rI (λ_ j=>0<j) λi j=>.int<|i % j):=opI λi j _ _ _ _ _ hc q=>by have h1:(0:Int)<j:=hc;exact mod_int' (by omega) (by rw[Int.fmod_eq_emod_of_nonneg i<|by omega];exact q)
def qX :OpR X (binaryOp .Pow) (rI vL λi j=>.int<|i ^ j.toNat):=opI λ_ _ _ _ _ _ _ hc q=>pow_int_small hc.1 hc.2.1 hc.2.2 q
def unI {f:Oe->Sem Oe}{g:Int->Int}
  (rule:∀(i:Int) (t:Tok) (s:Og) (Q:Oe->Og->Prop) (E:Oe->Og->Prop),Q (.int (g i) s.toks) { s with toks:=s.toks+1 }->Oz (model X.prog X.w) X.A (f<|.int i t) Q E s) :
  UnR X f (rU λi=>.int<|g i):=by intro OM s σ H x v Q I rx h;obtain⟨i,rfl,q⟩:=h;obtain⟨t,rfl⟩:=rx;exact rule i t s _ _ ⟨.int<|g i,H,I.tok _,⟨_,rfl⟩,q⟩
def uq :UnR X (unaryOp .USub) (rU λi=>.int (-i)):=unI λ_ _ _ _ _ q=>neg_int q
end
def Bj:V->V->Bool
 | .non,.non=>true | .non,.int _=>true | .int _,.non=>true | .non,.bl _=>true | .bl _,.non=>true | .non,.str _=>true | .str _,.non=>true
 | .int _,.int _=>true | .bl _,.bl _=>true | .str _,.str _=>true | .byt _,.byt _=>true
 | .int _,.str _=>true | .str _,.int _=>true | .bl _,.str _=>true | .str _,.bl _=>true
 | _,_=>false
def rEq :R2:=λx y H Q=>Bj x y=true/\Q (.bl<|decide (x=y)) H
def rNe :R2:=λx y H Q=>Bj x y=true/\Q (.bl (!decide (x=y))) H
def nP {i j:Int}:decide (V.int i=V.int j)=(i == j):=by rw[Mj];simp
def tV {i j:Bool}:decide (V.bl i=V.bl j)=(i == j):=by rw[Mj];simp
def nZ {i j:Str}:decide (V.str i=V.str j)=(i == j):=by rw[Mj];simp
def oy {i j:Array UInt8}:decide (V.byt i=V.byt j)=(i.toList == j.toList):=by rw[Mj];cases i;cases j;simp
section
variable {X:Cx}{a b c:Oo}{tb tc:TE}
def v7 {σ:St}{H:Hp}{s:Og}{Q:VK}{k k':Bool}(I:Inv X OM σ H s)(q:Q (.bl k) H)(e:k=k'):EP X OM σ Q (.bool k') s:=by subst e;exact⟨.bl k,H,I,rfl,q⟩
def Bl :OpR X (compareOp .Eq) rEq:=by
 intro OM s σ H x y v u Q I rx ry h;obtain⟨hs,q⟩:=h;cases x with
 | non =>
  cases rx;cases y with
  | non=>cases ry;exact PySem.EqNone.eq_none_none (v7 I q<|by simp)
  | bl j=>cases ry;exact PySem.EqNone.eq_none_bool (v7 I q<|by simp)
  | int j=>obtain⟨t',rfl⟩:=ry;exact PySem.EqNone.eq_none_int (v7 I q<|by simp)
  | str j=>obtain⟨t',rfl⟩:=ry;exact PySem.EqNone.eq_none_str (v7 I q<|by simp)
  | _=>exact absurd (show false=true from hs) IZ
 | bl i =>
  cases rx;cases y with
  | non=>cases ry;exact PySem.EqNone.eq_bool_none (v7 I q<|by simp)
  | bl j=>cases ry;exact eq_bool<|v7 I q tV
  | str j=>obtain⟨t',rfl⟩:=ry;exact PySem.EqMixed.eq_bool_str (v7 I q<|by simp)
  | _=>exact absurd (show false=true from hs) IZ
 | int i =>
  obtain⟨t,rfl⟩:=rx;cases y with
  | non=>cases ry;exact PySem.EqNone.eq_int_none (v7 I q<|by simp)
  | int j=>obtain⟨t',rfl⟩:=ry;exact eq_int<|v7 I q nP
  | str j=>obtain⟨t',rfl⟩:=ry;exact PySem.EqMixed.eq_int_str (v7 I q<|by simp)
  | _=>exact absurd (show false=true from hs) IZ
 | str i =>
  obtain⟨t,rfl⟩:=rx;cases y with
  | non=>cases ry;exact PySem.EqNone.eq_str_none (v7 I q<|by simp)
  | bl j=>cases ry;exact PySem.EqMixed.eq_str_bool (v7 I q<|by simp)
  | int j=>obtain⟨t',rfl⟩:=ry;exact PySem.EqMixed.eq_str_int (v7 I q<|by simp)
  | str j=>obtain⟨t',rfl⟩:=ry;exact eq_str<|v7 I q nZ
  | _=>exact absurd (show false=true from hs) IZ
 | byt i =>
  obtain⟨t,rfl⟩:=rx;cases y with
  | byt j=>obtain⟨t',rfl⟩:=ry;exact PySem.W.eq_bytes<|v7 I q oy
  | _=>exact absurd (show false=true from hs) IZ
 | _=>cases y <;> exact absurd (show false=true from hs) IZ
def BZ :OpR X (compareOp .NotEq) rNe:=by
 intro OM s σ H x y v u Q I rx ry h;obtain⟨hs,q⟩:=h;cases x with
 | non =>
  cases rx;cases y with
  | non=>cases ry;exact PySem.EqNone.ne_none_none (v7 I q<|by simp)
  | bl j=>cases ry;exact PySem.EqNone.ne_none_bool (v7 I q<|by simp)
  | int j=>obtain⟨t',rfl⟩:=ry;exact PySem.EqNone.ne_none_int (v7 I q<|by simp)
  | str j=>obtain⟨t',rfl⟩:=ry;exact PySem.EqNone.ne_none_str (v7 I q<|by simp)
  | _=>exact absurd (show false=true from hs) IZ
 | bl i =>
  cases rx;cases y with
  | non=>cases ry;exact PySem.EqNone.ne_bool_none (v7 I q<|by simp)
  | bl j=>cases ry;exact ne_bool<|v7 I q<|JX not tV
  | str j=>obtain⟨t',rfl⟩:=ry;exact PySem.EqMixed.ne_bool_str (v7 I q<|by simp)
  | _=>exact absurd (show false=true from hs) IZ
 | int i =>
  obtain⟨t,rfl⟩:=rx;cases y with
  | non=>cases ry;exact PySem.EqNone.ne_int_none (v7 I q<|by simp)
  | int j=>obtain⟨t',rfl⟩:=ry;exact ne_int<|v7 I q<|JX not nP
  | str j=>obtain⟨t',rfl⟩:=ry;exact PySem.EqMixed.ne_int_str (v7 I q<|by simp)
  | _=>exact absurd (show false=true from hs) IZ
 | str i =>
  obtain⟨t,rfl⟩:=rx;cases y with
  | non=>cases ry;exact PySem.EqNone.ne_str_none (v7 I q<|by simp)
  | bl j=>cases ry;exact PySem.EqMixed.ne_str_bool (v7 I q<|by simp)
  | int j=>obtain⟨t',rfl⟩:=ry;exact PySem.EqMixed.ne_str_int (v7 I q<|by simp)
  | str j=>obtain⟨t',rfl⟩:=ry;exact ne_str<|v7 I q<|JX not nZ
  | _=>exact absurd (show false=true from hs) IZ
 | byt i =>
  obtain⟨t,rfl⟩:=rx;cases y with
  | byt j=>obtain⟨t',rfl⟩:=ry;exact PySem.W.ne_bytes<|v7 I q<|JX not oy
  | _=>exact absurd (show false=true from hs) IZ
 | _=>cases y <;> exact absurd (show false=true from hs) IZ
def xQ :OpR X (compareOp .Lt) (rI0 λi j=>.bl<|decide (i<j)):=uQ λ_ _ _ _ _ _ _ q=>lt_int q
def Cb :OpR X (compareOp .LtE) (rI0 λi j=>.bl<|decide (i<=j)):=uQ λ_ _ _ _ _ _ _ q=>le_int q
def uC :OpR X (compareOp .Gt) (rI0 λi j=>.bl<|decide (j<i)):=uQ λ_ _ _ _ _ _ _ q=>gt_int q
def Bx :OpR X (compareOp .GtE) (rI0 λi j=>.bl<|decide (j<=i)):=uQ λ_ _ _ _ _ _ _ q=>ge_int q
def cB (b:Oo){op:CmpOp}(h:op ≠ .In:=by decide)(h2:op ≠ .NotIn:=by decide):behindInMarks op b=false:=by
 have e1:(op == CmpOp.In)=false:=by cases op <;> first | rfl | exact absurd rfl h
 have e2:(op == CmpOp.NotIn)=false:=by cases op <;> first | rfl | exact absurd rfl h2
 cases b <;> simp[behindInMarks,e1,e2]
def vf {op:CmpOp}{r:R2}(ho:OpR X (compareOp op) r)(ha:PE X a ta)(hb:PE X b tb)(hm:behindInMarks op b=false):PE X (.Compare a [op] [b] pos) (tOp r ta tb):=by intro OM s σ H Q I h;exact wpAny_Compare1 (zo ha hb I h λv u s2 x y H2 I2 rx ry q=>ho OM s2 σ H2 x y v u Q I2 rx ry q) hm
def oq (t:TE):TT:=λσ H Q=>t σ H λx H'=>∃k,x = .bl k/\Q k H'
def bu {op:CmpOp}{r:R2}(ho:OpR X (compareOp op) r)(ha:PE X a ta)(hb:PE X b tb)(hm:behindInMarks op b=false):PT X (.Compare a [op] [b] pos) (oq<|tOp r ta tb):=by
 intro OM s σ H Q I h;refine wpAny_isTrue_Compare1 (thn (ha OM s σ H _ I h) λv s1 ⟨x,H1,I1,r1,q1⟩=>thn (hb OM s1 σ H1 _ I1 q1) λu s2 ⟨y,H2,I2,r2,q2⟩ =>
  thn (ho OM s2 σ H2 x y v u _ I2 r1 r2 q2) λc s3 ⟨z,H3,I3,r3,k,e,q3⟩=>?_) hm
 subst e;cases r3;exact Kg ⟨H3,I3,q3⟩
def kU (r r':R2)(ta tb tc:TE):TE:=λσ H Q=>ta σ H λx H1=>tb σ H1 λy H2=>r x y H2 λz H3=>∃k,z = .bl k /\
 (if k=true then tc σ H3 λw' H4=>r' y w' H4 Q else Q (.bl false) H3)
def rF {op op':CmpOp}{r r':R2}(ho:OpR X (compareOp op) r)(ho':OpR X (compareOp op') r')(ha:PE X a ta)(hb:PE X b tb)(hc:PE X c tc)
  (hm:lastMarks [op,op'] [b,c]=false:=by with_unfolding_all rfl):PT X (.Compare a [op,op'] [b,c] pos) (oq<|kU r r' ta tb tc):=by
 intro OM s σ H Q I h;refine isTrue_chain (thn (ha OM s σ H _ I h) λv s1 ⟨x,H1,I1,r1,q1⟩=>test_link (thn (hb OM s1 σ H1 _ I1 q1) λu s2 ⟨y,H2,I2,r2,q2⟩ =>
  thn (ho OM s2 σ H2 x y v u _ I2 r1 r2 q2) λd s3 ⟨z,H3,I3,r3,k,e,q3⟩=>?_)) hm
 subst e;cases r3;refine Kg ?_;cases k with
 | false =>obtain⟨k',e',q'⟩:=q3;cases e';exact ite_ff ⟨H3,I3,q'⟩
 | true =>refine ite_tt (test_last<|thn (hc OM s3 σ H3 _ I3 q3) λw' s4 ⟨z',H4,I4,r4,q4⟩=>thn (ho' OM s4 σ H4 y z' u w' _ I4 r2 r4 q4) λd' s5 ⟨z2,H5,I5,r5,k2,e2,q5⟩=>?_);subst e2;cases r5;exact Kg ⟨H5,I5,q5⟩
def qE (K:Fg)(x:V)(H:Hp)(k:Bool):Prop :=
 match x with
 | .non=>k=false
 | .bl b=>k=b
 | .int i=>k=(i != 0)
 | .str y=>y.length<=Os/\k=((y.length:Int) != 0)
 | .byt y=>y.size<=Os/\k=((y.size:Int) != 0)
 | .ref p=>(∃xs,SqL K H p xs/\k = !xs.isEmpty)\/(∃xs,SqT K H p xs/\k = !xs.isEmpty)\/∃OQ,H p=some (.dK OQ)/\k = !OQ.isEmpty
 | _=>False
def mM {κ:Type}{OQ:List (κ×V)}{vs:List (κ×Oe)}(r:KV OQ vs):(!vs.isEmpty) = !OQ.isEmpty:=by cases r <;> rfl
def eJ {xs:List V}{its:List Oe}(r:n5 xs its):(!its.toArray.isEmpty) = !xs.isEmpty:=by cases r <;> simp
def Z6 :(Os:Nat)<2 ^ 63:=by rw[Jr];decide
def zZ :CC X (λx H Q=>∃k,qE X.K x H k/\Q k H):=by
 intro OM s σ H x v Q I rx h;obtain⟨k,e,q⟩:=h;have hl:=Z6;have hs:Os=16777216:=Jr;cases x with
 | non =>cases rx;have e':k=false:=e;subst e';exact truthy_none ⟨H,I,q⟩
 | bl b =>cases rx;have e':k=b:=e;subst e';exact Kg ⟨H,I,q⟩
 | int i =>obtain⟨t,rfl⟩:=rx;have e':k=(i != 0):=e;subst e';exact PySem.P.truthy_int ⟨H,I,q⟩
 | str y =>obtain⟨t,rfl⟩:=rx;obtain⟨hy,e'⟩:y.length<=Os/\k=((y.length:Int) != 0):=e;subst e';exact PySem.P.truthy_str (by omega) ⟨H,I.tok _,q⟩
 | byt y =>obtain⟨t,rfl⟩:=rx;obtain⟨hy,e'⟩:y.size<=Os/\k=((y.size:Int) != 0):=e;subst e';exact PySem.W.truthy_bytes (by omega) ⟨H,I.tok _,q⟩
 | ref p =>
  cases rx;have e':(∃xs,SqL X.K H p xs/\k = !xs.isEmpty)\/(∃xs,SqT X.K H p xs/\k = !xs.isEmpty)\/∃OQ,H p=some (.dK OQ)/\k = !OQ.isEmpty:=e;rcases e' with ⟨xs,hx,e'⟩ | ⟨xs,hx,e'⟩ | ⟨OQ,hx,e'⟩
  .subst e';obtain⟨its,r,pl,hz⟩:=I.list hx;have hlen:=r.length;exact wpAny_truthy_list pl.isList (by simp only[IW];omega) ⟨H,I.tok _,by rw[eJ r];exact q⟩
  .subst e';obtain⟨its,r,pl,hz⟩:=I.tuple hx;have hlen:=r.length;exact truthy_tuple pl (by simp only[IW];omega) ⟨H,I.tok _,by rw[eJ r];exact q⟩
  .subst e';obtain⟨hz,hS,vs,r,m⟩:OQ.length<=Os/\(p == sysModules)=false/\∃vs,KV OQ vs/\s.heap.DictOf (jj X.prog X.w) p vs:=I.hok p _ hx;have hlen:OQ.length=vs.length:=NG r;exact wpAny_truthy_dict hS m (by omega) ⟨H,I.tok _,by rw[mM r];exact q⟩
 | _=>exact(show False from e).elim
def rL (ha:PE X a ta)(he:∀whole,isTrue a X.env whole=(do let v <-whole;standAt a.pos;holding [v] (truthy v))) :
  PT X a (λσ H Q=>ta σ H λx H'=>∃k,qE X.K x H' k/\Q k H'):=by intro OM s σ H Q I h;exact isTrue_plain (thn (ha OM s σ H _ I h) λv s1 ⟨x,H1,I1,r1,q1⟩=>zZ OM s1 σ H1 x v Q I1 r1 q1)<|he _
def lE :OpR X (binaryOp .Add) (λx y H Q=>∃i j,x = .str i/\y = .str j/\i.length+j.length<=Os/\Q (.str<|i++j) H):=by intro OM s σ H x y v u Q I rx ry h;obtain⟨i,j,rfl,rfl,hz,q⟩:=h;obtain⟨t,rfl⟩:=rx;obtain⟨t',rfl⟩:=ry;exact add_str (λt' tk=>⟨.str<|i++j,H,I.tok _,⟨_,rfl⟩,q⟩) hz
def L8 {x:V}{us:List Oe}(r:n5 [x] us):∃u,us=[u]/\u0 x u:=by
 cases r with
 | cons r1 r2=>cases r2;exact⟨_,rfl,r1⟩
def sT {x y:V}{us:List Oe}(r:n5 [x,y] us):∃u w',us=[u,w']/\u0 x u/\u0 y w':=by
 cases r with
 | cons r1 r2 =>
  cases r2 with
  | cons r3 r4=>cases r4;exact⟨_,_,rfl,r1,r3⟩
def uo :A3 X (.builtin "abs") (λxs H Q=>∃i,xs=[.int i]/\Q (.int<|if i<0 then -i else i) H):=by intro OM s σ H xs us Q I r h;obtain⟨i,rfl,q⟩:=h;obtain⟨u,rfl,t,rfl⟩:=L8 r;exact call_abs_int λu tk=>⟨.int (if i<0 then -i else i),H,I.tok _,⟨_,rfl⟩,q⟩
def qi (hc:X.calm=true):A3 X (.builtin "min") (λxs H Q=>∃i j,xs=[.int i,.int j]/\Q (.int<|if j<i then j else i) H):=by
 walk_at "kg";obtain⟨i,j,rfl,q⟩:=h;obtain⟨u,w',rfl,⟨t,rfl⟩,⟨t',rfl⟩⟩:=sT r;refine min_two_ints (I.ok.hd hc) λh' tk k=>⟨_,H,I.kept k,?_,q⟩
 by_cases hj:j<i
 .rw[IE hj,IE hj];exact⟨_,rfl⟩
 .rw[II hj,II hj];exact⟨_,rfl⟩
def gx :A3 X (.type "int") (λxs H Q=>(∃i,xs=[.int i]/\Q (.int i) H)\/∃k,xs=[.bl k]/\Q (.int<|if k then 1 else 0) H):=by
 walk_at "kg";rcases h with ⟨i,rfl,q⟩ | ⟨k,rfl,q⟩
 .obtain⟨u,rfl,t,rfl⟩:=L8 r;exact call_int_int ⟨.int i,H,I,⟨_,rfl⟩,q⟩
 .obtain⟨u,rfl,r1⟩:=L8 r;cases r1;exact call_int_bool ⟨.int (if k then 1 else 0),H,I.tok _,⟨_,rfl⟩,q⟩
end
end
variable {C dx:Of}{mA:Str->Option Oe}
section
structure ObjM (h:Oq) (x dx C:Of) (mA:Str->Option Oe):Prop where
 obj:h.get? x=some (PySem.W.instObj C dx)
 ns:h.Ns1 dx mA
 ne:dx≠x
def gQ {h:Oq}(n:h.Ns1 dx mA):∃od,h.get? dx=some od/\∀name,PySem.W.lookIn name od=some (mA name):=by
 obtain⟨o,es,ep,ho,hd,hk,_,hm⟩:=n;refine⟨o,ho,λname=>?_⟩;have e:=hm name;unfold nsFind findBy at e;rw[<-Array.find?_toList]at e;unfold PySem.W.lookIn;rw[hd];dsimp only;split
 .rename_i y q;rw[q]at e;exact JX some e
 .rename_i q;rw[q]at e;have a:es.toList.any (·.refKey)=false:=by rw[List.any_eq_false];intro y hy;obtain⟨z,t,hkey⟩:=hk y<|Array.mem_toList_iff.1 hy;simp[DictEntry.refKey,hkey]
  have a':¬es.toList.any (·.refKey)=true:=by rw[a];exact IZ
  rw[II a'];exact JX some e
def ObjM.look {h:Oq}{x:Of}(I:ObjM h x dx C mA):∃od,PySem.W.InstAt h x (PySem.W.instObj C dx) C (some od)/\∀name,PySem.W.lookIn name od=some (mA name) :=
 let ⟨od,ho,hl⟩:=gQ I.ns
 ⟨od,⟨I.obj,rfl,rfl,ho⟩,hl⟩
section
variable {prog:Oh}{w:Oi}{A:Oj}{E:Oe->Og->Prop}{s:Og}{K:Fg}{x f:Of}{name:Str}{v:Oe}
end
def ik.some_of {v:V}{o:Option Oe}(r:ik (some v) o):∃u,o=some u/\u0 v u:=by
 cases o with
 | none=>exact(show False from r).elim
 | some u=>exact⟨u,rfl,r⟩
section
variable {P:Oh}{w:Oi}{H H':Hp}{h:Oq}{a:Of}{fs fs':List (Str×V)}
def we (hok:HOk P w H h)(e:H a=some (.ins C dx fs)):∃mA,ObjM h a dx C mA/\(∀f,ik (fs.lookup f)<|mA f)/\PySem.Within mA (fs.map (·.1))/\fs.length<=1000/\H dx=some (.own a):=by obtain⟨d,z,ne,ob,mA,n,r,q⟩:=(show D1 P w H h a (.ins C dx fs) from hok a _ e);exact⟨mA,⟨ob,n,ne⟩,r,q,z,d⟩
end
structure Cls (K:Fg) (C:Of):Prop where
 pg:PySem.W.plainGet K C Str.empty=true
 hd:PySem.W.hasDictIn K C=true
 po:PySem.W.plainOver K C=true
 sa:PySem.W.findIn K (.ref C) "__setattr__" = some (some<|.builtin "object.__setattr__")
def Cls.get {K:Fg}(c:Cls K C)(f:Str):PySem.W.plainGet K C f=true:=c.pg
section
variable {X:Cx}{σ:St}{H:Hp}{s:Og}{a:Of}{fs:List (Str×V)}{f:Str}{v:V}{A:Oj}{E:Oe->Og->Prop}
def vi {prog:Oh}{w:Oi}{env:Ov}{e:Oo}{f:Str}{s:Og}{Q:Oe->Og->Prop}(hb:OC e f env (eval e env)=eval e env)
  (h:Oz (model prog w) A (eval e env) (λo s₁=>Oz (model prog w) A (getAttr o f true) Q E s₁) E s):Oz (model prog w) A (eval (.Attribute e f pos) env) Q E s :=
 Attribute_any_ h (by rw[arm_eval_Attribute,hb])
end
section
variable {X:Cx}{o e value:Oo}{f:Str}{pos' tpos:Pos}{tv:TE}
end
section
variable {X:Cx}{σ:St}{H:Hp}{s:Og}{A:Oj}{E:Oe->Og->Prop}{Q:Oe->Og->Prop}{c:Oe}{b:Bool}
inductive TyOf (K:Fg) (H:Hp):V->Oe->Prop where
 | non:TyOf K H .non (.type "NoneType")
 | bl (x:Bool):TyOf K H (.bl x) (.type "bool")
 | int (i:Int):TyOf K H (.int i) (.type "int")
 | str (x:Str):TyOf K H (.str x) (.type "str")
 | flt (x:UInt64):TyOf K H (.flt x) (.type "float")
 | lst {a:Of} {xs:List V} (e:H a=some (.lst xs)):TyOf K H (.ref a) (.type "list")
 | frz {a:Of} {o:Ou} {xs:List V} (e:H a=some (.frz o<|.lst xs)):TyOf K H (.ref a) (.type "list")
 | tup {a:Of} {xs:List V} (e:H a=some (.tup xs)):TyOf K H (.ref a) (.type "tuple")
 | dK {a:Of} {OQ:List (Key×V)} (e:H a=some (.dK OQ)):TyOf K H (.ref a) (.type "dict")
 | dT {a:Of} {OQ:List (List Key×V)} (e:H a=some (.dT OQ)):TyOf K H (.ref a) (.type "dict")
 | ins {a C dx:Of} {fs:List (Str×V)} (e:H a=some (.ins C dx fs)) (cl:Cls K C) (ha:PySem.W.findIn K (.ref C) "__class__" = some (some<|.builtin "object.__class__"))
   (hn:PySem.W.specialIn K (.builtin "object.__class__") "__get__" = some (some<|.builtin "getset_descriptor.__get__")) (htk:PySem.W.takesIn K (.builtin "object.__class__")=some true)
   (hm:PySem.W.mroIn K C (.type "object")=some true):TyOf K H (.ref a) (.ref C)
def af {x:V}{u t:Oe}(I:Inv X OM σ H s)(rx:u0 x u)(ty:TyOf X.K H x t)(e:PySem.W.kitOne X.K t c=some b)(h:∀tk,Q (.bool b) { s with toks:=tk }) :
  Oz (model X.prog X.w) A (call (.builtin "isinstance") [u,c]) Q E s:=by
 cases ty with
 | non=>cases(show u=Oe.none from rx);exact JR PySem.W.kitx_none I.kIn True.intro e (λz=>nomatch z) h
 | bl y=>cases(show u=Oe.bool y from rx);exact JR PySem.W.kitx_bool I.kIn True.intro e (λz=>nomatch z) h
 | int i=>obtain⟨t,q⟩:=(show ∃t,u=Oe.int i t from rx);cases q;exact JR PySem.W.kitx_int I.kIn True.intro e (λz=>nomatch z) h
 | str y=>obtain⟨t,q⟩:=(show ∃t,u=Oe.str y t from rx);cases q;exact JR PySem.W.kitx_str I.kIn True.intro e (λz=>nomatch z) h
 | flt y=>obtain⟨t,q⟩:=(show ∃t,u=Oe.float y t from rx);cases q;exact JR PySem.W.kitx_float I.kIn True.intro e (λz=>nomatch z) h
 | @lst a xs ea =>cases(show u=Oe.ref a from rx);obtain⟨_,_,n,_,h1⟩:=(show D1 X.prog X.w H s.heap a (.lst xs) from I.hok a _ ea);exact JR NK I.kIn ⟨_,h1,rfl⟩ e (λz=>nomatch z) h
 | @frz a ob xs ea =>cases(show u=Oe.ref a from rx);obtain⟨_,_,_,n,_,h1⟩:=(show D1 X.prog X.w H s.heap a (.frz ob<|.lst xs) from I.hok a _ ea);exact JR NK I.kIn ⟨_,h1,rfl⟩ e (λz=>nomatch z) h
 | @tup a xs ea =>cases(show u=Oe.ref a from rx);obtain⟨_,_,_,p⟩:=(show D1 X.prog X.w H s.heap a (.tup xs) from I.hok a _ ea);obtain⟨o,h1,h2,_⟩:=p;exact JR PySem.W.kitx_tuple I.kIn ⟨o,h1,h2⟩ e (λz=>nomatch z) h
 | @dK a OQ ea =>cases(show u=Oe.ref a from rx);obtain⟨_,_,vs,_,p⟩:=(show D1 X.prog X.w H s.heap a (.dK OQ) from I.hok a _ ea);obtain⟨o,es,ep,h1,h2,_⟩:=p;exact JR PySem.W.kitx_dict I.kIn ⟨o,h1,h2.1⟩ e (λz=>nomatch z) h
 | @dT a OQ ea =>cases(show u=Oe.ref a from rx);obtain⟨_,_,xs,_,o,es,ep,h1,h2,_⟩:=(show D1 X.prog X.w H s.heap a (.dT OQ) from I.hok a _ ea);exact JR PySem.W.kitx_dict I.kIn ⟨o,h1,h2.1⟩ e (λz=>nomatch z) h
 | @ins a C dx fs ea cl ha hn htk hm =>cases(show u=Oe.ref a from rx);obtain⟨mA,O,_⟩:=we I.hok ea;obtain⟨od,J,_⟩:=O.look;exact JR (PySem.W.kitx_own (cl.get _) cl.hd ha hn htk hm) I.kIn J e (λz=>nomatch z) h
end
end
variable {kindOf:Str->Option OI}
section
structure Room (k:Nat) (A:Oj):Prop where
 hd:A.handled=none
 dp:A.depth+3*k+5<recursionLimit
 un:A.units+16*k+200<OG
 gd:A.guards=some []
def Room.mono {j k:Nat}{A:Oj}(r:Room k A)(h:j<=k):Room j A:=⟨r.hd,by have:=r.dp;omega,by have:=r.un;omega,r.gd⟩
def Room.deeper {k:Nat}{A:Oj}(r:Room (k+1) A)(env:Ov):Room k (A.deeper env) :=
 ⟨r.hd,by have:=r.dp;show A.depth+1+3*k+5<_;omega,by have:=r.un;show A.units+3+16*k+200<_;omega,r.gd⟩
def kO {A:Oj}{us:List Oe}{kw:List (Str×Oe)}:(A.under<|.builtin "type.__call__" ⟨.ref C::us,kw⟩).depth=A.depth+1:=by first | rfl | simp[Oj.under,Code.weight,Code.isCreation,Code.isGuard,Code.isCaller,Code.frames,Code.isFrame,guardIds]
def lP {A:Oj}{us:List Oe}{kw:List (Str×Oe)}:(A.under<|.builtin "type.__call__" ⟨.ref C::us,kw⟩).units=A.units+1:=by first | rfl | simp[Oj.under,Code.cUnits,Code.frames,Code.isFrame]
def jT {A:Oj}{us:List Oe}{kw:List (Str×Oe)}(h:A.guards=some []):(A.under<|.builtin "type.__call__" ⟨.ref C::us,kw⟩).guards=some []:=by first | exact h | simp[Oj.under,Code.guards,Code.isGuard,guardIds,h]
def Room.make {k:Nat}{A:Oj}(r:Room (k+1) A)(C:Of)(us:List Oe)(kw:List (Str×Oe)):Room k (A.under<|.builtin "type.__call__" ⟨.ref C::us,kw⟩) :=
 ⟨r.hd,by have:=r.dp;rw[kO];omega,by have:=r.un;rw[lP];omega,jT r.gd⟩
def Room.depth {k:Nat}{A:Oj}(r:Room k A):A.depth<recursionLimit:=by have:=r.dp;omega
def Room.units {k:Nat}{A:Oj}(r:Room k A):A.units+64<OG:=by have:=r.un;omega
def P1 :TA:=λ_ H Q=>Q [] H
def z8 (ta:TE)(tr:TA):TA:=λσ H Q=>ta σ H λx H1=>tr σ H1 λxs H2=>Q (x::xs) H2
section
variable {X:Cx}{e:Oo}{t:TA}
def A8 :PA X [] P1:=λ_ _ _ _ H Q I h=>Calls.spliced_nil ⟨[],H,I,.nil,h⟩
def l8 (ha:PE X e te)(hr:PA X es t)(hs:Ot (e::es) X.env=(false,eval e X.env)::Ot es X.env:=by rfl):PA X (e::es) (z8 te t):=by intro pos OM s σ H Q I h;rw[hs];show Oz _ _ (spliced ((false,eval e X.env)::Ox pos (Ot es X.env))) _ _ s;refine Calls.spliced_cons (thn (ha OM s σ H _ I h) λu s1 ⟨x,H1,I1,r1,q1⟩=>?_);exact thn (hr pos OM s1 σ H1 _ I1 q1) λus s2 ⟨xs,H2,I2,r2,q2⟩=>⟨x::xs,H2,I2,.cons r1 r2,q2⟩
def mK (t:TA):TE:=λσ H Q=>t σ H λxs H1=>xs.length<=Os/\∀p,H1 p=none->Q (.ref p) (upd H1 p<|.tup xs)
def vK (t:TA):TE:=λσ H Q=>t σ H λxs H1=>xs.length<=Os/\∀p,H1 p=none->Q (.ref p) (upd H1 p<|.lst xs)
def eD {x1}(h:PA X es t):PE X (.Tuple es x1 pos) (mK t):=by intro OM s σ H Q I hq;refine wpAny_Tuple_spliced (thn (h pos OM s σ H _ I hq) λus s1 ⟨xs,H1,I1,r,z,q⟩=>⟨by rw[<-r.length];exact z,?_⟩);have hf:H1 s1.heap.objs.size=none:=I1.hok.fresh<|IT _;refine⟨.ref s1.heap.objs.size,upd H1 s1.heap.objs.size<|.tup xs,I1.laid (t':=s1.toks) (λb u e=>ID _ e) (IT _) ?_,rfl,q _ hf⟩;exact⟨z,us,r,⟨_,Jc _ rfl,rfl,_,rfl⟩⟩
def jl (h:PA X es t):PE X (.List es pos) (vK t):=by intro OM s σ H Q I hq;refine wpAny_List_spliced (thn (h pos OM s σ H _ I hq) λus s1 ⟨xs,H1,I1,r,z,q⟩=>⟨by rw[<-r.length];exact z,?_⟩);have hf:H1 s1.heap.objs.size=none:=I1.hok.fresh<|IT _;refine⟨.ref s1.heap.objs.size,upd H1 s1.heap.objs.size<|.lst xs,I1.laid (t':=s1.toks) (λb u e=>ID _ e) (IT _) ?_,rfl,q _ hf⟩;exact⟨z,us,0,r,Jc _ rfl⟩
end
abbrev Sp :=List V->Hp->VK->XK->Prop
abbrev CXT :=List Ov->Hp->Og->XK->Oe->Og->Prop
structure Env0 (P:Oh) (w:Oi) (K:Fg) (mg:Str->Option Oe) (base:Oq) (A:Oj) (outer:List Ov) (s:Og) (H:Hp):Prop where
 frames:A.frames=some outer
 mod:Mod K mg base
 bs:∀b o,base.get? b=some o->s.heap.get? b=some o/\H b=none
 bsz:base.objs.size<=s.heap.objs.size
 funs:s.heap.FunFrames base outer
 frf:∀b∈frs outer,H b=none
 hok:HOk P w H s.heap
 bare:AllBare s.gens
def CE (outer:List Ov)(P:Oh)(w:Oi)(H:Hp)(s:Og)(Q:VK)(u:Oe)(s':Og):Prop :=
 ∃v H',s'.os=s.os/\AllBare s'.gens/\Un (frs outer) [] H H' s.heap s'.heap/\HOk P w H' s'.heap/\u0 v u/\Q v H'
def CR (CX:CXT)(outer:List Ov)(P:Oh)(w:Oi)(H:Hp)(s:Og)(Q:VK)(E:XK)(r:Result)(s':Og):Prop :=
 match r with
 | .ok (.ret u)=>CE outer P w H s Q u s'
 | .ok _=>False
 | .error e=>CX outer H s E e s'
structure FnOk (P:Oh) (w:Oi) (K:Fg) (mg:Str->Option Oe) (base:Oq) (CX:CXT) (k:Nat) (f:Of) (fd:Om) (ps:List Str) (sp:Sp):Prop where
 len:∀vs H Q E,sp vs H Q E->vs.length=ps.length
 run:∀(A:Oj) (outer:List Ov) (s:Og) (H:Hp) (args:Args) (us:List Oe) (vs:List V) (Q:VK) (E:XK),Room k A->Env0 P w K mg base A outer s H->BindsTo s fd args (ps.zip us)->n5 vs us->sp vs H Q E ->
  codeAny (model P w) A (.call (.ref f) args) (CR CX outer P w H s Q E) s
section
variable {X:Cx}{σ:St}{H:Hp}{s s':Og}
def Inv.env0 (I:Inv X OM σ H s):Env0 X.prog X.w X.K X.mg X.base X.A X.stack s H :=
 ⟨I.ok.frames,I.ok.mod,I.bs,IV I.ok.bsz I.sz,I.stack,I.stkFree,I.hok,I.bare⟩
def Inv.after {Q:VK}{u:Oe}(I:Inv X OM σ H s)(h:CE X.stack X.prog X.w H s Q u s'):EP X OM σ Q u s':=by obtain⟨v,H',os,bare,un,hok,r,q⟩:=h;obtain⟨hh,g,d,t,os'⟩:=s';obtain rfl:os'=s.os:=os;exact⟨v,H',I.call (h':=hh) (g':=g) (d':=d) (t':=t) (ch:=[]) un hok bare<|λb z=>absurd z<|by simp,r,q⟩
end
def bJ (sp:Sp)(dvs:List V)(E:XK)(t:TA):TE:=λσ H Q=>t σ H λvs H1=>sp (vs++dvs) H1 Q E
def bG (K:Fg)(fd:Om)(ps:List Str)(ds:List Oe):Prop :=
 ∀(s:Og) (us:List Oe),K.In s.heap->(us++ds).length=ps.length->BindsTo s fd ⟨us,[]⟩ (ps.zip<|us++ds)
def bG.all {K:Fg}{fd:Om}{ps:List Str}(h:∀us:List Oe,us.length=ps.length->bindArgs fd ⟨us,[]⟩=pure (ps.zip us)):bG K fd ps []:=λs us _ hl=>by rw[Kb]at hl ⊢;exact .of_eq<|h us hl
def mX (CX:CXT)(X:Cx)(E:XK):Prop:=∀(OM:List (Of×Ou)) (σ:St) (H:Hp) (s:Og) (e:Oe) (s':Og),Inv X OM σ H s->CX X.stack H s E e s'->X.xe e s'
section
variable {X:Cx}{CX:CXT}{k:Nat}{f:Of}{fd:Om}{ps:List Str}{sp:Sp}{dvs:List V}{ds:List Oe}{E:XK}{x m:Str}{p apos:Pos}{e o:Oo}{t:TA}
def zx {σ:St}{H:Hp}{s:Og}{Q:VK}{us:List Oe}{vs:List V}(F:FnOk X.prog X.w X.K X.mg X.base CX k f fd ps sp)(hr:Room k X.A)(hb:bG X.K fd ps ds)(hd:n5 dvs ds)(hx:mX CX X E)
  (I:Inv X OM σ H s) (r:n5 vs us) (h:sp (vs++dvs) H Q E):Oz (model X.prog X.w) X.A (call (.ref f) us) (EP X OM σ Q) X.xe s:=by
 have r2:n5 (vs++dvs) (us++ds):=r.append hd;have hl:(us++ds).length=ps.length:=by rw[<-r2.length];exact F.len _ _ _ _ h
 refine LF (Nd (F.run X.A X.stack s H ⟨us,[]⟩ (us++ds) (vs++dvs) Q E hr I.env0 (hb s us I.kIn hl) r2 h) λr s' hq=>?_);cases r with
 | error e=>exact hx OM σ H s e s' I hq
 | ok fl =>
  cases fl with
  | ret u=>exact I.after hq
  | next=>exact False.elim hq
  | brk=>exact False.elim hq
  | cont=>exact False.elim hq
def xb (F:FnOk X.prog X.w X.K X.mg X.base CX k f fd ps sp)(hr:Room k X.A)(hg:Gl X x)(hm:X.mg x=some (.ref f))(hk:PySem.W.keepIn X.K (.ref f)=true)(hb:bG X.K fd ps ds)(hd:n5 dvs ds)(hx:mX CX X E)
  (ha:PA X (e::es) t) (hdb:(x == ("__debug__":Str))=false:=by decide) (he:Ot (e::es) X.env=(false,eval e X.env)::Ot es X.env:=by rfl) (hpl:(Ox pos<|Ot es X.env).any (·.1)=false:=by rfl) :
  PE X (.Call (.Name x p) (e::es) [] pos) (bJ sp dvs E t):=by intro OM s σ H Q I h;refine Ld<|bo I hg hm ?_ hdb;refine PySem.W.callWith_K (h₀:=X.base) I.ok.mod.kin hk (thn (ha pos OM s σ H _ I h) λus s1 ⟨vs,H1,I1,r,q⟩=>⟨I1.kIn,?_⟩) he hpl;exact zx F hr hb hd hx I1 r q
end
section
variable {X:Cx}{CX:CXT}{k:Nat}{f:Of}{fd:Om}{ps ks:List Str}{sp:Sp}{E:XK}{x m:Str}{p apos kpos:Pos}{e o:Oo}{kws:List Oy}{t tk:TA}{nm:Option Str}
variable {g:List Oe->List Oe->List Oe}{gV:List V->List V->List V}
end
structure FnScope (N P:List Str) (sc:Ol):Prop where
 kind:sc.kind = .function:=by rfl
 co:sc.isCoroutine=false:=by rfl
 gen:sc.isGenerator=false:=by rfl
 nd:N.Nodup:=by decide +kernel
 pre:N.take P.length=P:=by rfl
 par:∀x∈P,sc.names.lookup x=some .local\/sc.names.lookup x=some .cell:=by decide +kernel
 nofree:∀y∈sc.names,y.2 ≠ .free:=by decide +kernel
theorem gA {kindOf:Str->Option OI}{x:Str}:∀{binds:List (Str×Oe)} {m:Str->Option Oe},(∀v,(x,v) ∉ binds)->bindL kindOf binds m x=m x
 | [],_,_=>rfl
 | (n,v)::r,m,h=>by
  unfold bindL;rw[gA λw hw=>h w<|IA _ hw];split
  .have:x≠n:=by rintro rfl;exact h v IG
   simp[this]
  .rfl
theorem gB {kindOf:Str->Option OI}{x:Str}:∀{binds:List (Str×Oe)} {m:Str->Option Oe},(∀v,(x,v) ∉ binds)->bindC kindOf binds m x=m x
 | [],_,_=>rfl
 | (n,v)::r,m,h=>by
  unfold bindC;rw[gB λw hw=>h w<|IA _ hw];split
  .rfl
  .have:x≠n:=by rintro rfl;exact h v IG
   simp[this]
def cu {x:Str}{v:Oe}:∀{P:List Str} {vs:List Oe} {i:Nat} {m:Str->Option Oe},P.Nodup->P[i]? = some x->vs[i]? = some v->kindOf x=some .local ->
  bindL kindOf (P.zip vs) m x=some v
 | [],_,_,_,_,h,_,_=>by simp at h
 | _::_,[],_,_,_,_,h,_=>by simp at h
 | p::P,w::vs,0,m,nd,h1,h2,hk=>by
  simp at h1 h2;subst h1;subst h2;show bindL kindOf ((p,w)::P.zip vs) m p=_;unfold bindL;rw[gA λv hv=>(Lk.1 nd).1 (Nf hv).1,IE hk];simp
 | p::P,w::vs,i+1,m,nd,h1,h2,hk=>by show bindL kindOf ((p,w)::P.zip vs) m x=_;unfold bindL;exact cu (i:=i) (Lk.1 nd).2 (by simpa using h1) (by simpa using h2) hk
def gX {x:Str}{v:Oe}:∀{P:List Str} {vs:List Oe} {i:Nat} {m:Str->Option Oe},P.Nodup->P[i]? = some x->vs[i]? = some v->kindOf x≠some .local ->
  bindC kindOf (P.zip vs) m x=some v
 | [],_,_,_,_,h,_,_=>by simp at h
 | _::_,[],_,_,_,_,h,_=>by simp at h
 | p::P,w::vs,0,m,nd,h1,h2,hk=>by
  simp at h1 h2;subst h1;subst h2;show bindC kindOf ((p,w)::P.zip vs) m p=_;unfold bindC;rw[gB λv hv=>(Lk.1 nd).1 (Nf hv).1,II hk];simp
 | p::P,w::vs,i+1,m,nd,h1,h2,hk=>by show bindC kindOf ((p,w)::P.zip vs) m x=_;unfold bindC;exact gX (i:=i) (Lk.1 nd).2 (by simpa using h1) (by simpa using h2) hk
def S5 (N:List Str)(vs:List V):St:=vs.map some++List.replicate (N.length-vs.length) none
def O1 (CX:CXT)(P:Oh)(w:Oi)(K:Fg)(mg:Str->Option Oe)(base:Oq)(N:List Str)(qual:Str)(scope:Ol)(f:Of)(cd:Oe)(A:Oj)(outer:List Ov)(s:Og)(H:Hp)(E:XK):Cx where
 prog:=P
 w:=w
 K:=K
 mg:=mg
 base:=base
 A:=A.deeper<|envOfC qual scope s.heap.objs.size f cd
 N:=N
 s₀:=s
 H₀:=H
 env:=envOfC qual scope s.heap.objs.size f cd
 outer:=outer
 stack:=envOfC qual scope s.heap.objs.size f cd::outer
 ex:=[]
 calm:=true
 fn:=λ_=>true
 pn:=[]
 xe:=λe s'=>Oz (model P w) (A.deeper<|envOfC qual scope s.heap.objs.size f cd) (leaving (envOfC qual scope s.heap.objs.size f cd) e) (λ_ s''=>CX outer H s E e s'') (λe' s''=>CX outer H s E e' s'') s'
def kB {sc:Ol}{n:Nat}{x:Str}(h:sc.names.lookup x=some .cell):∃c,(cellsFrom n sc.names []).lookup x=some c:=by have q:=LJ sc.names n []<|.inl h;exact JS.1 q
def qf {CX:CXT}{P:Oh}{w:Oi}{K:Fg}{mg:Str->Option Oe}{base:Oq}{N ps:List Str}{qual:Str}{scope:Ol}{f:Of}{cd:Oe}{A:Oj}{outer:List Ov}{s s1:Og}{H:Hp}{E:XK}{us:List Oe}{vs:List V}
  (S:FnScope N ps scope) (hd:A.handled=none) (e0:Env0 P w K mg base A outer s H) (hl:vs.length=ps.length) (r:n5 vs us)
  (x:InCallC s s.heap.objs.size (bindL (envOfC qual scope s.heap.objs.size f cd).kindOf (ps.zip us) λ_=>none) (cellsFrom (s.heap.objs.size+1) scope.names []) (bindC (envOfC qual scope s.heap.objs.size f cd).kindOf (ps.zip us) λ_=>none) s1) :
  Inv (O1 CX P w K mg base N qual scope f cd A outer s H E) [] (S5 N vs) H s1:=by
 have hpl:ps.length<=N.length:=by have:=JX List.length S.pre;rw[MU]at this;omega
 obtain⟨h1,tk,rfl,hk⟩:=x.done;have noA:∀b:Of,b ∉ (O1 CX P w K mg base N qual scope f cd A outer s H E).ex:=λb z=>absurd (show b∈([]:List Of) from z) (by simp)
 refine⟨⟨e0.mod,S.kind,rfl,rfl,IT _,λy z c h1 h2=>?_,λy hy=>?_,λy c _ h=>?_,λ_=>hd,Oj.frames_deeper e0.frames,.inr ⟨rfl,rfl⟩,λb z=>absurd z<|noA b,e0.bs,e0.bsz,λb _ _=>noA b,λb z=>absurd z<|noA b,e0.funs,e0.frf⟩,
  rfl,e0.bare,Un.kept hk,⟨_,x.toInCall.ns,λi y v h1 h2 h3=>?_⟩,λy c h=>⟨_,x.cell y c h⟩,e0.hok.fresh<|IT _,λy c h=>?_,λp hp=>absurd (show p∈([]:List (Of×Ou)) from hp) (by simp),e0.hok.kept hk,?_⟩
 .exact name_of_addr x.apart (JK h1)<|JK h2
 .have hy:scope.names.lookup y=some .cell\/scope.names.lookup y=some .free:=hy;rcases hy with hy | hy
  .exact kB hy
  .exact absurd rfl<|S.nofree _<|JK hy
 .exact Ka<|x.above y c<|JK h
 .have hi:i<vs.length:=by
   unfold S5 at h2;by_cases hi:i<vs.length
   .exact hi
   .rw[Km<|by simpa using hi]at h2;rw[JO]at h2;split at h2 <;> cases h2
  have ha:vs[i]? = some v:=by
   unfold S5 at h2;rw[Ks (by simpa using hi),IU]at h2;cases e:vs[i]? with
   | none=>rw[e]at h2;cases h2
   | some a=>rw[e]at h2;cases h2;rfl
  obtain⟨u,hu,rv⟩:=r.get ha;have hp:ps[i]? = some y:=by rw[<-S.pre,List.getElem?_take_of_lt<|by omega];exact h1
  have ndP:ps.Nodup:=by rw[<-S.pre];exact S.nd.sublist<|List.take_sublist _ _
  refine⟨u,rv,?_⟩;rcases S.par y (Ju hp) with k | k
  .exact .inl ⟨k,cu ndP hp hu k⟩
  .obtain⟨c,e⟩:=kB (n:=s.heap.objs.size+1) k;refine .inr ⟨.inl k,c,e,?_⟩;have q:=x.cell y c e;rw[gX ndP hp hu (by show scope.names.lookup y≠_;rw[k];decide)]at q;exact q
 .exact e0.hok.fresh<|Ka<|x.above y c<|JK h
 .unfold S5;show _=N.length;rw[JJ,Iz,KI];omega
def xD {CX:CXT}{P:Oh}{w:Oi}{K:Fg}{mg:Str->Option Oe}{base:Oq}{k:Nat}{f:Of}{name qual:Str}{params:Arguments}{scope:Ol}{dV kV doc pm OP ct oc:Oe}{an od:Option Of}
  {osl:Array (Option Oe)} {N ps:List Str} {sp:Sp} (lk:K.lookup f=some ⟨oc,od,.func<|PySem.W.fnOf name qual params body scope dV kV doc pm an OP ct,osl⟩) (hcd:PySem.W.codeIn K OP qual=true) (S:FnScope N ps scope)
  (len:∀vs H Q E,sp vs H Q E->vs.length=ps.length)
  (hbody:∀(A:Oj) (outer:List Ov) (s:Og) (H:Hp) (vs:List V) (Q:VK) (E:XK),Room k (A.deeper<|envOfC qual scope s.heap.objs.size f OP)->sp vs H Q E ->
   ∃t,PSs (O1 CX P w K mg base N qual scope f OP A outer s H E) body t/\t { nx:=λ_ H'=>Q .non H',rt:=Q } (S5 N vs) H) :
  FnOk P w K mg base CX (k+1) f (PySem.W.fnOf name qual params body scope dV kV doc pm an OP ct) ps sp:=by
 refine⟨len,λA outer s H args us vs Q E hr e0 hb r hsp=>?_⟩;have hl:=len _ _ _ _ hsp;have KX:K.In s.heap:=e0.mod.kin.keeps λb o e=>(e0.bs b o e).1
 have lim:s.heap.NoLimit:=e0.mod.nolimit.keeps λb o e=>(e0.bs b o e).1
 have hkind:∀y∈ps.zip us,scope.names.lookup y.1=some .local\/(scope.names.lookup y.1=some .cell/\((cellsFrom (s.heap.objs.size+1) scope.names []).lookup y.1).isSome=true):=λ⟨n,v⟩ hy=>by
  rcases S.par n (Nf hy).1 with q | q
  .exact .inl q
  .exact .inr ⟨q,LJ _ _ _<|.inl q⟩
 refine codeAny_call_function hr.depth (KX _ _ lk) rfl S.co S.gen rfl (PySem.W.codeRec_of KX hcd)<|hb _ _ _ _ ?_;refine wpAny_newFunctionEnv_cells S.kind hkind λenv he s1 x=>?_
 subst he;refine⟨lim.keeps x.toInCall.keep,codeAny_func ?_⟩;obtain⟨t,ht,hq⟩:=hbody A outer s H vs Q E (hr.deeper _) hsp;have I:Inv (O1 CX P w K mg base N qual scope f OP A outer s H E) [] (S5 N vs) H s1:=qf S hr.hd e0 hl r x;refine Jh (ht [] s1 (S5 N vs) H _ I hq) (λfl s' hs=>?_) λe s' hs=>hs
 have fin:∀{O':St} {H':Hp} {v:V} {u:Oe},Inv (O1 CX P w K mg base N qual scope f OP A outer s H E) [] O' H' s'->u0 v u->Q v H'->CE outer P w H s Q u s' :=
  λ{O' H' v u} J rv q=>⟨v,H',J.os,J.bare,J.base,J.hok,rv,q⟩
 cases fl with
 | ret u =>obtain⟨v,O',H',J,rv,q⟩:=hs;exact fin J rv q
 | next =>obtain⟨O',H',J,q⟩:=hs;exact fin (v:=V.non) (u:=Oe.none) J rfl q
 | brk =>obtain⟨_,_,_,q⟩:=hs;exact False.elim q
 | cont =>obtain⟨_,_,_,q⟩:=hs;exact False.elim q
end
section
section
variable {X:Cx}{x:Str}{p:Pos}{e:Oo}{t:TA}{id T:String}{r:List V->Hp->VK->Prop}
def tCB (r:List V->Hp->VK->Prop)(t:TA):TE:=λσ H Q=>t σ H λvs H1=>r vs H1 Q
def L7 (hc:A3 X (.builtin id) r)(hg:Gl X x)(hm:X.mg x=none)(hv:OD x=some (.builtin id))(ha:PA X (e::es) t)(hn:x ≠ "__name__":=by decide)(hdb:(x == ("__debug__":Str))=false:=by decide)
  (he:Ot (e::es) X.env=(false,eval e X.env)::Ot es X.env:=by rfl) (hpl:(Ox pos<|Ot es X.env).any (·.1)=false:=by rfl):PE X (.Call (.Name x p) (e::es) [] pos) (tCB r t):=by intro OM s σ H Q I h;refine Ld<|aT I hg hm hv ?_ hn hdb;exact PyProof.Rows.callWith_builtin1 (thn (ha pos OM s σ H _ I h) λus s1 ⟨vs,H1,I1,r1,q1⟩=>hc OM s1 σ H1 vs us Q I1 r1 q1) he hpl
def gG (hc:A3 X (.type T) r)(hg:Gl X x)(hm:X.mg x=none)(hv:OD x=some (.type T))(ha:PA X (e::es) t)(hn:x ≠ "__name__":=by decide)(hdb:(x == ("__debug__":Str))=false:=by decide)
  (he:Ot (e::es) X.env=(false,eval e X.env)::Ot es X.env:=by rfl) (hpl:(Ox pos<|Ot es X.env).any (·.1)=false:=by rfl):PE X (.Call (.Name x p) (e::es) [] pos) (tCB r t):=by intro OM s σ H Q I h;refine Ld<|aT I hg hm hv ?_ hn hdb;exact Lc (thn (ha pos OM s σ H _ I h) λus s1 ⟨vs,H1,I1,r1,q1⟩=>hc OM s1 σ H1 vs us Q I1 r1 q1) he hpl
end
end
end L2
namespace HT
open PySem PyProof.Rows
section
open PySem.SeqAt
open PySem.AutoSeq1 (wpAny_loadPart')
open PySem.MeetsSeq PySem.MeetsSeq2 PySem.MeetsSeq3
end
section
variable {prog:Oh}{w:Oi}{A:Oj}{E:Oe->Og->Prop}{s:Og}
def cat_tup {t b:Of}{vs ws:List Oe}{Q:Oe->Og->Prop}(ht:IsTup s.heap t vs.toArray)(hb:IsTup s.heap b ws.toArray)(hv:vs≠[])
  (h1:ws=[]->Q (.ref t) s) (h2:ws≠[]->Q (.ref s.heap.objs.size) { s with heap:=s.heap.push { cls:=.type "tuple",data:=.seq (vs++ws).toArray } })
  (hsz:vs.length+ws.length<=Os):Oz (model prog w) A (binaryOp .Add (.ref t)<|.ref b) Q E s:=by
 obtain⟨⟨cls,dd,data,sl⟩,ho,hc,n,hd⟩:=id ht;obtain⟨⟨cls2,dd2,data2,sl2⟩,ho2,hc2,n2,hd2⟩:=id hb;simp only at hc hd hc2 hd2;subst hc hd hc2 hd2;have e:vs.toArray++ws.toArray=(vs++ws).toArray:=by simp
 by_cases hw:ws=[]
 .exact concat_meets ⟨_,ho,rfl⟩ ⟨_,ho2,rfl⟩ noFill_tuple_add seq_tuple_add ML MC (Ml _ _)
   (tuple_addW1 t b vs.toArray ws.toArray n n2 dd dd2 sl sl2 (by simpa using hv)<|by simp[hw]) ⟨ho,ho2,h1 hw⟩
 .refine concat_meets ⟨_,ho,rfl⟩ ⟨_,ho2,rfl⟩ noFill_tuple_add seq_tuple_add ML MC (Ml _ _)
   (tuple_addW2 t b vs.toArray ws.toArray n n2 dd dd2 sl sl2 (by simpa using hv) (by simpa using hw) (by rw[IW,IW];exact hsz)) ⟨ho,ho2,?_⟩
  rw[e];exact h2 hw
def sIx (n d:Nat):Option Int->Nat
 | none=>d
 | some v=>if v<0 then(v+(n:Int)).toNat else min v.toNat n
def sIx_none (n d:Nat):sIx n d none=d:=rfl
def sIx_nat (n d k:Nat):sIx n d (some (k:Int))=min k n:=by show(if (k:Int)<0 then((k:Int)+(n:Int)).toNat else min (k:Int).toNat n)=min k n;rw[II (by omega),Jx]
end
end HT
namespace L2
open PySem PySem.Spec PyProof.Rows
variable {pos:Pos}
section
abbrev TO :=St->Hp->(Option Int->Hp->Prop)->Prop
def PO (X:Cx)(e:Option Oo)(t:TO):Prop :=
 ∀(OM:List (Of×Ou)) (s:Og) (σ:St) (H:Hp) (Q:Option Int->Hp->Prop),Inv X OM σ H s->t σ H Q ->
  Oz (model X.prog X.w) X.A (evalPart e X.env) (λu s'=>∃o H',Inv X OM σ H' s'/\IsPart u o/\Q o H') X.xe s
def vW :TO:=λ_ H Q=>Q none H
def AX (t:TE):TO:=λσ H Q=>t σ H λx H1=>∃i,x = .int i/\Q (some i) H1
def W4 {ns:List Int}:∀{us:List Oe},n5 (ns.map V.int) us->IntsAre us ns:=by
 induction ns with
 | nil=>intro us r;rw[JG]at r;cases r;exact .nil
 | cons n ns ih =>
  intro us r;rw[IJ]at r;cases r with
  | cons r1 r2 =>obtain⟨t,e⟩:=r1;subst e;exact .cons n t<|ih r2
section
variable {X:Cx}{e:Oo}{te:TE}{lo hi:Option Oo}{tl th:TO}{p2:Pos}
def vB :PO X none vW:=by intro OM s σ H Q I h;rw[evalPart_none];exact Iy ⟨none,H,I,.none,h⟩
def vo (h:PE X e te):PO X (some e) (AX te):=by
 intro OM s σ H Q I hw;rw[evalPart_some];refine thn (h OM s σ H _ I hw) λu s1 ⟨x,H1,I1,r1,q1⟩=>?_
 obtain⟨i,rfl,q⟩:=q1;obtain⟨t,rfl⟩:=r1;exact⟨some i,H1,I1,.int i t,q⟩
def SlR (X:Cx)(r:V->Option Int->Option Int->Hp->VK->Prop):Prop :=
 ∀(OM:List (Of×Ou)) (s:Og) (σ:St) (H:Hp) (x:V) (v vl vu:Oe) (lo hi:Option Int) (sl:Of) (Q:VK),Inv X OM σ H s->u0 x v->s.heap.IsSliceOf sl vl vu .none->IsPart vl lo->IsPart vu hi->r x lo hi H Q ->
  ∃T id,typeLookup (.type T) "__getitem__" = pure (some<|.builtin id)/\s.TypeIs v T/\Oz (model X.prog X.w) X.A (getItem v<|.ref sl) (EP X OM σ Q) X.xe s
def tSl (r:V->Option Int->Option Int->Hp->VK->Prop)(te:TE)(tl th:TO):TE:=λσ H Q=>te σ H λx H1=>tl σ H1 λl H2=>th σ H2 λu H3=>r x l u H3 Q
def sZ {r:V->Option Int->Option Int->Hp->VK->Prop}(hr:SlR X r)(he:PE X e te)(hl:PO X lo tl)(hu:PO X hi th):PE X (.Subscript e (.Slice lo hi none p2) pos) (tSl r te tl th):=by
 intro OM s σ H Q I h;refine Subscript_ (thn (he OM s σ H _ I h) λv s1 ⟨x,H1,I1,r1,q1⟩=>?_);refine wpAny_Slice (thn (hl OM s1 σ H1 _ I1 q1) λvl s2 ⟨l,H2,I2,pl,q2⟩=>thn (hu OM s2 σ H2 _ I2 q2) λvu s3 ⟨u,H3,I3,pu,q3⟩=>?_);rw[evalPart_none];refine Iy ?_;have I4:Inv X OM σ H3 { s3 with heap:=s3.heap.push { cls:=.type "slice",data:=.fields #[vl,vu,.none] } }:=I3.kept (t':=s3.toks) λb ob q=>ID _ q
 obtain⟨T,id,hT,ht,hg⟩:=hr OM { s3 with heap:=s3.heap.push { cls:=.type "slice",data:=.fields #[vl,vu,.none] } } σ H3 x v vl vu l u s3.heap.objs.size Q I4 r1 (Oq.IsSliceOf.new ..) pl pu q3;show Oz (model X.prog X.w) X.A (subscriptTail e (.Slice lo hi none p2) v<|.ref s3.heap.objs.size) (EP X OM σ Q) X.xe { s3 with heap:=s3.heap.push { cls:=.type "slice",data:=.fields #[vl,vu,.none] } };exact tail_any (ops:=[.ref s3.heap.objs.size,v]) ht hT hg (by with_unfolding_all rfl)
def pZ (xs:List V)(lo hi:Option Int):List V:=(xs.drop<|HT.sIx xs.length 0 lo).take<|HT.sIx xs.length xs.length hi-HT.sIx xs.length 0 lo
def jX (xs:List V)(lo hi:Option Int):(pZ xs lo hi).length<=xs.length:=by unfold pZ;rw[MU,List.length_drop];omega
def AQ (K:Fg):R2:=λx y H Q=>∃a b xs ys,x = .ref a/\y = .ref b/\SqT K H a xs/\SqT K H b ys/\xs≠[]/\xs.length+ys.length<=Os /\
 (ys=[]->Q (.ref a) H)/\(ys≠[]->∀p,H p=none->Q (.ref p) (upd H p<|.tup<|xs++ys))
def n5.nil_iff {xs:List V}{us:List Oe}(r:n5 xs us):us=[]↔xs=[]:=by
 cases r with
 | nil=>simp
 | cons _ _=>simp
def uM :OpR X (binaryOp .Add) (AQ X.K):=by intro OM s σ H x y v u Q I rx ry h;obtain⟨a,b,xs,ys,rfl,rfl,ha,hb,hx,hz,q1,q2⟩:=h;cases rx;cases ry;obtain⟨its,r1,p1,_⟩:=I.tuple ha;obtain⟨its2,r2,p2,_⟩:=I.tuple hb;refine HT.cat_tup p1 p2 (λz=>hx<|r1.nil_iff.1 z) (λz=>⟨.ref a,H,I,rfl,q1<|r2.nil_iff.1 z⟩) (λz=>?_) (by rw[<-r1.length,<-r2.length];exact hz);refine⟨.ref s.heap.objs.size,_,I.laid (t':=s.toks) (o:=.tup<|xs++ys) (λb ob q=>ID _ q) (IT _) ?_,rfl,q2 (λw=>z<|r2.nil_iff.2 w) _<|I.hok.fresh<|IT _⟩;exact⟨by rw[JJ];exact hz,_,r1.append r2,IsTup.new _ _⟩
end
end
variable {OM:List (Of×Ou)}{its:List Oe}
section
def ixN (n:Nat)(i:Int):Option Nat:=if 0<=i then(if i<n then some i.toNat else none) else if -(n:Int)<=i then some (i+n).toNat else none
def atI {α:Type}(xs:List α)(i:Int):Option α:=(ixN xs.length i).bind λj=>xs[j]?
def oj {n:Nat}{i:Int}{j:Nat}(h:ixN n i=some j):seqIndex? i n=some j/\j<n /\ -(n:Int)<=i/\i<n:=by
 unfold ixN at h;by_cases h0:0<=i
 .rw[IE h0]at h;by_cases h1:i<n
  .rw[IE h1]at h;have e:i.toNat=j:=IS h;exact⟨by rw[seqIndex_of h0 h1,e],by omega,by omega,h1⟩
  .rw[II h1]at h;cases h
 .rw[II h0]at h;by_cases h1:-(n:Int)<=i
  .rw[IE h1]at h;have e:(i+n).toNat=j:=IS h;exact⟨by rw[seqIndex_neg (by omega) h1,e],by omega,h1,by omega⟩
  .rw[II h1]at h;cases h
def dH {α:Type}{xs:List α}{i:Int}{v:α}(h:atI xs i=some v):∃j,seqIndex? i xs.length=some j/\xs[j]? = some v/\j<xs.length /\ -(xs.length:Int)<=i/\i<xs.length:=by
 unfold atI at h;cases e:ixN xs.length i with
 | none=>rw[e]at h;cases h
 | some j =>rw[e]at h;obtain⟨h1,h2,h3,h4⟩:=oj e;exact⟨j,h1,h,h2,h3,h4⟩
def bO {α:Type}{xs:List α}{j:Nat}{v:α}(h:xs[j]? = some v):atI xs (j:Int)=some v:=by
 have hj:j<xs.length:=(IH.1 h).1;have e:ixN xs.length (j:Int)=some j:=by unfold ixN;rw[IE (by omega),IE<|by omega];simp
 unfold atI;rw[e];exact h
def oC (b:Oo):Prop:=∀o i,subscripted b false o i=operate [o,i] (getItem o i)
def IxR (X:Cx)(r:R2):Prop :=
 ∀(value slice:Oo) (OM:List (Of×Ou)) (s:Og) (σ:St) (H:Hp) (x y:V) (v u:Oe) (Q:VK),Inv X OM σ H s->u0 x v->u0 y u->r x y H Q ->
  subscripted slice false v u=operate [v,u] (getItem v u)->Oz (model X.prog X.w) X.A (subscriptTail value slice v u) (EP X OM σ Q) X.xe s
def MtR (X:Cx)(id:String)(r:V->List V->Hp->VK->Prop):Prop :=
 ∀(OM:List (Of×Ou)) (s:Og) (σ:St) (H:Hp) (x:V) (xs:List V) (v:Oe) (us:List Oe) (Q:VK),Inv X OM σ H s->u0 x v->n5 xs us->r x xs H Q ->
  Oz (model X.prog X.w) X.A (call (.builtin id) (v::us)) (EP X OM σ Q) X.xe s
section
variable {X:Cx}{a b:Oo}{ta tb:TE}
def aA {r:R2}(hr:IxR X r)(ha:PE X a ta)(hb:PE X b tb)(hs:oC b):PE X (.Subscript a b pos) (tOp r ta tb):=by intro OM s σ H Q I h;exact Subscript_ (zo ha hb I h λv u s2 x y H2 I2 rx ry q=>hr a b OM s2 σ H2 x y v u Q I2 rx ry q<|hs _ _)
def uy (K:Fg):R2:=λx y H Q=>∃p xs i v,x = .ref p/\y = .int i/\SqL K H p xs/\atI xs i=some v/\Q v H
def AL (K:Fg):R2:=λx y H Q=>∃p xs i v,x = .ref p/\y = .int i/\SqT K H p xs/\atI xs i=some v/\Q v H
def Cy :R2:=λx y H Q=>∃z i c,x = .str z/\y = .int i/\z.length<=Os/\atI z.cps.toList i=some c/\Q (.str ⟨#[c]⟩) H
def N2 :IxR X (uy X.K):=by
 intro value slice OM s σ H x y v u Q I rx ry h hs;obtain⟨p,xs,i,z,rfl,rfl,hq,he,q⟩:=h;cases rx;obtain⟨t,rfl⟩:=ry;obtain⟨its,r,pl,hz⟩:=I.list hq;obtain⟨j,h1,h2,h3,h4,h5⟩:=dH he;obtain⟨w,ew,rw'⟩:=r.get h2;have hl:=r.length;have hn:=Z6;have fin:EP X OM σ Q w s:=⟨z,H,I,rw',q⟩;by_cases h0:0<=i
 .have hj:i.toNat=j:=by rw[seqIndex_of h0 h5]at h1;exact IS h1
  exact item_listR pl.isList h0 (by omega) (by rw[hj];simpa using ew) fin hs
 .have hj:(i+(its.toArray.size:Int)).toNat=j:=by rw[seqIndex_neg (by omega) h4]at h1;rw[IW,<-hl];exact IS h1
  exact subscriptTail_builtinR (x:=w) pl.isList.typeIs slot_list_getitem.lookup
   (wpAny_getItem_list_neg (Q:=λr s'=>r=w/\EP X OM σ Q r s') pl.isList (by omega) (by rw[IW] <;> omega) (by omega) (by rw[hj];simpa using ew) ⟨rfl,fin⟩) hs
def zT :IxR X (AL X.K):=by
 intro value slice OM s σ H x y v u Q I rx ry h hs;obtain⟨p,xs,i,z,rfl,rfl,hq,he,q⟩:=h;cases rx;obtain⟨t,rfl⟩:=ry;obtain⟨its,r,pl,hz⟩:=I.tuple hq;obtain⟨j,h1,h2,h3,h4,h5⟩:=dH he;obtain⟨w,ew,rw'⟩:=r.get h2;have hl:=r.length;have hn:=Z6;have fin:EP X OM σ Q w s:=⟨z,H,I,rw',q⟩;exact subscriptTail_builtinR (x:=w) pl.typeIs slot_tuple_getitem.lookup
  (getItem_tuple (j:=j) (Q:=λr s'=>r=w/\EP X OM σ Q r s') pl (by omega) (by omega) (by rw[IW,<-hl];exact h1) (by simpa using ew) ⟨rfl,fin⟩) hs
def zH :IxR X Cy:=by
 intro value slice OM s σ H x y v u Q I rx ry h hs;obtain⟨z,i,c,rfl,rfl,hz,he,q⟩:=h;obtain⟨t,rfl⟩:=rx;obtain⟨t',rfl⟩:=ry;obtain⟨j,h1,h2,h3,h4,h5⟩:=dH he;have hl:z.cps.toList.length=z.length:=by simp[Str.length]
 rw[hl]at h1 h4 h5;have hn:=Z6;exact tail_any (typeIs_str s z t) slot_str_getitem.lookup (getItem_str (c:=c) (by have e1:decide (i < -(2 ^ 63:Int))=false:=Jf (by omega);have e2:decide (i >= 2 ^ 63)=false:=Jf (by omega);rw[e1,e2,Bool.or_false]) (by rw[h1];simpa using h2) ⟨.str ⟨#[c]⟩,H,I.tok _,⟨_,rfl⟩,q⟩) hs
def kT (its:List Oe)(n j:Nat)(u:Oe):Ou.mapSeq (·.setIfInBounds j u) { cls:=.type "list",data:=.seq its.toArray n }={ cls:=.type "list",data:=.seq (its.set j u).toArray n }:=by simp[Ou.mapSeq]
def Inv.lst {σ:St}{H:Hp}{s:Og}{p:Of}{xs:List V}(I:Inv X OM σ H s)(h:H p=some (.lst xs)) :
  ∃(its:List Oe) (n:Nat),n5 xs its/\s.heap.get? p=some { cls:=.type "list",data:=.seq its.toArray n }/\xs.length<=Os:=by obtain⟨z,its,n,r,e⟩:=I.hok p _ h;exact⟨its,n,r,e,z⟩
def Inv.lstUpd {σ:St}{H:Hp}{s:Og}{p:Of}{xs ys:List V}{its':List Oe}{n n':Nat}{f:Ou->Ou}(I:Inv X OM σ H s)(h:H p=some (.lst xs))
  (ho:s.heap.get? p=some { cls:=.type "list",data:=.seq its.toArray n }) (hf:f { cls:=.type "list",data:=.seq its.toArray n }={ cls:=.type "list",data:=.seq its'.toArray n' }) (r:n5 ys its') (hz:ys.length<=Os) (t:Nat) :
  Inv X OM σ (upd H p<|.lst ys) { s with heap:=s.heap.update p f,toks:=t }:=by
 have e:(s.heap.update p f).get? p=some { cls:=.type "list",data:=.seq its'.toArray n' }:=by rw[JD f ho (by rw[hf] <;> rfl),hf]
 refine I.write (x:=p) (e:=p) (by rw[h];trivial) (.inl rfl) (λb u hb q=>(JF _ _<|JC hb).trans q) ⟨_,e⟩ ?_;exact⟨hz,its',n',r,e⟩
def rJ :V->V->V->Hp->(Hp->Prop)->Prop:=λo i v H Q=>∃p xs k j,o = .ref p/\i = .int k/\H p=some (.lst xs)/\ixN xs.length k=some j/\Q (upd H p<|.lst<|xs.set j v)
def bL :zC X rJ:=by
 intro OM s σ H o i v ov iv u Q I ro ri rv h;obtain⟨p,xs,k,j,rfl,rfl,hp,hj,q⟩:=h;cases ro;obtain⟨t,rfl⟩:=ri;obtain⟨its,n,r,ho,hz⟩:=I.lst hp;obtain⟨h1,h2,h3,h4⟩:=oj hj;have hl:=r.length;have hn:=Z6;have I':Inv X OM σ (upd H p<|.lst<|xs.set j v) { s with heap:=s.heap.update p (Ou.mapSeq (·.setIfInBounds j u)) } :=
  I.lstUpd hp ho (kT its n j u) (r.set rv j) (by rw[JH];exact hz) s.toks
 by_cases h0:0<=k
 .have hk:k.toNat=j:=by rw[seqIndex_of h0 h4]at h1;exact IS h1
  exact PySem.W.ki_setAt ho h0 (by omega) (by rw[IW,<-hl];exact h4) (by rw[hk];exact⟨_,I',q⟩)
 .have hk:(k+(its.toArray.size:Int)).toNat=j:=by rw[seqIndex_neg (by omega) h3]at h1;rw[IW,<-hl];exact IS h1
  exact PySem.W.ki_setBack ho (by omega) (by rw[IW,<-hl];exact h3) (by omega) (by rw[hk];exact⟨_,I',q⟩)
def ja (lo hi:Option Int)(n:Nat):(sliceBounds lo hi none n).1=((HT.sIx n 0 lo:Nat):Int)/\(sliceBounds lo hi none n).2.1=((HT.sIx n n hi:Nat):Int)/\(sliceBounds lo hi none n).2.2=1:=by
 refine⟨?_,?_,rfl⟩
 .cases lo with
  | none=>simp[sliceBounds,HT.sIx]
  | some i =>
   simp only[sliceBounds,HT.sIx,Option.getD_none,show(1:Int) > 0 by decide,Kl]
   by_cases h:i<0
   .simp only[h,Kl] <;> omega
   .simp only[h,JI] <;> omega
 .cases hi with
  | none=>simp[sliceBounds,HT.sIx]
  | some i =>
   simp only[sliceBounds,HT.sIx,Option.getD_none,show(1:Int) > 0 by decide,Kl]
   by_cases h:i<0
   .simp only[h,Kl] <;> omega
   .simp only[h,JI] <;> omega
def fV (its:List Oe)(lo hi:Option Int):slicePick its.toArray lo hi none=((its.drop<|HT.sIx its.length 0 lo).take<|HT.sIx its.length its.length hi-HT.sIx its.length 0 lo).toArray:=by obtain⟨h1,h2,h3⟩:=ja lo hi its.toArray.size;unfold slicePick;rw[h1,h2,h3];simp only[sliceRange_one,pick_run,IW] <;> rfl
def CL (K:Fg):V->Option Int->Option Int->Hp->VK->Prop:=λx lo hi H Q=>∃a xs,x = .ref a/\SqL K H a xs/\∀p,H p=none->Q (.ref p) (upd H p<|.lst<|pZ xs lo hi)
def vU :SlR X (CL X.K):=by intro OM s σ H x v vl vu lo hi sl Q I rx hs pl pu h;obtain⟨a,xs,rfl,hx,q⟩:=h;cases rx;obtain⟨its,r,ht,hz⟩:=I.list hx;have hlen:=r.length;refine⟨"list",_,slot_list_getitem.lookup,ht.isList.typeIs,?_⟩;refine wpAny_getItem_list_slice ht.isList hs pl pu .none (by simp) ?_ (by rw[IW] <;> omega);rw[fV,<-hlen];refine⟨.ref s.heap.objs.size,_,I.laid (t':=s.toks) (o:=.lst<|pZ xs lo hi) (λb ob q=>ID _ q) (IT _) ?_,rfl,q _<|I.hok.fresh<|IT _⟩;exact⟨IV (jX xs lo hi) hz,_,0,(r.drop<|HT.sIx xs.length 0 lo).take<|HT.sIx xs.length xs.length hi-HT.sIx xs.length 0 lo,Jc _ rfl⟩
def P3 :A3 X (.builtin "len") (λxs H Q=>∃p ys,xs=[.ref p]/\(SqL X.K H p ys\/SqT X.K H p ys)/\Q (.int ys.length) H):=by
 walk_at "kg";obtain⟨p,ys,rfl,hq,q⟩:=h;obtain⟨u,rfl,rx⟩:=L8 r;cases rx;have hn:=Z6;rcases hq with hq | hq
 .obtain⟨its,r',pl,hz⟩:=I.list hq;have hlen:=r'.length;exact Calls.call_len_list pl.isList (by simp only[IW] <;> omega) ⟨.int ys.length,H,I.tok _,⟨s.toks+1,by rw[IW,hlen]⟩,q⟩
 .obtain⟨its,r',pl,hz⟩:=I.tuple hq;have hlen:=r'.length;exact len_tuple pl (by simp only[IW] <;> omega) ⟨.int ys.length,H,I.tok _,⟨s.toks+1,by rw[IW,hlen]⟩,q⟩
def iW :A3 X (.builtin "len") (λxs H Q=>∃z,xs=[.str z]/\z.length<=Os/\Q (.int z.length) H):=by intro OM s σ H xs us Q I r h;obtain⟨z,rfl,hz,q⟩:=h;obtain⟨u,rfl,t,rfl⟩:=L8 r;have hn:=Z6;exact len_str (by omega) ⟨.int z.length,H,I.tok _,⟨_,rfl⟩,q⟩
def fY :A3 X (.type "tuple") (λxs H Q=>∃p ys,xs=[.ref p]/\((SqL X.K H p ys/\∀l,H l=none->Q (.ref l) (upd H l<|.tup ys))\/(SqT X.K H p ys/\Q (.ref p) H))):=by
 walk_at "kg";obtain⟨p,ys,rfl,h⟩:=h;obtain⟨u,rfl,rx⟩:=L8 r;cases rx;rcases h with ⟨hq,q⟩ | ⟨hq,q⟩
 .obtain⟨its,r',pl,hz⟩:=I.list hq;have hlen:=r'.length;refine call_tuple_list pl.isList (λh' kp=>?_) (by simp only[IW] <;> omega);have I1:Inv X OM σ H { s with heap:=h' }:=I.kept (t':=s.toks) kp;have I2:Inv X OM σ (upd H h'.objs.size<|.tup ys) { s with heap:=h'.push { cls:=.type "tuple",data:=.seq its.toArray } } :=
   I1.laid (t':=s.toks) (λb o e=>ID _ e) (IT _) (show D1 X.prog X.w _ _ _ (.tup ys) from⟨hz,its,r',IsTup.new _ _⟩)
  exact⟨.ref h'.objs.size,_,I2,rfl,q _<|I1.hok.fresh<|IT _⟩
 .obtain⟨its,r',pl,hz⟩:=I.tuple hq;exact call_tuple_same pl ⟨.ref p,H,I,rfl,q⟩
def tyV (K:Fg)(T:String)(x:V)(H:Hp):Prop:=match x with
 | .str _=>T = "str"
 | .int _=>T = "int"
 | .ref p=>(T = "list" /\ ∃xs,SqL K H p xs)\/(T = "tuple" /\ ∃o,K.lookup p=some o/\o.cls = .type "tuple" /\ o.dict=none) \/
   (T = "dict" /\ ((∃OQ,H p=some (.dK OQ))\/∃OQ,H p=some (.dT OQ)))\/(T = "set" /\ ∃S n,H p=some (.set S n))
 | _=>False
def yT {σ:St}{H:Hp}{s:Og}{T:String}{x:V}{v:Oe}(I:Inv X OM σ H s)(r:u0 x v)(ty:tyV X.K T x H) :
  s.TypeIs v T/\∀a,v = .ref a->∃ob,s.heap.get? a=some ob/\ob.dict=none:=by
 cases x with
 | str z =>obtain⟨t,rfl⟩:=r;cases(show T = "str" from ty);exact⟨typeIs_str s z t,λ_ e=>nomatch e⟩
 | int i =>obtain⟨t,rfl⟩:=r;cases(show T = "int" from ty);exact⟨typeIs_int s i t,λ_ e=>nomatch e⟩
 | ref p =>
  cases r;rcases ty with ⟨rfl,xs,hq⟩ | ⟨rfl,o,hk,hc,hd⟩ | ⟨rfl,hk⟩ | ⟨rfl,S,n,hk⟩
  .obtain⟨its,_,pl,_⟩:=I.list hq;refine⟨pl.isList.typeIs,λa e=>?_⟩;cases e;obtain⟨o,n,e,c,hd,_⟩:=pl;exact⟨o,e,hd⟩
  .refine⟨⟨o,I.kIn p o hk,hc⟩,λa e=>?_⟩;cases e;exact⟨o,I.kIn _ o hk,hd⟩
  .have z:∃o,s.heap.get? p=some o/\o.ExactDict:=by
    rcases hk with ⟨OQ,hk⟩ | ⟨OQ,hk⟩
    .obtain⟨_,_,_,_,o,_,_,e,ex,_⟩:=I.hok p _ hk;exact⟨o,e,ex⟩
    .obtain⟨_,_,_,_,o,_,_,e,ex,_⟩:=I.hok p _ hk;exact⟨o,e,ex⟩
   obtain⟨o,e,ex⟩:=z;refine⟨⟨o,e,ex.1⟩,λa e2=>?_⟩;cases e2;exact⟨o,e,ex.2.1⟩
  .obtain⟨o,_,_,_,e,ex,_⟩:=I.hok p _ hk;refine⟨⟨o,e,ex.1⟩,λa e2=>?_⟩;cases e2;exact⟨o,e,ex.2.1⟩
 | _=>exact False.elim ty
def tBM (K:Fg)(T:String)(r:V->List V->Hp->VK->Prop)(to:TE)(t:TA):TE:=λσ H Q=>to σ H λx H1=>tyV K T x H1/\t σ H1 λxs H2=>r x xs H2 Q
variable {o e:Oo}{es:List Oo}{to:TE}{t:TA}{name:Str}{apos cpos:Pos}{T id:String}{r:V->List V->Hp->VK->Prop}
def xI (pa:PlainAttrs T)(slot:Slot T name id)(hty:typeOf (.builtin id)=pure (.type "method_descriptor"))(hm:MtR X id r)(ho:PE X o to)(ha:PA X (e::es) t)
  (hbase:OC o name X.env (eval o X.env)=eval o X.env:=by rfl)
  (hfew:((Ox cpos<|Ot (e::es) X.env).all (λx=>!x.1)&&(OJ cpos<|OL [] X.env).all (λx=>x.1.isSome)
   && decide ((e::es).length+([]:List Oy).length+(if ([]:List Oy).isEmpty then 0 else 1)<30))=true:=by rfl)
  (hline:(apos.endLine == cpos.line)=true:=by rfl) (hs:Ot (e::es) X.env=(false,eval e X.env)::Ot es X.env:=by rfl) (hplain:(Ox cpos<|Ot es X.env).any (·.1)=false:=by rfl) :
  PE X (.Call (.Attribute o name apos) (e::es) [] cpos) (tBM X.K T r to t):=by intro OM s σ H Q I h;refine wpAny_Call_method_late hbase hfew hline rfl (thn (ho OM s σ H _ I h) λv s1 ⟨x,H1,I1,r1,ty,q1⟩=>?_);obtain⟨h1,h2⟩:=yT I1 r1 ty;refine⟨T,id,pa,slot,hty,h1,h2,?_⟩;have hA:=ha cpos OM s1 σ H1 _ I1 q1;rw[hs]at hA ⊢;refine Calls.callWith_builtin (by show(false||(Ox cpos<|Ot es X.env).any (·.1))=false;rw[hplain] <;> rfl)<|Calls.evalArgs_plain ?_;exact thn hA λus s2 ⟨vs,H2,I2,r2,q2⟩=>hm OM s2 σ H2 x vs v us Q I2 r1 r2 q2
end
end
variable {t':Nat}
section
def MtM (X:Cx)(id:String)(r:V->List V->Hp->VK->Prop):Prop :=
 ∀(OM:List (Of×Ou)) (s:Og) (σ:St) (H:Hp) (x:V) (xs:List V) (v:Oe) (us:List Oe) (Q:VK),Inv X OM σ H s->u0 x v->n5 xs us->r x xs H Q ->
  Oz (model X.prog X.w) X.A (call (.builtin id) (v::us)) (EP X OM σ Q) X.xe s
theorem n5.one:∀{x:V} {us:List Oe},n5 [x] us->∃u,us=[u]/\u0 x u
 | _,_,.cons r .nil=>⟨_,rfl,r⟩
theorem n5.rep {xs:List V}{us:List Oe}(h:n5 xs us):∀k:Nat,n5 (List.replicate k xs).flatten (List.replicate k us).flatten
 | 0=>.nil
 | k+1=>by rw[JE,JE,Kr,Kr];exact n5.append h<|n5.rep h k
def cj (its:List Oe):∀(k:Nat) (acc:List Oe),
  List.foldl (λx1 x2=>x1++x2) acc.toArray (List.replicate k its.toArray)=(acc++(List.replicate k its).flatten).toArray
 | 0,acc=>by simp
 | k+1,acc=>by
  have e:acc.toArray++its.toArray=(acc++its).toArray:=by simp
  have e2:(acc++its)++(List.replicate k its).flatten=acc++(List.replicate (k+1) its).flatten:=by rw[JE,Kr,NL]
  rw[<-e2,<-cj its k (acc++its),<-e,JE,List.foldl_cons]
section
variable {X:Cx}{σ:St}{H:Hp}{s:Og}{l b:Of}{xs ys zs:List V}
def Inv.lset {its':List Oe}{n:Nat}{f:Array Oe->Array Oe}(I:Inv X OM σ H s)(hH:H l=some (.lst xs))
  (e:s.heap.get? l=some { cls:=.type "list",data:=.seq its.toArray n }) (hf:f its.toArray=its'.toArray) (hv:n5 ys its') (hz:ys.length<=Os) :
  Inv X OM σ (upd H l<|.lst ys) { s with heap:=s.heap.update l<|Ou.mapSeq f,toks:=t' }:=by have q:=PySem.IsL.update e f;rw[hf]at q;refine I.write (x:=l) (e:=l) (by rw[hH];exact trivial) (.inl rfl) (λb' u hb hu=>(JF s.heap (Ou.mapSeq f)<|JC hb).trans hu) ⟨_,q⟩ ?_;exact⟨hz,its',_,hv,q⟩
def Inv.lnew (I:Inv X OM σ H s)(hv:n5 ys its)(hz:ys.length<=Os) :
  Inv X OM σ (upd H s.heap.objs.size<|.lst ys) { s with heap:=s.heap.push { cls:=.type "list",data:=.seq its.toArray },toks:=t' } :=
 I.laid (λ_ _ q=>ID _ q) (IT _) ⟨hz,its,0,hv,Jc _ rfl⟩
def Inv.fresh (I:Inv X OM σ H s):H s.heap.objs.size=none:=I.hok.fresh<|IT _
def Inv.lstM (I:Inv X OM σ H s)(hH:H l=some (.lst xs)):xs.length<=Os/\∃(its:List Oe) (n:Nat),n5 xs its/\xs.length=its.length/\s.heap.get? l=some { cls:=.type "list",data:=.seq its.toArray n }:=by obtain⟨z,its,n,r,e⟩:=I.hok l _ hH;exact⟨z,its,n,r,r.length,e⟩
def eI {n:Nat}(h:n<=Os):Builtin.List.listTooLong n=false:=by unfold Builtin.List.listTooLong;exact Jf (by omega)
end
section
variable {X:Cx}
def iL :V->List V->Hp->VK->Prop:=λx vs H Q=>∃l xs y,x = .ref l/\vs=[y]/\H l=some (.lst xs)/\xs.length<Os/\Q .non (upd H l<|.lst<|xs++[y])
def av :MtM X "list.append" iL:=by intro OM s σ H x vs v us Q I rx rv h;obtain⟨l,xs,y,rfl,rfl,hH,hz,q⟩:=h;cases rx;obtain⟨u,rfl,ru⟩:=rv.one;obtain⟨z,its,n,r,hl,e⟩:=I.lstM hH;refine Lp F.slot_list_append ⟨_,e,rfl⟩ F.entry_list_append (F.args_list_append_2 _ _) (PySem.list_append l its.toArray n u (by rw[IW];omega)) ⟨e,?_⟩;refine⟨.non,_,I.lset (its':=its++[u]) hH e (by simp) (r.append<|.cons ru .nil) ?_,rfl,q⟩;rw[JJ,List.length_singleton];omega
def iY :V->List V->Hp->VK->Prop:=λx vs H Q=>∃l b xs zs,x = .ref l/\vs=[.ref b]/\H l=some (.lst xs)/\H b=some (.lst zs)/\xs.length+zs.length<=Os/\Q .non (upd H l<|.lst<|xs++zs)
def qg :MtM X "list.extend" iY:=by
 intro OM s σ H x vs v us Q I rx rv h;obtain⟨l,b,xs,zs,rfl,rfl,hH,hB,hz,q⟩:=h;cases rx;obtain⟨u,rfl,ru⟩:=rv.one;cases ru;obtain⟨z,its,n,r,hl,e⟩:=I.lstM hH;obtain⟨z2,its2,n2,r2,hl2,e2⟩:=I.lstM hB;have hsz:its.toArray.size+its2.toArray.size<=Os:=by rw[IW,IW];omega
 have hlong:¬(!its.toArray.isEmpty&&Builtin.List.listTooLong (its.toArray.size+its2.toArray.size))=true:=by rw[eI hsz,Bool.and_false];exact IZ
 refine Lp F.slot_list_extend ⟨_,e,rfl⟩ F.entry_list_extend (F.args_list_extend_2 _ _)
  (AutoSeq1.list_extend_list_list_0 l its.toArray n b its2.toArray n2 hlong (by rw[IW];omega)<|by omega) ⟨e,e2,?_⟩
 refine⟨.non,_,I.lset (its':=its++its2) hH e (by simp) (r.append r2) ?_,rfl,q⟩;rw[JJ];omega
def CV :R2:=λx y H Q=>∃l b xs zs,x = .ref l/\y = .ref b/\H l=some (.lst xs)/\H b=some (.lst zs)/\xs.length+zs.length<=Os/\∀p,H p=none->Q (.ref p) (upd H p<|.lst<|xs++zs)
def yZ :OpR X (binaryOp .Add) CV:=by
 intro OM s σ H x y v u Q I rx ry h;obtain⟨l,b,xs,zs,rfl,rfl,hH,hB,hz,q⟩:=h;cases rx;cases ry;obtain⟨z,its,n,r,hl,e⟩:=I.lstM hH;obtain⟨z2,its2,n2,r2,hl2,e2⟩:=I.lstM hB;refine PySem.P.add_list e e2 ?_ (by rw[IW,IW];omega);have ea:its.toArray++its2.toArray=(its++its2).toArray:=by simp
 rw[ea];exact⟨.ref _,_,I.lnew (t':=s.toks) (r.append r2) (by rw[JJ];omega),rfl,q _ I.fresh⟩
def BW :R2:=λx y H Q=>∃l k xs,x = .ref l/\y = .int k/\H l=some (.lst xs) /\ -(2 ^ 63)<=k/\k<2 ^ 63/\xs.length*k.toNat<=Os /\
 ∀p,H p=none->Q (.ref p) (upd H p<|.lst (List.replicate k.toNat xs).flatten)
def il {α:Type}(xs:List α)(k:Nat):(List.replicate k xs).flatten.length=k*xs.length:=by
 induction k with
 | zero=>simp
 | succ k ih=>rw[JE,Kr,JJ,ih,Nat.succ_mul,Nat.add_comm]
def qC :OpR X (binaryOp .Mult) BW:=by
 intro OM s σ H x y v u Q I rx ry h;obtain⟨l,k,xs,rfl,rfl,hH,h1,h2,hz,q⟩:=h;cases rx;obtain⟨t,rfl⟩:=ry;obtain⟨z,its,n,r,hl,e⟩:=I.lstM hH;have hlen:its.toArray.size*k.toNat<=Os:=by rw[IW,<-hl];exact hz
 have hcap:¬its.toArray.size*k.toNat > (2 ^ 63-1) / 8:=by
  have:(Os:Nat)<=(2 ^ 63-1) / 8:=by decide
  omega
 have hfit:¬(!Builtin.List.listFitsIndex k)=true:=by rw[fitsIndex_both h1 h2];exact IZ
 have hlong:¬Builtin.List.listTooLong (its.toArray.size*k.toNat)=true:=by rw[eI hlen];exact IZ
 have hnew:List.foldl (λx1 x2=>x1++x2) #[] (List.replicate (if its.toArray.isEmpty=true then 0 else k.toNat) its.toArray)=(List.replicate k.toNat its).flatten.toArray:=by
  have f0:∀m:Nat,List.foldl (λx1 x2=>x1++x2) #[] (List.replicate m its.toArray)=(List.replicate m its).flatten.toArray:=λm=>by have:=cj its m [];rw[Jo]at this;exact this
  rw[f0];cases its with
  | nil=>simp
  | cons a r'=>rw[II<|by simp]
 refine wpAny_binaryOp_repeat_ref (T:="list") (U:="int") (by decide) ⟨_,e,rfl⟩ (λs'=>typeIs_int s' k t) noFill_list_mul F.fills_int_mul Ng repeat_list F.slot_int_index.lookup
  (Lp Ng (typeIs_int s k t) F.entry_int_rmul (F.args_int_rmul_2 _ _) (int___rmul___int_list k t l its.toArray n)
   ⟨e,rfl,⟨_,e,rfl⟩,Lp F.slot_list_mul ⟨_,e,rfl⟩ F.entry_list_mul (F.args_list_mul_2 _ _) (AutoListH.list___mul___list_int_3 l its.toArray n k t hfit hcap hlong) ⟨e,?_⟩⟩)
 rw[hnew];exact⟨.ref _,_,I.lnew (t':=s.toks) (r.rep k.toNat) (by rw[il,NP];exact hz),rfl,q _ I.fresh⟩
end
section
variable {prog:Oh}{w:Oi}{A:Oj}{E:Oe->Og->Prop}{s:Og}
end
section
variable {X:Cx}
end
end
variable {o:Option V}{OQ:List (Key×V)}
section
section
variable {κ:Type}[DecidableEq κ]
def ik.isSome_eq {u:Option Oe}(r:ik o u):o.isSome=u.isSome:=by
 cases o with
 | none=>cases u with
  | none=>rfl
  | some _=>exact(show False from r).elim
 | some _=>cases u with
  | none=>exact(show False from r).elim
  | some _=>rfl
end
section
variable {P:Oh}{w:Oi}{H:Hp}{h:Oq}{a:Of}
end
section
variable {X:Cx}{σ:St}{H:Hp}{s:Og}{a:Of}{y v:V}{u r:Oe}{A:Oj}{E:Oe->Og->Prop}
def Inv.big (I:Inv X OM σ H s):sysModules<s.heap.objs.size:=by have h:OA<s.heap.objs.size:=(I.mod.glob.keeps I.bk).lt;exact LN (by decide) h
def wG {h':Oq}{ob:HO}(I:Inv X OM σ H s)(mu:Mut (H a))(hs:Oq.SameBut a s.heap h')(he:∃q,h'.get? a=some q)(new:D1 X.prog X.w (upd H a ob) h' a ob) :
  Inv X OM σ (upd H a ob) { s with heap:=h',toks:=t' } :=
 I.write (x:=a) (e:=a) mu (.inl rfl) (λb q hb z=>(hs.2 b hb).trans z) he new
end
section
variable {X:Cx}{σ:St}{H:Hp}{s:Og}{a:Of}{k:Key}{u:Oe}{A:Oj}{E:Oe->Og->Prop}
end
def zN (i:Oo):Prop:=∀ov iv,subscripted i false ov iv=operate [ov,iv] (getItem ov iv)
def xn {prog:Oh}{w:Oi}{A:Oj}{E:Oe->Og->Prop}{s:Og}{env:Ov}{value slice:Oo}{T id:String}{Q:Oe->Og->Prop}
  (hl:typeLookup (.type T) "__getitem__" = pure (some<|.builtin id)) (hs:zN slice)
  (h:Oz (model prog w) A (eval value env) (λo s₁=>Oz (model prog w) A (eval slice env) (λi s₂=>s₂.TypeIs o T/\Oz (model prog w) A (getItem o i) Q E s₂) E s₁) E s) :
  Oz (model prog w) A (eval (.Subscript value slice pos) env) Q E s:=by
 refine Subscript_ (Jh h (λo s₁ h₁=>Jh h₁ (λi s₂ h₂=>?_) λ_ _ x=>x) λ_ _ x=>x);obtain⟨hT,h₂⟩:=h₂;unfold subscriptTail;refine Iw ?_;rw[getitemInPython_of_ne hT.not_modules];refine Iw<|KO hT hl ?_;have fin:Oz (model prog w) A (subscripted slice false o i) (λr s₃=>Oz (model prog w) A (letTemporaryGo value o r >>= λ_=>pure r) Q E s₃) E s₂:=by rw[hs o i];exact wpAny_operating (Jh h₂ (λr s₃ h₃=>Iw<|wpAny_letTemporaryGo<|Iy h₃) λ_ _ x=>x)
 first
  | exact Iy<|Iw fin
  | exact Iw<|Iy<|Iw fin
  | exact Iw fin
section
variable {X:Cx}{o i e value:Oo}{pos' tpos:Pos}{td ty tv:TE}
end
section
variable {X:Cx}
end
section
variable {X:Cx}{σ:St}{H:Hp}{s:Og}{a:Of}{y d:V}{u r:Oe}{A:Oj}{E:Oe->Og->Prop}
end
section
variable {X:Cx}{o e f:Oo}{apos cpos:Pos}{td ty tx:TE}
end
section
variable {X:Cx}{σ:St}{H:Hp}{s:Og}{a:Of}{A:Oj}{E:Oe->Og->Prop}
end
section
variable {X:Cx}{σ:St}{H:Hp}{s:Og}{a:Of}{y:V}{u:Oe}{A:Oj}{E:Oe->Og->Prop}
end
end
end L2
namespace Att
open PySem PySem.W PySem.Calls PyProof.Rows
def dg {P:Params}{h:Oq}:∀(ns:List Int) (vs:List Oe),WellAll P h vs (ns.map WData.int)->IntsAre vs ns:=by
 intro ns;induction ns with
 | nil =>intro vs w;rw[JG]at w;cases w;exact .nil
 | cons n ns ih =>
  intro vs w;rw[IJ]at w;cases w with
  | cons a b =>cases a;exact .cons _ _<|ih _ b
def pd {l:OpenLaw}{n:Nat}(hn:l.most=some n){P:Params}{h:Oq}{args:List WData}{vals:List Oe}
  (hpre:l.row.toRowW.claim.pre args=true) (hwl:WellAll P h vals args) :
  ∃a vs ns,vals=[Oe.ref a]/\args=[WData.list<|ns.map WData.int]/\h.get? a=some { cls:=.type "list",data:=.seq vs.toArray }/\IntsAre vs ns/\ns.length<=n:=by
 have hsh:WShape.hasAll [] args [.list .int]=true:=(pre_splitW hpre).1;have hc:l.pre.holds [] { args:=args }=true:=(pre_splitW hpre).2;obtain⟨d,r,rfl,h1,h2⟩:=hasAllW_cons hsh;obtain rfl:=hasAllW_nil h2;obtain⟨xs,rfl,h3⟩:=hasW_list h1;obtain⟨ns,rfl⟩:=items_int h3;have hlen:ns.length<=n:=by
  unfold OpenLaw.pre at hc;have h4:(WTm.not<|.lt (.lit<|.int (n:Int))<|.len<|.arg 0).holds [] { args:=[.list<|ns.map .int] }=true:=by have h4:=(holds_andW hc).1;rw[hn]at h4;exact h4
  have h5:=condW_of h4<|w_not<|w_lt w_lit<|w_len_list<|w_arg rfl;rw[Iz]at h5;refine Nat.le_of_not_lt λq=>?_
  have q':(n:Int)<((ns.length:Nat):Int):=by omega
  first
   | (rw[Je q']at h5;exact absurd h5<|by decide)
   | (simp at h5;omega)
 cases hwl with
 | cons w1 w2 =>
  cases w2;cases w1 with
  | list ho hall=>exact⟨_,_,ns,rfl,rfl,ho,dg ns _ hall,hlen⟩
def pK (l:OpenLaw)(args:List WData):l.row.toRowW.claim.post args (.bool true) args=true :=
 postW_of (r:=l.row.toRowW) (X:=(true == true))
  (show WShape.has [] (.bool true) .bool=true by first | rfl | decide | simp[WShape.has,WShape.arms,WShape.armsAll])
  (show(WTm.eq .res<|.lit<|.bool true).value [] { args:=args,res:=some<|.bool true,after:=args }=some (.bool<|true == true) from w_eq_bool (w_res rfl) w_lit) rfl
def attach_call {l:OpenLaw}{n:Nat}{q:Oh}{loose:List Str}{XP:(Str->Option Oe)->Oq->Prop}{YP:Oi->Oq->Prop}{d:DefRec}
  (hn:l.most=some n) (hdf:d.params.defaults=[])
  (call:∀(w:Oi) (s₀ s₁:Og) (mg mb:Str->Option Oe) (fa:Of) (o:Ou) (pm cd doc:Oe) (a:Of) (vs:List Oe) (ns:List Int),
   Ground q loose [] XP w s₀ mg mb s₁.heap->YP w s₁.heap ->
   s₁.heap.get? fa=some o->o.data = .func (docDef d.name d.params d.body d.scope pm cd doc)->s₁.heap.CodeRec cd d.name->mg d.name=some (.ref fa) ->
   s₁.heap.get? a=some { cls:=.type "list",data:=.seq vs.toArray }->IntsAre vs ns->ns.length<=n->s₁.gens = #[] ->
   codeAny (model l.prog w) callerA (.call (.ref fa) ⟨[.ref a],[]⟩) (λr s'=>r = .ok (.ret<|.bool true)/\OldK s₁.heap s'.heap/\s'.os=s₁.os/\AllBare s'.gens) s₁) :
  WalkO q loose XP YP l.row.toRowW d [] (λf vs=>PySem.call f vs):=by intro w s₀ s₁ mg mb G Y fa o pm cd doc dV kV ho hd hcd hD hmg hg args vals as hpre hlay hrd hwl hlo;obtain rfl:dV = .none:=Dflts.none hD hdf;obtain rfl:kV = .none:=Dflts.noKw hD;obtain⟨a,vs,ns,rfl,rfl,hobj,hints,hlen⟩:=pd hn hpre hwl;refine enter_call (Nd (call w s₀ s₁ mg mb fa o pm cd doc a vs ns G Y ho (fd_plain hd) hcd hmg hobj hints hlen hg) λr s' hq=>?_);obtain⟨rfl,h2,h3,h4⟩:=hq;exact⟨.inl ⟨.bool true,.bool true,[],rfl,λ_=>rfl,.bool true,pK l _,λ_=>⟨List.Pairwise.nil,λ_ hm=>(nomatch hm)⟩⟩,h2,h3,h4⟩
section
variable {prog:Oh}{w:Oi}{A:Oj}{E:Oe->Og->Prop}{s:Og}{K:Frag}
end
end Att
namespace L2
open PySem PySem.Spec PyProof.Rows
section
theorem gM:∀{vs:List Oe} {ns:List Int},IntsAre vs ns->n5 (ns.map V.int) vs
 | _,_,.nil=>.nil
 | _,_,.cons n t h=>.cons ⟨t,rfl⟩<|gM h
end
section
end
end L2
namespace L2
open PySem PySem.Spec PyProof.Rows
def defArgs (s:On):Arguments:=match s with
 | .FunctionDef _ a _ _ _ _ _ _ _ _=>a
 | _=>{ posonlyargs:=[],args:=[],vararg:=none,kwonlyargs:=[],kw_defaults:=[],kwarg:=none,defaults:=[] }
def defBody (s:On):List On:=match s with
 | .FunctionDef _ _ b _ _ _ _ _ _ _=>b
 | _=>[]
def defScope (s:On):Ol:=match s with
 | .FunctionDef _ _ _ _ _ _ sc _ _ _=>sc
 | _=>{ kind:=.function,names:=[],isGenerator:=false,isCoroutine:=false }
abbrev CX0:CXT:=λ_ _ _ _ _ _=>False
abbrev E0:XK:=λ_ _ _=>False
def AW {X:Cx}:mX CX0 X E0:=λ_ _ _ _ _ _ _ h=>h.elim
structure Fun (K:Fg) (x qual:Str) (st:On) (f:Of) (fd:Om):Prop where
 ex:∃(oc:Oe) (od:Option Of) (kV doc pm:Oe) (an:Option Of) (OP ct:Oe) (osl:Array (Option Oe)),
  fd=PySem.W.fnOf x qual (defArgs st) (defBody st) (defScope st) .none kV doc pm an OP ct/\K.lookup f=some ⟨oc,od,.func fd,osl⟩/\PySem.W.codeIn K OP qual=true
 kp:PySem.W.keepIn K (.ref f)=true
section
variable {P:Oh}{w:Oi}{K:Fg}{mg:Str->Option Oe}{base:Oq}
def Fun.ok {x qual:Str}{st:On}{f:Of}{fd:Om}{N ps:List Str}{k:Nat}{sp:Sp}(F:Fun K x qual st f fd)(S:FnScope N ps (defScope st))(len:∀vs H Q E,sp vs H Q E->vs.length=ps.length)
  (hbody:∀(OP:Oe) (A:Oj) (outer:List Ov) (s:Og) (H:Hp) (vs:List V) (Q:VK) (E:XK),Room k (A.deeper<|envOfC qual (defScope st) s.heap.objs.size f OP)->sp vs H Q E ->
   ∃t,PSs (O1 CX0 P w K mg base N qual (defScope st) f OP A outer s H E).nox (defBody st) t/\t { nx:=λ_ H'=>Q .non H',rt:=Q } (S5 N vs) H):FnOk P w K mg base CX0 (k+1) f fd ps sp:=by
 obtain⟨oc,od,kV,doc,pm,an,OP,ct,osl,rfl,lk,hcd⟩:=F.ex;refine xD lk hcd S len λA outer s H vs Q E hr hsp=>?_
 obtain⟨t,h,q⟩:=hbody OP A outer s H vs Q E hr hsp;exact⟨t,h.nox,q⟩
def Fun.binds {x qual:Str}{st:On}{f:Of}{fd:Om}{ps:List Str}(F:Fun K x qual st f fd)
  (h:∀(kV doc pm:Oe) (an:Option Of) (OP ct:Oe) (us:List Oe),us.length=ps.length->bindArgs (PySem.W.fnOf x qual (defArgs st) (defBody st) (defScope st) .none kV doc pm an OP ct) ⟨us,[]⟩=pure (ps.zip us)):bG K fd ps []:=by obtain⟨oc,od,kV,doc,pm,an,OP,ct,osl,rfl,lk,hcd⟩:=F.ex;exact .all<|h kV doc pm an OP ct
def fun_mk {x qual:Str}{st:On}{f:Of}{oc:Oe}{od an:Option Of}{osl:Array (Option Oe)}{kV doc pm OP ct:Oe}(l:K.lookup f=some ⟨oc,od,.func<|PySem.W.fnOf x qual (defArgs st) (defBody st) (defScope st) .none kV doc pm an OP ct,osl⟩)
  (c:PySem.W.codeIn K OP qual=true) (k:PySem.W.keepIn K (.ref f)=true):Fun K x qual st f (PySem.W.fnOf x qual (defArgs st) (defBody st) (defScope st) .none kV doc pm an OP ct):=⟨⟨oc,od,kV,doc,pm,an,OP,ct,osl,rfl,l,c⟩,k⟩
end
def cN {n:Nat}(h:n<=1000):n<Os:=Jj h (by decide)
section
variable {X:Cx}
def pv (i:Nat){x:Str}{pos:Pos}(hN:X.N[i]? = some x:=by rfl)(hv:Vis X.env.scope x:=by first | exact Or.inl rfl | exact Or.inr (Or.inl rfl) | exact Or.inr<|Or.inr rfl)(hd:(x == ("__debug__":Str))=false:=by decide)
  (hcd:(x == ("__classdict__":Str))=false:=by decide):PE X (.Name x pos) (Q8 i):=G5 hN hv hd hcd
end
def BI {A B:Prop}(h:B):if false=true then A else B:=by rw[II IZ];exact h
def qx {c A B:Prop}[Decidable c](h1:c->A)(h2:¬c->B):if c then A else B:=by
 by_cases h:c
 .rw[IE h];exact h1 h
 .rw[II h];exact h2 h
def k8 (H H':Hp):Prop:=∀b o,H b=some o->H' b=some o
def k8.refl (H:Hp):k8 H H:=λ_ _ h=>h
section
variable {X:Cx}
end
section
variable {κ:Type}[DecidableEq κ]
end
end L2
set_option maxHeartbeats 4000000
namespace L2
open PySem PySem.Spec PyProof.Rows
variable {scope:Ol}{env:Ov}{elt iter:Oo}{pos:Pos}{ifs:List Oo}
section
def G9 (f:Str->Of):List (Str×OI)->List (Str×Of)->List (Str×Of)
 | [],acc=>acc
 | (n,kd)::r,acc=>G9 f r (if (kd == OI.free)=true then(n,f n)::acc else acc)
def M1 {f:Str->Of}(h:∀y∈scope.names,y.2 = .free->cellOf env y.1=pure (f y.1)) :
  closureFor scope env=pure (G9 f scope.names []):=by
 have key:∀(l:List (Str×OI)) (acc:List (Str×Of)),(∀y∈l,y.2 = .free->cellOf env y.1=pure (f y.1)) ->
   (forIn l acc (λ(x:Str×OI) (cs:List (Str×Of))=>if (x.2 == OI.free)=true then(do let c <-cellOf env x.1;pure (ForInStep.yield ((x.1,c)::cs))) else pure (ForInStep.yield cs)):Sem (List<|Str×Of))=pure (G9 f l acc):=by
  intro l;induction l with
  | nil=>intro acc _;rfl
  | cons y r ih =>
   intro acc hy;obtain⟨n,kd⟩:=y;rw[List.forIn_cons];by_cases hk:(kd == OI.free)=true
   .have e:kd = .free:=by simpa using hk
    have hc:=hy (n,kd) IG e;simp only[hk,Kl];dsimp only at hc;rw[hc];show(forIn r ((n,f n)::acc) _:Sem _)=_;rw[ih _ λz hz=>hy z<|IA _ hz];simp only[G9,hk,Kl]
   .simp only[hk,JI];show(forIn r acc _:Sem _)=_;rw[ih _ λz hz=>hy z<|IA _ hz];simp only[G9,hk,JI];rfl
 have:=key scope.names [] h;unfold closureFor;show(forIn scope.names [] _ >>= λr=>pure r)=_;rw[show(forIn scope.names ([]:List (Str×Of)) _:Sem _)=_ from this];rfl
theorem O7 {f:Str->Of}:∀(l:List (Str×OI)) (acc:List (Str×Of)) {x:Str} {c:Of},(G9 f l acc).lookup x=some c->((x,OI.free)∈l/\c=f x)\/acc.lookup x=some c
 | [],_,_,_,h=>.inr h
 | (n,kd)::r,acc,x,c,h=>by
  rw[G9]at h;rcases O7 r _ h with ⟨h1,h2⟩ | h1
  .exact .inl ⟨IA _ h1,h2⟩
  .by_cases hk:(kd == OI.free)=true
   .rw[IE hk]at h1;have e:kd = .free:=by simpa using hk
    subst e;by_cases hx:x=n
    .subst hx;simp at h1;exact .inl ⟨IG,h1.symm⟩
    .have hb:(x == n)=false:=KD.2 hx;rw[Jp,hb]at h1;exact .inr h1
   .rw[II hk]at h1;exact .inr h1
theorem ae {f:Str->Of}:∀(l:List (Str×OI)) (acc:List (Str×Of)) {x:Str},((x,OI.free)∈l\/acc.lookup x=some (f x))->(G9 f l acc).lookup x=some (f x)
 | [],_,_,h=>by
  rcases h with h | h
  .exact absurd h (by simp)
  .exact h
 | (n,kd)::r,acc,x,h=>by
  rw[G9];refine ae r _ ?_;by_cases hk:(kd == OI.free)=true
  .rw[IE hk];have e:kd = .free:=by simpa using hk
   subst e;by_cases hx:x=n
   .subst hx;exact .inr (by simp)
   .have hb:(x == n)=false:=KD.2 hx;rcases h with h | h
    .rcases IP.1 h with z | z
     .cases z;exact absurd rfl hx
     .exact .inl z
    .exact .inr (by rw[Jp,hb];exact h)
  .rw[II hk];rcases h with h | h
   .rcases IP.1 h with z | z
    .cases z;exact absurd rfl hk
    .exact .inl z
   .exact .inr h
def ku {x:Str}(h:(relabel scope env).names.lookup x=some .cell\/(relabel scope env).names.lookup x=some .free):(x,OI.free)∈scope.names\/(x,OI.cell)∈scope.names:=by
 have go:∀kd,(relabel scope env).names.lookup x=some kd->kd = .cell\/kd = .free->(x,OI.free)∈scope.names\/(x,OI.cell)∈scope.names:=by
  intro kd h hk;have hm:=JK h;unfold relabel at hm;obtain⟨⟨n,k0⟩,hy,e⟩:=Jm.1 hm;by_cases hc:(k0 == OI.free&&env.scope.kind == .function&&env.kindOf n == some .cell)=true
  .simp only[hc,Kl]at e;cases e;have:k0 = .free:=by simp only[LR]at hc;simpa using hc.1.1
   subst this;exact .inl hy
  .simp only[hc,JI]at e;cases e;rcases hk with r | r
   .subst r;exact .inr hy
   .subst r;exact .inl hy
 rcases h with h | h
 .exact go _ h<|.inl rfl
 .exact go _ h<|.inr rfl
def M5 (scope:Ol)(cl:List (Str×Of))(n:Nat):List (Str×Of):=cellsFrom (n+1) scope.names cl
theorem J6:∀(names:List (Str×OI)) (n:Nat) (acc:List (Str×Of)),cellsFrom n names acc=cellsFrom n names []++acc
 | [],_,_=>rfl
 | (x,k)::r,n,acc=>by
  unfold cellsFrom;split
  .rw[J6 r (n+1) ((x,n)::acc),J6 r (n+1) [(x,n)],NL];rfl
  .exact J6 r n acc
theorem ak:∀(names:List (Str×OI)) (n:Nat) {x:Str} {c:Of},(x,c)∈cellsFrom n names []->(x,OI.cell)∈names
 | [],_,_,_,h=>by cases h
 | (y,k)::r,n,x,c,h=>by
  unfold cellsFrom at h;split at h
  .rename_i hk;rw[J6]at h;rcases LD.1 h with h | h
   .exact IA _<|ak r (n+1) h
   .have hk:k = .cell:=by simpa using hk
    subst hk;cases Jy.1 h;exact IG
  .exact IA _<|ak r n h
theorem sM {α:Type}:∀{l r:List (Str × α)} {x:Str} {c:α},(l++r).lookup x=some c->l.lookup x=some c\/(l.lookup x=none/\r.lookup x=some c)
 | [],r,x,c,h=>.inr ⟨rfl,h⟩
 | (y,v)::l,r,x,c,h=>by
  rw[Ji,Jp]at h;rw[Jp];cases hb:x == y with
  | true=>rw[hb]at h;exact .inl h
  | false=>rw[hb]at h;exact sM h
theorem ic {α:Type}:∀{l r:List (Str × α)} {x:Str},l.lookup x=none->(l++r).lookup x=r.lookup x
 | [],r,x,h=>rfl
 | (y,v)::l,r,x,h=>by
  rw[Jp]at h;rw[Ji,Jp];cases hb:x == y with
  | true=>rw[hb]at h;cases h
  | false=>rw[hb]at h;exact ic h
theorem jn {α:Type}:∀{l r:List (Str × α)} {x:Str} {c:α},l.lookup x=some c->(l++r).lookup x=some c
 | [],r,x,c,h=>by cases h
 | (y,v)::l,r,x,c,h=>by
  rw[Jp]at h;rw[Ji,Jp];cases hb:x == y with
  | true=>rw[hb]at h;exact h
  | false=>rw[hb]at h;exact jn h
def lD {M:Model}{A:Oj}{E:Oe->Og->Prop}{s:Og}{globals:Of}{closure:List (Str×Of)}{qual:Str}{func:Option Of}{code:Oe}{builtins:Of}{Q:Ov->Og->Prop}
  (hQ:∀h₁:Oq,h₁.Ns s.heap.objs.size (λ_=>none)->(∀b o,s.heap.get? b=some o->h₁.get? b=some o)->CellsOk h₁ (s.heap.objs.size+1) (cellsFrom (s.heap.objs.size+1) scope.names []) ->
   Q (newEnv scope s.heap.objs.size globals (cellsFrom (s.heap.objs.size+1) scope.names closure) qual func code (some env) builtins) { s with heap:=h₁ }) :
  Oz M A (newFunctionEnv scope globals closure [] qual func code (some env) builtins) Q E s:=by simp only[newFunctionEnv,Option.isSome_some,Kl];refine Iw<|wpAny_alloc ?_;refine Iw (wpAny_layCells _ (λname kind cells=>by cases hkc:kind == OI.cell <;> simp[hkc]) _ _ _ _ ?_);have ok:=cellsFrom_ok scope.names (s.heap.push { cls:=.type "dict",data:=.dict #[] }) (s.heap.objs.size+1) [] ⟨λ_ _ hm=>(nomatch hm),List.Pairwise.nil⟩ (by rw[Kj];exact IT _);rw[Kj]at ok;rw[show({ s with heap:=s.heap.push { cls:=.type "dict",data:=.dict #[] } }:Og).heap.objs.size=s.heap.objs.size+1 from Kj ..];rw[List.forIn_nil];refine Iw<|Iy<|Iy ?_;exact hQ _ ((Oq.Ns.new s.heap<|.type "dict").keeps<|pushCells_keeps _ _) (λb o e=>pushCells_keeps _ _ b o<|ID _ e) ok
theorem aF {φ:Str×OI->Str×OI}(hφ:∀n k,φ (n,k)=(n,k)\/(k = .free /\ φ (n,k)=(n,.cell))):∀{names:List (Str×OI)} {x:Str},names.lookup x=some .free->(names.map φ).lookup x=some .cell\/(names.map φ).lookup x=some .free
 | [],_,h=>by simp at h
 | (n,k)::r,x,h=>by
  have ih:=@aF φ hφ r x;rw[IJ];cases hx:x == n with
  | true =>
   simp only[Jp,hx]at h;cases h;rcases hφ n .free with e | ⟨_,e⟩
   .rw[e,Jp,hx];exact .inr rfl
   .rw[e,Jp,hx];exact .inl rfl
  | false =>
   simp only[Jp,hx]at h;rcases hφ n k with e | ⟨_,e⟩
   .rw[e,Jp,hx];exact ih h
   .rw[e,Jp,hx];exact ih h
def ju {x:Str}(h:scope.names.lookup x=some .free):(relabel scope env).names.lookup x=some .cell\/(relabel scope env).names.lookup x=some .free:=by
 unfold relabel;refine aF (λn k=>?_) h;by_cases hc:(k == OI.free&&env.scope.kind == .function&&env.kindOf n == some .cell)=true
 .refine .inr ⟨?_,IE hc⟩;simp only[LR]at hc;simpa using hc.1.1
 .exact .inl<|II hc
def nq (target iter:Oo)(ifs:List Oo)(it:Oe)(env:Ov)(act:Sem Fin->Sem Fin)(more:Sem Fin):Sem Fin:=do
 standAt iter.pos
 match <-pyNext it with
 | none=>pure<|.done .next
 | some v =>
  letOwnedTupleGo target it v
  assign target env v
  let mut ok:=true
  for c in ifs do
   if ok then ok <-isTrue c env (eval c env)
  if ok then act more else more
def kn (elt:Oo)(acc:Oe)(env:Ov):Sem Unit:=do let _ <-call (.builtin "list.append") [acc,<-eval elt env]
section
variable {prog:Oh}{w:Oi}{A:Oj}{R:Result->Og->Prop}{s:Og}
def Cg {gens:List Comprehension}{d:Nat}{it acc:Oe}{target:Oo}{act:Sem Fin->Sem Fin}(I:Nat->Og->Prop)
  (ht:compTurn (.ListComp elt gens scope pos) d it acc env=nq target iter ifs it env act (again<|.compLoop (.ListComp elt gens scope pos) d it acc env))
  (turn:∀n s,I n s->Oz (model prog w) A (pyNext it) (λr s₁=>match r with
   | none=>R (.ok .next) s₁
   | some v=>Oz (model prog w) A (letOwnedTupleGo target it v) (λ_ s₀=>Oz (model prog w) A (assign target env v) (λ_ s₂ =>
     Oz (model prog w) A (forIn ifs true λc r=>if r=true then do let ok <-isTrue c env (eval c env);pure (ForInStep.yield ok) else pure (ForInStep.yield r)) (λok s₃ =>
      if ok=true then ∀(k:Sem Fin) (Q:Fin->Og->Prop) (E:Oe->Og->Prop),(∀s₅,(∃m,m<n/\I m s₅)->Oz (model prog w) A k Q E s₅)->Oz (model prog w) A (act k) Q E s₃
      else ∃m,m<n/\I m s₃) (λ_ _=>False) s₂) (λ_ _=>False) s₀) (λ_ _=>False) s₁) (λ_ _=>False) s)
  (n:Nat) (h:I n s):codeAny (model prog w) A (.compLoop (.ListComp elt gens scope pos) d it acc env) R s:=by
 refine codeAny_loop rfl I (λn s hI=>?_) n h;show Oz _ A ((compTurn (.ListComp elt gens scope pos) d it acc env).onRaise (λx=>do noteFrame x env;theTreesLotGoes x)) _ _ s;refine wpAny_noted ?_;rw[ht];unfold nq;refine Iw (KG<|Iw<|Jh (turn n s hI) (λr s₁ h₁=>?_) λ_ _ h'=>h'.elim);cases r with
 | none=>exact Iy h₁
 | some v =>
  refine Iw (Jh h₁ (λ_ s₀ h₀=>?_) λ_ _ h'=>h'.elim);refine Iw (Jh h₀ (λ_ s₂ h₂=>Iw<|Jh h₂ (λok s₃ h₃=>?_) λ_ _ h'=>h'.elim) λ_ _ h'=>h'.elim);cases ok with
  | false=>exact Iy ⟨rfl,h₃⟩
  | true=>exact h₃ _ _ _ λs₅ h₅=>Iy ⟨rfl,h₅⟩
end
def aG (k:Nat)(cap:List Nat)(σ:St):St:=List.replicate k none++cap.map λj=>(σ[j]?).join
structure Caps (ON:List Str) (osc:Ol) (N:List Str) (k:Nat) (cap:List Nat) (scope:Ol):Prop where
 kind:scope.kind = .function
 cell:∀y∈scope.names,y.2 = .cell->scope.names.lookup y.1=some .cell
 loc:∀y∈scope.names,y.2 = .local->scope.names.lookup y.1=some .local
 free:∀y∈scope.names,y.2 = .free->osc.names.lookup y.1=some .cell\/osc.names.lookup y.1=some .free
 len:N.length=k+cap.length
 capx:(cap.map λj=>ON[j]?)=(N.drop k).map some
 capf:∀x∈N.drop k,scope.names.lookup x=some .free
def cxC (X:Cx)(N:List Str)(scope:Ol)(cl:List (Str×Of))(C:Of)(ex:List Of)(OM:List (Of×Ou))(s₀:Og)(H₀:Hp):Cx where
 prog:=X.prog
 w:=X.w
 K:=X.K
 mg:=X.mg
 base:=X.base
 A:=X.A
 N:=N
 s₀:=s₀
 H₀:=H₀
 env:=compEnvC scope cl C X.env
 outer:=X.stack
 stack:=X.stack
 ex:=ex
 fn:=λx=>match scope.names.lookup x with
  | some .cell=>true
  | _=>false
 calm:=X.calm
 pn:=X.pn++OM
 xe:=λ_ _=>False
def PTs (X:Cx)(ifs:List Oo)(t:TT):Prop :=
 ∀(OM:List (Of×Ou)) (s:Og) (σ:St) (H:Hp) (Q:Bool->Hp->Prop),Inv X OM σ H s->t σ H Q ->
  Oz (model X.prog X.w) X.A (forIn ifs true λc r=>if r=true then do let ok <-isTrue c X.env (eval c X.env);pure (ForInStep.yield ok) else pure (ForInStep.yield r)) (TP X OM σ Q) X.xe s
def BA :TT:=λ_ H Q=>Q true H
def vZ {X:Cx}:PTs X [] BA:=λ_ _ _ H _ I h=>wpAny_tests_nil ⟨H,I,h⟩
def uZ {X:Cx}{c:Oo}{t:TT}(h:PT X c t):PTs X [c] t:=λOM s σ H Q I q=>wpAny_tests_one<|h OM s σ H Q I q
def tLC (wi:TI)(k:Nat)(cap:List Nat)(g:TG)(tt:TT)(te:TE):TE:=λσ H Q=>wi σ H λJ H1=>∀D,H1 D=none ->
 ∃W:Nat->Nat->St->List V->Hp->Prop,(∃m,W 0 m (aG k cap σ) []<|upd H1 D<|.lst [])/\∀i m O' acc H',W i m O' acc H' ->
  (J.stop i H'/\Q (.ref D) H') \/
  (J.go i H'/\∀x H2,J.yld i H' x H2->g x O' H2 λσ2 H3=>tt σ2 H3 λok H4=>if ok=true then te σ2 H4 λy H5=>H5 D=some (.lst acc)/\acc.length<Os/\∃m',m'<m/\W (i+1) m' σ2 (acc++[y]) (upd H5 D<|.lst<|acc++[y])
   else H4 D=some (.lst acc)/\∃m',m'<m/\W (i+1) m' σ2 acc H4)
abbrev TM :=St->Hp->(St->Hp->Prop)->Prop
def PM (Y:Cx)(act:Sem Fin->Sem Fin)(t:TM):Prop:=∀(OM:List (Of×Ou)) (s:Og) (σ:St) (H:Hp) (Q:St->Hp->Prop),Inv Y OM σ H s->t σ H Q ->
 ∀(k:Sem Fin) (R:Fin->Og->Prop) (E:Oe->Og->Prop),(∀s' O' H',Inv Y OM O' H' s'->Q O' H'->Oz (model Y.prog Y.w) Y.A k R E s')->Oz (model Y.prog Y.w) Y.A (act k) R E s
def jo {X:Cx}{tg:Oo}{rest:List Comprehension}{osc:Ol}{N:List Str}{k:Nat}{cap:List Nat}{g:TG}{tt:TT}{cl:List (Str×Of)}{act:Ov->Sem Fin->Sem Fin}
  {OM:List (Of×Ou)} {σ:St} {H3:Hp} {s3:Og} {D it:Of} {fp:List Of} {tn:Nat->Oq->Prop} {J:It} {Qs:Hp->Prop} {W:Nat->Nat->St->Hp->Prop} {m0:Nat} {P:Of->Result->Og->Prop}
  (hturn:∀env,compTurn (.ListComp elt (⟨tg,iter,ifs,0⟩::rest) scope pos) 0 (.ref it) (.ref D) env=nq tg iter ifs (.ref it) env (act env) (again<|.compLoop (.ListComp elt (⟨tg,iter,ifs,0⟩::rest) scope pos) 0 (.ref it) (.ref D) env))
  (hc:X.calm=true) (hosc:X.env.scope=osc) (hcap:Caps X.N osc N k cap scope)
  (hcl:∀{x:Str} {c:Of},cl.lookup x=some c->X.env.cells.lookup x=some c) (hhas:∀x,(x,OI.free)∈scope.names->∃c,cl.lookup x=some c)
  (hg:∀cl C ex OM s H,PG (cxC X N scope cl C ex OM s H) tg g)
  (ht:∀cl C ex OM s H,PTs (cxC X N scope cl C ex OM s H) ifs tt)
  (I3:Inv X OM σ H3 s3) (T:Turn X.prog X.w X.K tg J fp it tn) (st:tn 0 s3.heap) (f3:∀b∈fp,bq X OM H3 b) (w0:W 0 m0 (aG k cap σ) H3)
  (hend:∀s6 σ5 H5,Inv (cxC X N scope (M5 scope cl s3.heap.objs.size) s3.heap.objs.size fp OM s3 H3) [] σ5 H5 s6->Inv X OM σ H5 s6->Qs H5->P s3.heap.objs.size (.ok .next) s6)
  (turn:∀i m O' H',W i m O' H'->(J.stop i H'/\Qs H') \/
   (J.go i H'/\∃C:Bool->St->Hp->Prop,(∀x H2,J.yld i H' x H2->g x O' H2 λσ2 H3=>tt σ2 H3 λok H4=>C ok σ2 H4)/\(∀σ2 H4,C false σ2 H4->∃m',m'<m/\W (i+1) m' σ2 H4) /\
    ∀(pins':List (Of×Ou)) (s:Og) (σ2:St) (H4:Hp),Inv (cxC X N scope (M5 scope cl s3.heap.objs.size) s3.heap.objs.size fp OM s3 H3) pins' σ2 H4 s->C true σ2 H4->∀(k:Sem Fin) (R:Fin->Og->Prop) (E:Oe->Og->Prop),
     (∀s' σ3 H5,Inv (cxC X N scope (M5 scope cl s3.heap.objs.size) s3.heap.objs.size fp OM s3 H3) pins' σ3 H5 s'->(∃m',m'<m/\W (i+1) m' σ3 H5)->Oz (model X.prog X.w) X.A k R E s')->Oz (model X.prog X.w) X.A (act (compEnvC scope (M5 scope cl s3.heap.objs.size) s3.heap.objs.size X.env) k) R E s)) :
  Oz (model X.prog X.w) X.A (newFunctionEnv scope X.env.globals cl [] X.env.qual none .none<|some X.env) (λcenv s₄ =>
   codeAny (model X.prog X.w) X.A (.compStart (.ListComp elt (⟨tg,iter,ifs,0⟩::rest) scope pos) 0 (.ref it) (.ref D) { cenv with scope:=relabel scope X.env }) (P cenv.locals) s₄) X.xe s3:=by
 refine lD λh₁ hns₁ old okc=>?_
 have ownS:∀{x:Str} {c:Of},(M5 scope cl s3.heap.objs.size).lookup x=some c->((cellsFrom (s3.heap.objs.size+1) scope.names []).lookup x=some c/\scope.names.lookup x=some .cell/\h₁.IsCell c none/\s3.heap.objs.size<c)\/cl.lookup x=some c:=λ{x c} e=>by
  unfold M5 at e;rw[J6]at e;rcases sM e with z | z
  .have hm:=JK z;obtain⟨a1,a2⟩:=okc.empty x c hm;exact .inl ⟨z,hcap.cell _ (ak _ _ hm) rfl,a1,a2⟩
  .exact .inr z.2
 have clt:∀{x:Str} {c:Of},cl.lookup x=some c->c<s3.heap.objs.size:=λ{x c} e=>by obtain⟨v,z⟩:=I3.cell x c<|hcl e;exact z.lt
 have ownF:∀{x:Str},scope.names.lookup x=some .free->(M5 scope cl s3.heap.objs.size).lookup x=cl.lookup x:=λ{x} e=>by
  unfold M5;rw[J6];refine ic ?_;cases q:(cellsFrom (s3.heap.objs.size+1) scope.names []).lookup x with
  | none=>rfl
  | some c =>have z:=hcap.cell _ (ak _ _<|JK q) rfl;rw[e]at z;cases z
 have ownI:∀x y c,(M5 scope cl s3.heap.objs.size).lookup x=some c->(M5 scope cl s3.heap.objs.size).lookup y=some c->x=y:=λx y c h1 h2=>by
  rcases ownS h1 with ⟨a1,_,_,a4⟩ | a <;> rcases ownS h2 with ⟨b1,_,_,b4⟩ | b
  .exact name_of_addr okc.apart (JK a1)<|JK b1
  .exact absurd (clt b)<|LS.2<|Ka a4
  .exact absurd (clt a)<|LS.2<|Ka b4
  .exact I3.ok.inj x y c (hcl a)<|hcl b
 have ownH:∀x,((relabel scope X.env).names.lookup x=some .cell\/(relabel scope X.env).names.lookup x=some .free)->∃c,(M5 scope cl s3.heap.objs.size).lookup x=some c:=λx hx=>by
  unfold M5;rw[J6];cases q:(cellsFrom (s3.heap.objs.size+1) scope.names []).lookup x with
  | some c=>exact⟨c,jn q⟩
  | none =>
   rcases ku hx with z | z
   .obtain⟨c,e⟩:=hhas x z;exact⟨c,(ic q).trans e⟩
   .have y:=LJ scope.names (s3.heap.objs.size+1) []<|.inl<|hcap.cell _ z rfl;rw[q]at y;cases y
 have ownA:∀x c,(cxC X N scope (M5 scope cl s3.heap.objs.size) s3.heap.objs.size fp OM s3 H3).fn x=true->(M5 scope cl s3.heap.objs.size).lookup x=some c->s3.heap.objs.size<=c:=λx c h e=>by
  rcases ownS e with ⟨_,_,_,a4⟩ | a
  .exact Ka a4
  .have hx:scope.names.lookup x=some .cell:=by
    have h:(match scope.names.lookup x with | some .cell=>true | _=>false)=true:=h;split at h
    .assumption
    .cases h
   have y:=LJ scope.names (s3.heap.objs.size+1) []<|.inl hx;obtain⟨c',hc'⟩:=JS.1 y;have e2:(M5 scope cl s3.heap.objs.size).lookup x=some c':=by unfold M5;rw[J6];exact jn hc'
   rw[e]at e2;cases e2;exact Ka (okc.empty x c<|JK hc').2
 have neC:∀b∈fp,b≠s3.heap.objs.size:=λb hb=>by obtain⟨o,e,_⟩:=T.obj _ _ st b hb;exact IX<|IF e
 have cne:∀b∈fp,∀{x:Str} {c:Of},(M5 scope cl s3.heap.objs.size).lookup x=some c->c≠b:=λb hb {x c} e=>by
  rcases ownS e with ⟨_,_,_,a4⟩ | a
  .obtain⟨o,e,_⟩:=T.obj _ _ st b hb;exact JC<|IX<|LN (IF e) a4
  .exact(f3 b hb).2.2.2.2.1 x c<|hcl a
 have freeC:∀{x:Str} {c:Of},(M5 scope cl s3.heap.objs.size).lookup x=some c->H3 c=none:=λ{x c} e=>by
  rcases ownS e with ⟨_,_,_,a4⟩ | a
  .exact I3.hok.fresh<|Ka a4
  .exact I3.freeC x c<|hcl a
 have nofs:∀{b:Of},b≠X.env.locals->b ∉ X.fs->b ∉ frs X.stack:=λ{b} h1 h2 z=>(IP.1<|I3.stkSub b z).elim h1 h2
 have IY:Inv (cxC X N scope (M5 scope cl s3.heap.objs.size) s3.heap.objs.size fp OM s3 H3) [] (aG k cap σ) H3 { s3 with heap:=h₁ }:=by
  refine⟨⟨I3.ok.mod,hcap.kind,I3.ok.glob,I3.ok.blt,IT _,ownI,ownH,ownA,I3.ok.hd,I3.ok.frames,.inl rfl,
   λb hb=>⟨neC b hb,λx c e=>cne b hb e⟩,I3.bs,IV I3.ok.bsz I3.sz,λb o e hb=>?_,λb hb=>nofs (f3 b hb).2.1 (f3 b hb).2.2.1,I3.stack,I3.stkFree⟩,
   rfl,I3.bare,Un.kept old,⟨_,hns₁,λi x v e1 e2 e3=>?_⟩,λx c e=>?_,I3.hok.fresh<|IT _,λx c e=>freeC e,λp hp=>?_,I3.hok.kept old,?_⟩
  .rcases(f3 b hb).2.2.2.1 with z | z
   .exact I3.ok.noex b o e z
   .exact absurd (IQ (IF e)<|IV I3.ok.bsz z)<|KF _
  .by_cases hi:i<k
   .unfold aG at e2;rw[Ks (by simpa using hi),JO,IE hi]at e2;cases e2
   .obtain⟨d,rfl⟩:∃d,i=k+d:=⟨i-k,by omega⟩;unfold aG at e2;rw[Km (by simp),KI,Nat.add_sub_cancel_left,IU]at e2;obtain⟨j,hj,hv⟩:=Ja.1 e2;have hσ:σ[j]? = some (some v):=by
     cases q:σ[j]? with
     | none=>rw[q]at hv;cases hv
     | some o=>rw[q]at hv;exact JX some hv
    have e1':(N.drop k)[d]? = some x:=by rw[List.getElem?_drop];exact e1
    have hx:X.N[j]? = some x:=by have z:=JX (λl=>l[d]?) hcap.capx;simp only[IU,hj,e1',Nh]at z;exact IS z
    have hfr:=hcap.capf x<|Ju e1';have hfm:=JK hfr;have hok:=hcap.free _ hfm rfl;rw[<-hosc]at hok;obtain⟨m,hn,hl⟩:=I3.loc;obtain⟨u,r,l⟩:=hl j x v hx hσ<|.inr hok;refine⟨u,r,?_⟩;rcases l with ⟨hk,_⟩ | ⟨hk,c,hc1,hc2⟩
    .have hk:X.env.scope.names.lookup x=some .local:=hk;rcases hok with z | z <;> (rw[hk]at z;cases z)
    .obtain⟨c',hc'⟩:=hhas x hfm;have:c'=c:=IS<|(hcl hc').symm.trans hc1;subst this;exact .inr ⟨ju hfr,c',(ownF hfr).trans hc',hc2.keeps old⟩
  .rcases ownS e with ⟨_,_,a3,_⟩ | a
   .exact⟨_,a3⟩
   .obtain⟨v,z⟩:=I3.cell x c<|hcl a;exact⟨v,z.keeps old⟩
  .have hp:p∈(X.pn++OM)++[]:=hp;rw[Kb]at hp;obtain⟨a1,a2,a3,a4,a5⟩:=I3.pin p hp;exact⟨old _ _ a1,a2,IX<|IF a1,nofs a3 a4,a5⟩
  .show(aG k cap σ).length=N.length;unfold aG;rw[JJ,KI,Iz,hcap.len]
 have stat:∀{H':Hp},(∀b∈fp,H' b=none)->∀b∈fp,bq (cxC X N scope (M5 scope cl s3.heap.objs.size) s3.heap.objs.size fp OM s3 H3) [] H' b:=λ{H'} hn b hb=>by obtain⟨a0,a1,a2,a3,a4,a5⟩:=f3 b hb;refine⟨hn b hb,neC b hb,nofs a1 a2,.inl hb,λx c e=>cne b hb e,λp hp=>a5 p ?_⟩;have hp:p∈(X.pn++OM)++[]:=hp;rwa [Kb]at hp
 have loop:codeAny (model X.prog X.w) X.A (.compLoop (.ListComp elt (⟨tg,iter,ifs,0⟩::rest) scope pos) 0 (.ref it) (.ref D)<|compEnvC scope (M5 scope cl s3.heap.objs.size) s3.heap.objs.size X.env)
   (P s3.heap.objs.size) { s3 with heap:=h₁ }:=by
  refine Cg (λn s'=>∃i O' H',Inv (cxC X N scope (M5 scope cl s3.heap.objs.size) s3.heap.objs.size fp OM s3 H3) [] O' H' s'/\tn i s'.heap/\(∀b∈fp,H' b=none)/\W i n O' H') (hturn _) ?_ m0
   ⟨0,_,H3,IY,T.keep _ _ _ st λb _ o e=>old b o e,λb hb=>(f3 b hb).1,w0⟩
  rintro n s5 ⟨i,σ5,H5,I5,st5,fr5,w5⟩;rcases turn i n σ5 H5 w5 with ⟨stop,q⟩ | ⟨go,C,step,hno,hyes⟩
  .refine thn (T.done (cxC X N scope (M5 scope cl s3.heap.objs.size) s3.heap.objs.size fp OM s3 H3) rfl rfl rfl hc i [] s5 σ5 H5 _ I5 (stat fr5) st5 stop) λr s6 ⟨hr,I6⟩=>?_
   subst hr;have I7:Inv X OM σ H5 s6:=I3.call' I6.os I6.base I6.hok I6.bare λb hb=>by obtain⟨a0,a1,a2,a3,a4,a5⟩:=f3 b hb;exact⟨a3,a1,a4,a5⟩
   exact hend s6 σ5 H5 I6 I7 q
  .refine thn (T.item (cxC X N scope (M5 scope cl s3.heap.objs.size) s3.heap.objs.size fp OM s3 H3) rfl rfl rfl hc i [] s5 σ5 H5 _ I5 (stat fr5) st5 go) λr s6 ⟨u,hr,h6⟩=>?_
   subst hr;refine thn h6 λ_ s7 ⟨x,H7,I7,r7,y7,st7,fr7⟩=>?_
   have I7':=I7.pinned (stat fr7)<|T.obj _ _ st7;have keepI:∀{s':Og} {O':St} {H':Hp},Inv (cxC X N scope (M5 scope cl s3.heap.objs.size) s3.heap.objs.size fp OM s3 H3) ([]++bY fp s7.heap) O' H' s'->tn (i+1) s'.heap/\∀b∈fp,H' b=none:=λ{s' O' H'} I'=>by refine⟨T.keep _ _ _ st7 λb hb o e=>(I'.pin (b,o)<|Jl _<|Jl _<|M2 hb e).1,λb hb=>?_⟩;obtain⟨o,e,d⟩:=T.obj _ _ st7 b hb;exact(I'.pin (b,o)<|Jl _<|Jl _<|M2 hb e).2.1
   refine thn (hg _ _ _ _ _ _ _ s7 σ5 H7 x u _ I7' r7<|step x H7 y7) λ_ s8 ⟨σ8,H8,I8,q8⟩=>?_
   refine thn (ht _ _ _ _ _ _ _ s8 σ8 H8 _ I8 q8) λok s9 ⟨H9,I9,q9⟩=>?_
   cases ok with
   | false =>obtain⟨m',hm,w9⟩:=hno _ _ q9;obtain⟨k1,k2⟩:=keepI I9;exact⟨m',hm,i+1,σ8,H9,I9.unpinned,k1,k2,w9⟩
   | true =>
    intro kk R E hk;refine hyes _ s9 σ8 H9 I9 q9 kk R E λs10 O10 H10 I10 ⟨m',hm,w10⟩=>hk s10 ?_
    obtain⟨k1,k2⟩:=keepI I10;exact⟨m',hm,i+1,O10,H10,I10.unpinned,k1,k2,w10⟩
 exact codeAny_compStart_list loop (T.self X.A 0 _ _ _ (T.keep _ _ _ st λb _ o e=>old b o e) loop)
def qF {X:Cx}{tg:Oo}{osc:Ol}{N:List Str}{k:Nat}{cap:List Nat}{g:TG}{tt:TT}{te:TE}{cl:List (Str×Of)}
  {OM:List (Of×Ou)} {σ:St} {H3:Hp} {s3:Og} {D it:Of} {fp:List Of} {tn:Nat->Oq->Prop} {J:It} {Q:VK} {W:Nat->Nat->St->List V->Hp->Prop} {m0:Nat}
  (hc:X.calm=true) (hosc:X.env.scope=osc) (hcap:Caps X.N osc N k cap scope)
  (hcl:∀{x:Str} {c:Of},cl.lookup x=some c->X.env.cells.lookup x=some c) (hhas:∀x,(x,OI.free)∈scope.names->∃c,cl.lookup x=some c)
  (hg:∀cl C ex OM s H,PG (cxC X N scope cl C ex OM s H) tg g)
  (ht:∀cl C ex OM s H,PTs (cxC X N scope cl C ex OM s H) ifs tt)
  (he:∀cl C ex OM s H,PE (cxC X N scope cl C ex OM s H) elt te)
  (I3:Inv X OM σ H3 s3) (hD:H3 D=some (.lst [])) (T:Turn X.prog X.w X.K tg J fp it tn) (st:tn 0 s3.heap) (f3:∀b∈fp,bq X OM H3 b) (w0:W 0 m0 (aG k cap σ) [] H3)
  (turn:∀i m O' acc H',W i m O' acc H'->(J.stop i H'/\Q (.ref D) H') \/
   (J.go i H'/\∀x H2,J.yld i H' x H2->g x O' H2 λσ2 H3=>tt σ2 H3 λok H4=>if ok=true then te σ2 H4 λy H5=>H5 D=some (.lst acc)/\acc.length<Os/\∃m',m'<m/\W (i+1) m' σ2 (acc++[y]) (upd H5 D<|.lst<|acc++[y])
    else H4 D=some (.lst acc)/\∃m',m'<m/\W (i+1) m' σ2 acc H4)) :
  Oz (model X.prog X.w) X.A (newFunctionEnv scope X.env.globals cl [] X.env.qual none .none<|some X.env) (λcenv s₄ =>
   codeAny (model X.prog X.w) X.A (.compStart (.ListComp elt [⟨tg,iter,ifs,0⟩] scope pos) 0 (.ref it) (.ref D) { cenv with scope:=relabel scope X.env }) (compPost (model X.prog X.w) X.A X.xe none (EP X OM σ Q) (.ref D) cenv.locals) s₄) X.xe s3:=by
 refine jo (act:=λenv k=>do kn elt (.ref D) env;k) (P:=λC=>compPost (model X.prog X.w) X.A X.xe none (EP X OM σ Q) (.ref D) C) (Qs:=Q<|.ref D) (W:=λi m O' H'=>∃acc,H' D=some (.lst acc)/\W i m O' acc H') (λenv=>by rfl) hc hosc hcap hcl hhas hg ht I3 T st f3 ⟨[],hD,w0⟩ (λs6 σ5 H5 I6 I7 q=>?_) λi m O' H' ⟨acc,hD',w⟩=>?_
 .obtain⟨m,hn,_⟩:=id I6.loc;refine⟨m,hn,λh' hsb=>?_⟩;obtain⟨g0,g1,g2,g3,g4,g5⟩:=I3.fpOk (H':=H5) (b:=s3.heap.objs.size) (IT _) I6.free;exact⟨.ref D,H5,I7.turned (t':=s6.toks) (λb o hb e=>(hsb.2 b hb).trans e) g0 g1 g3 g4 g5,rfl,q⟩
 .rcases turn i m O' acc H' w with h | ⟨go,step⟩
  .exact .inl h
  .refine .inr ⟨go,_,step,λσ2 H4 h=>?_,λpins' s σ2 H4 I h k R E hk=>?_⟩
   .obtain⟨hD9,m',hm,w9⟩:=(show H4 D=some (.lst acc)/\∃m',m'<m/\W (i+1) m' σ2 acc H4 from h);exact⟨m',hm,acc,hD9,w9⟩
   .refine Iw (Iw<|Jh (he _ _ _ _ _ _ _ s σ2 H4 _ I h) (λyv s10 ⟨y,H10,I10,r10,hD10,hz,m',hm,w10⟩=>?_) λ_ _ h'=>h'.elim);refine Iw (Jh (av (X:=cxC X N scope (M5 scope cl s3.heap.objs.size) s3.heap.objs.size fp OM s3 H3) _ s10 σ2 H10 (.ref D) [y] (.ref D) [yv] (λ_ H'=>H'=upd H10 D (.lst<|acc++[y])) I10 rfl (.cons r10 .nil) ⟨D,acc,y,rfl,rfl,hD10,hz,rfl⟩)
     (λ_ s11 ⟨_,H11,I11,_,e11⟩=>Iy ?_) λ_ _ h'=>h'.elim)
    subst e11;exact hk s11 σ2 _ I11 ⟨m',hm,_,i7,w10⟩
def Bb {X:Cx}{tg:Oo}{osc:Ol}{N:List Str}{k:Nat}{cap:List Nat}{wi:TI}{g:TG}{tt:TT}{te:TE}
  (hc:X.calm=true) (hosc:X.env.scope=osc) (hcap:Caps X.N osc N k cap scope) (hi:PI X tg iter wi)
  (hg:∀cl C ex OM s H,PG (cxC X N scope cl C ex OM s H) tg g)
  (ht:∀cl C ex OM s H,PTs (cxC X N scope cl C ex OM s H) ifs tt)
  (he:∀cl C ex OM s H,PE (cxC X N scope cl C ex OM s H) elt te)
  (hs:∀x,OE iter X.env x=pure x:=by intro _;rfl) :
  PE X (.ListComp elt [⟨tg,iter,ifs,0⟩] scope pos) (tLC wi k cap g tt te):=by
 intro OM s σ H Q I h;have hcell:∀y∈scope.names,y.2 = .free->∃c,X.env.cells.lookup y.1=some c:=λy hy hk=>I.ok.has y.1 (by show X.env.scope.names.lookup y.1=_\/X.env.scope.names.lookup y.1=_;rw[hosc];exact hcap.free y hy hk)
 let f:Str->Of:=λx=>(X.env.cells.lookup x).getD 0
 have hf:∀y∈scope.names,y.2 = .free->X.env.cells.lookup y.1=some (f y.1):=λy hy hk=>by obtain⟨c,e⟩:=hcell y hy hk;show _=some ((X.env.cells.lookup y.1).getD 0);rw[e];rfl
 have hclos:closureFor scope X.env=pure (G9 f scope.names []):=M1 λy hy hk=>by unfold cellOf;rw[hf y hy hk]
 have hcl:∀{x:Str} {c:Of},(G9 f scope.names []).lookup x=some c->X.env.cells.lookup x=some c:=λ{x c} e=>by
  rcases O7 _ _ e with ⟨h1,h2⟩ | h1
  .rw[h2];exact hf (x,.free) h1 rfl
  .simp at h1
 have hhas:∀x,(x,OI.free)∈scope.names->∃c,(G9 f scope.names []).lookup x=some c:=λx hx=>⟨_,ae _ _<|.inl hx⟩
 generalize G9 f scope.names []=cl at hclos hcl hhas;rw[eval_ListComp];refine Mm (use:=none) (cl:=cl) rfl hs hclos hcap.kind hcap.loc ?_;refine thn (hi OM s σ H _ I h) λv s1 h1=>thn h1 λitv s2 h2=>?_
 obtain⟨it,fp,tn,J,H2,e,I2,T,st2,f2,q2⟩:=h2;subst e;obtain⟨W,⟨m0,w0⟩,turn⟩:=q2 s2.heap.objs.size<|I2.hok.fresh<|IT _;refine JP ?_;have I3:Inv X OM σ (upd H2 s2.heap.objs.size<|.lst []) { s2 with heap:=s2.heap.push { cls:=.type "list",data:=.seq ([]:List Oe).toArray } }:=I2.lnew (ys:=[]) (its:=[]) (t':=s2.toks) .nil<|JV _;have lt2:∀b∈fp,b≠s2.heap.objs.size:=λb hb=>by obtain⟨o,e,_⟩:=T.obj _ _ st2 b hb;exact IX<|IF e
 exact qF hc hosc hcap hcl hhas hg ht he I3 i7 T (T.keep _ _ (s2.heap.push { cls:=.type "list",data:=.seq ([]:List Oe).toArray }) st2 λb _ o e=>ID _ e) (λb hb=>⟨by rw[h8<|lt2 b hb];exact(f2 b hb).1,(f2 b hb).2⟩) w0 turn
end
section
mutual
def c6 (K:Fg)(H:Hp):My->V->Prop
 | .none,v=>v = .non
 | .bool b,v=>v = .bl b
 | .int i,v=>v = .int i
 | .str x,v=>v = .str x
 | .tuple ds,v=>∃a xs,v = .ref a/\SqT K H a xs/\c5 K H ds xs
 | .list ds,v=>∃a xs,v = .ref a/\H a=some (.lst xs)/\c5 K H ds xs
 | .dict _,_=>False
def c5 (K:Fg)(H:Hp):List My->List V->Prop
 | [],xs=>xs=[]
 | d::ds,xs=>∃x r,xs=x::r/\c6 K H d x/\c5 K H ds r
end
section
variable {X:Cx}{OM:List (Of×Ou)}{σ:St}{H:Hp}{s:Og}
mutual
theorem G8 (I:Inv X OM σ H s):∀(d:My) (v:V) (u:Oe),c6 X.K H d v->u0 v u->∃as,Reads s.heap u d as
 | .none,v,u,h,r=>by
  simp only[c6]at h;subst h;cases(show u=Oe.none from r);exact⟨_,.none⟩
 | .bool b,v,u,h,r=>by
  simp only[c6]at h;subst h;cases(show u=Oe.bool b from r);exact⟨_,.bool b⟩
 | .int i,v,u,h,r=>by
  simp only[c6]at h;subst h;obtain⟨t,rfl⟩:=(show ∃t,u=Oe.int i t from r);exact⟨_,.int i t⟩
 | .str x,v,u,h,r=>by
  simp only[c6]at h;subst h;obtain⟨t,rfl⟩:=(show ∃t,u=Oe.str x t from r);exact⟨_,.str x t⟩
 | .tuple ds,v,u,h,r=>by
  simp only[c6]at h;obtain⟨a,xs,rfl,hq,hd⟩:=h;cases(show u=Oe.ref a from r);obtain⟨its,rv,ht,_⟩:=I.tuple hq;obtain⟨o,h1,h2,n,h3⟩:=ht;obtain⟨as,ra⟩:=Z2 I ds xs its hd rv;exact⟨_,.tuple h1 h2 h3 ra⟩
 | .list ds,v,u,h,r=>by
  simp only[c6]at h;obtain⟨a,xs,rfl,hq,hd⟩:=h;cases(show u=Oe.ref a from r);obtain⟨its,rv,ht,_⟩:=I.list<|SqL.of hq;obtain⟨o,h1,h2,n,h3⟩:=ht.isList;obtain⟨as,ra⟩:=Z2 I ds xs its hd rv;exact⟨_,.list h1 h2 h3 ra⟩
 | .dict OQ,v,u,h,r=>by simp only[c6]at h
theorem Z2 (I:Inv X OM σ H s):∀(ds:List My) (xs:List V) (us:List Oe),c5 X.K H ds xs->n5 xs us->∃as,ReadsAll s.heap us ds as
 | [],xs,us,h,r=>by
  simp only[c5]at h;subst h;cases r;exact⟨_,.nil⟩
 | d::ds,xs,us,h,r=>by
  simp only[c5]at h;obtain⟨x,rr,rfl,h1,h2⟩:=h;cases r with
  | cons r1 r2 =>obtain⟨as,ra⟩:=G8 I d x _ h1 r1;obtain⟨bs,rb⟩:=Z2 I ds rr _ h2 r2;exact⟨_,.cons ra rb⟩
end
end
structure Shw (d:My) (dp n:Nat):Prop where
 sh:d.showable=true
 nd:d.hasDict=false
 de:d.depth<=dp
 ln:d.shown.length<=n
def Shw.int {i:Int}{k:Nat}(h:i.natAbs<2 ^ k)(hk:0<k)(hk2:k<=1900):Shw (.int i) 0 (k+20):=by
 have hlog:i.natAbs.log2<1920:=by
  by_cases h0:i.natAbs=0
  .rw[h0];decide
  .have:=(Ob h0).2 h;omega
 refine⟨by simp only[My.showable,hlog,MM],by simp only[My.hasDict],by simp only[My.depth];omega,?_⟩;have hl2:i.natAbs.log2<k:=by
  by_cases h0:i.natAbs=0
  .rw[h0];exact hk
  .exact(Ob h0).2 h
 have e:=int_text_length_le hk hl2;simp only[My.shown];rw[PySem.ofString_length];omega
section
variable {X:Cx}
def ya (K:Fg):List V->Hp->VK->Prop:=λxs H Q=>∃a d,xs=[.ref a]/\c6 K H d (.ref a)/\Shw d 50 16000000/\Q (.str d.shown) H
def pT (hg:X.A.guards=some [])(hu:X.A.units+64<OG):A3 X (.builtin "repr") (ya X.K):=by intro OM s σ H xs us Q I r h;obtain⟨a,d,rfl,hd,hs,q⟩:=h;obtain⟨u,rfl,ru⟩:=L8 r;cases ru;obtain⟨as,rd⟩:=G8 I d (.ref a) (.ref a) hd rfl;refine repr_of_reads' rd hs.sh (My.noDict_hsm hs.nd) hg (by have:=hs.de;omega) (λ_ _ e=>e) (λh' u tk hk=>⟨.str d.shown,H,I.kept hk,⟨u,rfl⟩,q⟩) (IV hs.ln (by rw[Jr];decide))
end
end
end L2
namespace HT
open PySem PyProof.Rows
section
variable {prog:Oh}{w:Oi}{A:Oj}{E:Oe->Og->Prop}{s:Og}
end
end HT
namespace L2
open PySem PySem.Spec PyProof.Rows
section
section
variable {X:Cx}
def rj (hc:X.calm=true):A3 X (.builtin "sum") (λxs H Q=>∃(a:Of) (ns:List Int),xs=[.ref a]/\SqL X.K H a (ns.map V.int)/\Q (.int ns.sum) H):=by
 walk_at "kg";obtain⟨a,ns,rfl,hq,q⟩:=h;obtain⟨u,rfl,ru⟩:=L8 r;cases ru;obtain⟨its,rv,p,hz⟩:=I.list hq;have hi:=W4 rv;obtain⟨zs,hzs⟩:=hi.allInts.items;have hl:s.heap.IsList a (intItems zs):=hzs▸p.isList;refine sum_intListG (I.ok.hd hc) hl λh' tk t' hk=>⟨.int ns.sum,H,I.kept hk,⟨t',?_⟩,q⟩
 have hn:=hi.numsOf;have e:numsOf (intItems zs).toList=ns:=by rw[<-hzs];exact hn
 rw[nums_intItems]at e;rw[preSum_eq,MN (by simp),e]
end
end
variable {pos:Pos}{H':Hp}
section
def i3 (P:Oh)(w:Oi)(K:Fg)(mg:Str->Option Oe)(base:Oq)(x:Str)(k:Nat)(ps:List Str)(sp:Sp):Prop :=
 ∃f fd,FnOk P w K mg base CX0 k f fd ps sp/\mg x=some (.ref f)/\PySem.W.keepIn K (.ref f)=true/\bG K fd ps []
def gh {X:Cx}{x:Str}{k:Nat}{ps:List Str}{sp:Sp}{p:Pos}{e:Oo}{es:List Oo}{t:TA}(C:i3 X.prog X.w X.K X.mg X.base x k ps sp)(hr:Room k X.A)(hg:Gl X x)(ha:PA X (e::es) t)
  (hdb:(x == ("__debug__":Str))=false:=by decide) (he:Ot (e::es) X.env=(false,eval e X.env)::Ot es X.env:=by rfl) (hpl:(Ox pos<|Ot es X.env).any (·.1)=false:=by rfl) :
  PE X (.Call (.Name x p) (e::es) [] pos) (bJ sp [] E0 t):=by obtain⟨f,fd,G,m,kp,b⟩:=C;exact xb G hr hg m kp b .nil AW ha hdb he hpl
def KpE (D:Of->Prop)(H H':Hp):Prop:=∀b o,H b=some o->¬D b->H' b=some o
def SqT.kp {K:Fg}{H:Hp}{a:Of}{xs:List V}{D:Of->Prop}(h:SqT K H a xs)(k:KpE D H H')(hD:∀b,D b->∃OQ,H b=some (.dK OQ)):SqT K H' a xs:=by
 rcases h with (h | ⟨o,h⟩) | h
 .refine .inl (.inl<|k _ _ h λz=>?_);obtain⟨OQ,e⟩:=hD _ z;rw[h]at e;cases e
 .refine .inl (.inr ⟨o,k _ _ h λz=>?_⟩);obtain⟨OQ,e⟩:=hD _ z;rw[h]at e;cases e
 .exact .inr h
section
variable {K:Fg}{H:Hp}{D:Of->Prop}
mutual
theorem c6.kp (k:KpE D H H')(hD:∀b,D b->∃OQ,H b=some (.dK OQ)):∀(d:My) (v:V),c6 K H d v->c6 K H' d v
 | .none,v,h=>by simpa only[c6] using h
 | .bool b,v,h=>by simpa only[c6] using h
 | .int i,v,h=>by simpa only[c6] using h
 | .str x,v,h=>by simpa only[c6] using h
 | .tuple ds,v,h=>by
  simp only[c6]at h ⊢;obtain⟨a,xs,e,hq,hd⟩:=h;exact⟨a,xs,e,hq.kp k hD,c5.kp k hD ds xs hd⟩
 | .list ds,v,h=>by
  simp only[c6]at h ⊢;obtain⟨a,xs,e,hq,hd⟩:=h;refine⟨a,xs,e,k _ _ hq λz=>?_,c5.kp k hD ds xs hd⟩;obtain⟨OQ,e⟩:=hD _ z;rw[hq]at e;cases e
 | .dict OQ,v,h=>by simp only[c6]at h
theorem c5.kp (k:KpE D H H')(hD:∀b,D b->∃OQ,H b=some (.dK OQ)):∀(ds:List My) (xs:List V),c5 K H ds xs->c5 K H' ds xs
 | [],xs,h=>by simpa only[c5] using h
 | d::ds,xs,h=>by simp only[c5]at h ⊢;obtain⟨x,r,e,h1,h2⟩:=h;exact⟨x,r,e,c6.kp k hD d x h1,c5.kp k hD ds r h2⟩
end
end
def k8.kpE {H:Hp}(s:k8 H H'):KpE (λ_=>False) H H':=λb o h _=>s b o h
def c6.same {K:Fg}{H:Hp}{d:My}{v:V}(h:c6 K H d v)(s:k8 H H'):c6 K H' d v:=c6.kp s.kpE (λ_ z=>z.elim) d v h
def c5.same {K:Fg}{H:Hp}{ds:List My}{xs:List V}(h:c5 K H ds xs)(s:k8 H H'):c5 K H' ds xs:=c5.kp s.kpE (λ_ z=>z.elim) ds xs h
def SqT.same {K:Fg}{H:Hp}{a:Of}{xs:List V}(h:SqT K H a xs)(s:k8 H H'):SqT K H' a xs:=h.kp s.kpE (λ_ z=>z.elim)
def k8.upd {H:Hp}{p:Of}{o:HO}(hp:H p=none):k8 H (upd H p o):=λb u e=>by rw[h8<|l6 e hp];exact e
section
variable {K:Fg}{H:Hp}
theorem c5.length:∀{ds:List My} {xs:List V},c5 K H ds xs->xs.length=ds.length
 | [],xs,h=>by simp only[c5]at h;subst h;rfl
 | d::ds,xs,h=>by simp only[c5]at h;obtain⟨x,r,rfl,h1,h2⟩:=h;rw[IK,IK,h2.length]
theorem c5.get:∀{ds:List My} {xs:List V} {i:Nat} {x:V},c5 K H ds xs->xs[i]? = some x->∃d,ds[i]? = some d/\c6 K H d x
 | [],xs,i,x,h,e=>by simp only[c5]at h;subst h;simp at e
 | d::ds,xs,i,x,h,e=>by
  simp only[c5]at h;obtain⟨y,r,rfl,h1,h2⟩:=h;cases i with
  | zero=>simp at e;subst e;exact⟨d,rfl,h1⟩
  | succ i=>simpa using h2.get (i:=i) (by simpa using e)
theorem c5.snoc:∀{ds:List My} {xs:List V} {d:My} {x:V},c5 K H ds xs->c6 K H d x->c5 K H (ds++[d]) (xs++[x])
 | [],xs,d,x,h,h'=>by simp only[c5]at h;subst h;simp only[Jo,c5];exact⟨x,[],rfl,h',rfl⟩
 | e::ds,xs,d,x,h,h'=>by simp only[c5]at h;obtain⟨y,r,rfl,h1,h2⟩:=h;simp only[Ji,c5];exact⟨y,r++[x],rfl,h1,h2.snoc h'⟩
theorem c5.append {ds':List My}{xs':List V}(h':c5 K H ds' xs'):∀{ds:List My} {xs:List V},c5 K H ds xs->c5 K H (ds++ds') (xs++xs')
 | [],xs,h=>by simp only[c5]at h;subst h;simpa using h'
 | e::ds,xs,h=>by simp only[c5]at h;obtain⟨y,r,rfl,h1,h2⟩:=h;simp only[Ji,c5];exact⟨y,r++xs',rfl,h1,c5.append h' h2⟩
def c6.tup {ds:List My}{xs:List V}{a:Of}(h:H a=some (.tup xs))(h2:c5 K H ds xs):c6 K H (.tuple ds) (.ref a):=by simp only[c6];exact⟨a,xs,rfl,SqT.of h,h2⟩
def c6.lst {ds:List My}{xs:List V}{a:Of}(h:H a=some (.lst xs))(h2:c5 K H ds xs):c6 K H (.list ds) (.ref a):=by simp only[c6];exact⟨a,xs,rfl,h,h2⟩
def c5.nil :c5 K H [] []:=by simp only[c5]
def c5.cons {d:My}{x:V}{ds:List My}{xs:List V}(h:c6 K H d x)(h2:c5 K H ds xs):c5 K H (d::ds) (x::xs):=by simp only[c5];exact⟨x,xs,rfl,h,h2⟩
def c6.int {i:Int}:c6 K H (.int i) (.int i):=by simp only[c6]
def c6.bl {b:Bool}:c6 K H (.bool b) (.bl b):=by simp only[c6]
def c6.st {x:Str}:c6 K H (.str x) (.str x):=by simp only[c6]
def c6.non :c6 K H .none .non:=by simp only[c6]
def c6.ofTup {ds:List My}{v:V}(h:c6 K H (.tuple ds) v):∃a xs,v = .ref a/\SqT K H a xs/\c5 K H ds xs:=by simpa only[c6] using h
end
def AE {J:It}{D:Of}(n:Nat){g:TG}{tt:TT}{te:TE}{Q:Hp->Prop}{σ0:St}{H0:Hp}(Pv:Nat->St->List V->Hp->Prop)(h0:Pv 0 σ0 [] H0)
  (hgo:∀i σ acc H,i<n->Pv i σ acc H->J.go i H) (hstop:∀σ acc H,Pv n σ acc H->J.stop n H)
  (hs:∀i σ acc H,i<n->Pv i σ acc H->∀x H2,J.yld i H x H2->∀R:St->List V->Hp->Prop,(∀σ acc H,Pv (i+1) σ acc H->R σ acc H) ->
   g x σ H2 λσ2 H3=>tt σ2 H3 λok H4=>if ok=true then te σ2 H4 λy H5=>H5 D=some (.lst acc)/\acc.length<Os/\R σ2 (acc++[y]) (upd H5 D<|.lst<|acc++[y]) else H4 D=some (.lst acc)/\R σ2 acc H4)
  (hd:∀σ acc H,Pv n σ acc H->Q H) :
  ∃W:Nat->Nat->St->List V->Hp->Prop,(∃m,W 0 m σ0 [] H0)/\∀i m O' acc H',W i m O' acc H' ->
  (J.stop i H'/\Q H') \/
  (J.go i H'/\∀x H2,J.yld i H' x H2->g x O' H2 λσ2 H3=>tt σ2 H3 λok H4=>if ok=true then te σ2 H4 λy H5=>H5 D=some (.lst acc)/\acc.length<Os/\∃m',m'<m/\W (i+1) m' σ2 (acc++[y]) (upd H5 D<|.lst<|acc++[y])
   else H4 D=some (.lst acc)/\∃m',m'<m/\W (i+1) m' σ2 acc H4):=by
 refine⟨λi m σ acc H=>m=n-i/\i<=n/\Pv i σ acc H,⟨n,by simp,JV _,h0⟩,?_⟩;rintro i m σ acc H ⟨rfl,hi,p⟩;by_cases hlt:i<n
 .exact .inr ⟨hgo i σ acc H hlt p,λx H2 y=>hs i σ acc H hlt p x H2 y (λσ acc H=>∃m',m'<n-i/\m'=n-(i+1)/\i+1<=n/\Pv (i+1) σ acc H) λσ acc H q=>⟨n-(i+1),by omega,rfl,hlt,q⟩⟩
 .have e:i=n:=by omega
  subst e;exact .inl ⟨hstop σ acc H p,hd σ acc H p⟩
end
section
section
variable {X:Cx}{K:Fg}
def xA {es:List Oo}{k:Nat}{t:TGs}{n:Nat}(hK:X.K=K)(hc:X.calm=true)(h:PGs X es t)
  (hn:(OF es X.env).length=n:=by rfl) (hst:(OF es X.env).findIdx? (·.1)=none:=by rfl):PG X (.Tuple es k pos) (yP K n t):=by subst hK;exact zG hc h hn hst
def xv (hK:X.K=K):IxR X (AL K):=by subst hK;exact zT
def rX (hK:X.K=K):IxR X (uy K):=by subst hK;exact N2
def aC (hK:X.K=K):A3 X (.builtin "len") (λxs H Q=>∃p ys,xs=[.ref p]/\(SqL K H p ys\/SqT K H p ys)/\Q (.int ys.length) H):=by subst hK;exact P3
def Y1 (hK:X.K=K):A3 X (.type "tuple") (λxs H Q=>∃p ys,xs=[.ref p]/\((SqL K H p ys/\∀l,H l=none->Q (.ref l) (upd H l<|.tup ys))\/(SqT K H p ys/\Q (.ref p) H))):=by subst hK;exact fY
def fA (hK:X.K=K)(hg:X.A.guards=some [])(hu:X.A.units+64<OG):A3 X (.builtin "repr") (ya K):=by subst hK;exact pT hg hu
def pO {a:Oo}{ta:TE}(hK:X.K=K)(ha:PE X a ta)(he:∀whole,isTrue a X.env whole=(do let v <-whole;standAt a.pos;holding [v] (truthy v))) :
  PT X a (λσ H Q=>ta σ H λx H'=>∃k,qE K x H' k/\Q k H'):=by subst hK;exact rL ha he
end
end
section
section
variable {X:Cx}{K:Fg}
def AS (K:Fg):R2:=λx y H Q=>∃a b xs ys,x = .ref a/\y = .ref b/\SqT K H a xs/\SqT K H b ys/\xs.length+ys.length<=Os /\
 (xs=[]->Q (.ref b) H)/\(ys=[]->Q (.ref a) H)/\∀p,H p=none->Q (.ref p) (upd H p<|.tup<|xs++ys)
def wu (hK:X.K=K):OpR X (binaryOp .Add) (AS K):=by
 subst hK;intro OM s σ H x y v u Q I rx ry h;obtain⟨a,b,xs,ys,rfl,rfl,ha,hb,hz,q0,q1,q2⟩:=h;by_cases hx:xs=[]
 .cases rx;cases ry;obtain⟨its,r1,p1,_⟩:=I.tuple ha;obtain⟨its2,r2,p2,_⟩:=I.tuple hb;subst hx;cases r1;obtain⟨⟨cls,dd,data,sl⟩,ho,hc,n,hd⟩:=id p1;obtain⟨⟨cls2,dd2,data2,sl2⟩,ho2,hc2,n2,hd2⟩:=id p2;simp only at hc hd hc2 hd2;subst hc hd hc2 hd2;exact concat_meets ⟨_,ho,rfl⟩ ⟨_,ho2,rfl⟩ noFill_tuple_add seq_tuple_add ML MC (Ml _ _)
   (tuple_addW0 a b #[] its2.toArray n n2 dd dd2 sl sl2 rfl) ⟨ho,ho2,⟨.ref b,H,I,rfl,q0 rfl⟩⟩
 .exact uM OM s σ H (.ref a) (.ref b) v u Q I rx ry ⟨a,b,xs,ys,rfl,rfl,ha,hb,hx,hz,q1,λ_=>q2⟩
end
end
section
def pX {X:Cx}{y:Str}{py:Pos}{ix:Nat}{elt tg iter:Oo}{ifs:List Oo}{scope osc:Ol}{N:List Str}{k:Nat}{cap:List Nat}{g:TG}{tt:TT}{te:TE}{cl:List (Str×Of)}
  {OM:List (Of×Ou)} {σ:St} {H3:Hp} {s3:Og} {D it:Of} {fp:List Of} {tn:Nat->Oq->Prop} {J:It} {Q:St->Hp->Prop} {W:Nat->Nat->St->List V->Hp->Prop} {m0:Nat}
  (hNd:X.N.Nodup) (hix:X.N[ix]? = some y) (hLy:Loc X.env.scope y) (hfy:X.fn y=true\/X.env.scope.names.lookup y=some .local)
  (hc:X.calm=true) (hosc:X.env.scope=osc) (hcap:Caps X.N osc N k cap scope)
  (hcl:∀{x:Str} {c:Of},cl.lookup x=some c->X.env.cells.lookup x=some c) (hhas:∀x,(x,OI.free)∈scope.names->∃c,cl.lookup x=some c)
  (hg:∀cl C ex OM s H,PG (cxC X N scope cl C ex OM s H) tg g)
  (ht:∀cl C ex OM s H,PTs (cxC X N scope cl C ex OM s H) ifs tt)
  (he:∀cl C ex OM s H,PE (cxC X N scope cl C ex OM s H) elt te)
  (I3:Inv X OM σ H3 s3) (hD:H3 D=some (.lst [])) (T:Turn X.prog X.w X.K tg J fp it tn) (st:tn 0 s3.heap) (f3:∀b∈fp,bq X OM H3 b) (w0:W 0 m0 (aG k cap σ) [] H3)
  (turn:∀i m O' acc H',W i m O' acc H'->(J.stop i H'/\Q (σ.set ix<|some<|.ref D) H') \/
   (J.go i H'/\∀x H2,J.yld i H' x H2->g x O' H2 λσ2 H3=>tt σ2 H3 λok H4=>if ok=true then te σ2 H4 λy H5=>H5 D=some (.lst acc)/\acc.length<Os/\∃m',m'<m/\W (i+1) m' σ2 (acc++[y]) (upd H5 D<|.lst<|acc++[y])
    else H4 D=some (.lst acc)/\∃m',m'<m/\W (i+1) m' σ2 acc H4)) :
  Oz (model X.prog X.w) X.A (newFunctionEnv scope X.env.globals cl [] X.env.qual none .none<|some X.env) (λcenv s₄ =>
   codeAny (model X.prog X.w) X.A (.compStart (.ListComp elt [⟨tg,iter,ifs,0⟩] scope pos) 0 (.ref it) (.ref D) { cenv with scope:=relabel scope X.env }) (compPost (model X.prog X.w) X.A X.xe (some<|assign (.Name y py) X.env) (λ_ s'=>∃O' H',Inv X OM O' H' s'/\Q O' H') (.ref D) cenv.locals) s₄) X.xe s3:=by
 refine jo (act:=λenv k=>do kn elt (.ref D) env;k) (P:=λC=>compPost (model X.prog X.w) X.A X.xe (some<|assign (.Name y py) X.env) (λ_ s'=>∃O' H',Inv X OM O' H' s'/\Q O' H') (.ref D) C) (Qs:=λH'=>Q (σ.set ix<|some<|.ref D) H') (W:=λi m O' H'=>∃acc,H' D=some (.lst acc)/\W i m O' acc H') (λenv=>by rfl) hc hosc hcap hcl hhas hg ht I3 T st f3 ⟨[],hD,w0⟩ (λs6 σ5 H5 I6 I7 q=>?_) λi m O' H' ⟨acc,hD',w⟩=>?_
 .obtain⟨m,hn,_⟩:=id I6.loc;obtain⟨g0,g1,g2,g3,g4,g5⟩:=I3.fpOk (H':=H5) (b:=s3.heap.objs.size) (IT _) I6.free;obtain⟨o,es,ep,ho,hdat,rest⟩:=id hn;have I7p:Inv X (OM++[(s3.heap.objs.size,o)]) σ H5 s6:=I7.pins_of λp hp=>by
   rcases LD.1 hp with z | z
   .exact I7.pin p<|Jl _ z
   .rw[Jy.1 z];exact⟨ho,g0,g1,g2,λv z=>by have z':o.data = .cell v:=z;rw[hdat]at z';cases z'⟩
  show Oz (model X.prog X.w) X.A (assign (.Name y py) X.env<|.ref D) _ _ s6;refine wpAny_assign_Name (Q1 I7p hNd hix hLy (v:=.ref D) rfl (λs7 I8=>?_) hfy);have hC7:=(I8.pin (s3.heap.objs.size,o)<|Jl _<|Jl _<|Jy.2 rfl).1;refine⟨m,⟨o,es,ep,hC7,hdat,rest⟩,λh' hsb=>?_⟩;exact⟨_,H5,I8.unpinned.turned (t':=s7.toks) (λb o hb e=>(hsb.2 b hb).trans e) g0 g1 g3 g4 g5,q⟩
 .rcases turn i m O' acc H' w with h | ⟨go,step⟩
  .exact .inl h
  .refine .inr ⟨go,_,step,λσ2 H4 h=>?_,λpins' s σ2 H4 I h k R E hk=>?_⟩
   .obtain⟨hD9,m',hm,w9⟩:=(show H4 D=some (.lst acc)/\∃m',m'<m/\W (i+1) m' σ2 acc H4 from h);exact⟨m',hm,acc,hD9,w9⟩
   .refine Iw (Iw<|Jh (he _ _ _ _ _ _ _ s σ2 H4 _ I h) (λyv s10 ⟨y,H10,I10,r10,hD10,hz,m',hm,w10⟩=>?_) λ_ _ h'=>h'.elim);refine Iw (Jh (av (X:=cxC X N scope (M5 scope cl s3.heap.objs.size) s3.heap.objs.size fp OM s3 H3) _ s10 σ2 H10 (.ref D) [y] (.ref D) [yv] (λ_ H'=>H'=upd H10 D (.lst<|acc++[y])) I10 rfl (.cons r10 .nil) ⟨D,acc,y,rfl,rfl,hD10,hz,rfl⟩)
     (λ_ s11 ⟨_,H11,I11,_,e11⟩=>Iy ?_) λ_ _ h'=>h'.elim)
    subst e11;exact hk s11 σ2 _ I11 ⟨m',hm,_,i7,w10⟩
def tJ {X:Cx}{y:Str}{py spos:Pos}{ix:Nat}{elt tg iter:Oo}{ifs:List Oo}{scope osc:Ol}{N:List Str}{k:Nat}{cap:List Nat}{wi:TI}{g:TG}{tt:TT}{te:TE}
  (hNd:X.N.Nodup) (hix:X.N[ix]? = some y) (hLy:Loc X.env.scope y)
  (hc:X.calm=true) (hosc:X.env.scope=osc) (hcap:Caps X.N osc N k cap scope) (hi:PI X tg iter wi)
  (hg:∀cl C ex OM s H,PG (cxC X N scope cl C ex OM s H) tg g)
  (ht:∀cl C ex OM s H,PTs (cxC X N scope cl C ex OM s H) ifs tt)
  (he:∀cl C ex OM s H,PE (cxC X N scope cl C ex OM s H) elt te)
  (hs:∀x,OE iter X.env x=pure x:=by intro _;rfl) (hfy:X.fn y=true\/X.env.scope.names.lookup y=some .local:=by walk_at "v")
  (hsw:OB (.ListComp elt [⟨tg,iter,ifs,0⟩] scope pos) (some<|.Name y py) spos.line X.env=pure true:=by rfl) :
  PS X (.Assign [.Name y py] (.ListComp elt [⟨tg,iter,ifs,0⟩] scope pos) spos) (aU (tLC wi k cap g tt te)<|Q5 ix):=by
 intro OM s σ H D0 I h;have hcell:∀y∈scope.names,y.2 = .free->∃c,X.env.cells.lookup y.1=some c:=λy hy hk=>I.ok.has y.1 (by show X.env.scope.names.lookup y.1=_\/X.env.scope.names.lookup y.1=_;rw[hosc];exact hcap.free y hy hk)
 let f:Str->Of:=λx=>(X.env.cells.lookup x).getD 0
 have hf:∀y∈scope.names,y.2 = .free->X.env.cells.lookup y.1=some (f y.1):=λy hy hk=>by obtain⟨c,e⟩:=hcell y hy hk;show _=some ((X.env.cells.lookup y.1).getD 0);rw[e];rfl
 have hclos:closureFor scope X.env=pure (G9 f scope.names []):=M1 λy hy hk=>by unfold cellOf;rw[hf y hy hk]
 have hcl:∀{x:Str} {c:Of},(G9 f scope.names []).lookup x=some c->X.env.cells.lookup x=some c:=λ{x c} e=>by
  rcases O7 _ _ e with ⟨h1,h2⟩ | h1
  .rw[h2];exact hf (x,.free) h1 rfl
  .simp at h1
 have hhas:∀x,(x,OI.free)∈scope.names->∃c,(G9 f scope.names []).lookup x=some c:=λx hx=>⟨_,ae _ _<|.inl hx⟩
 generalize G9 f scope.names []=cl at hclos hcl hhas;rw[exec_Assign_Name_used _ _ _ _ hsw];refine Iw<|KG<|Iw ?_;show Oz _ X.A (do let _ <-comprehension (.ListComp elt [⟨tg,iter,ifs,0⟩] scope pos) scope X.env _ (newList []) false (eval iter X.env) (some<|assign (.Name y py) X.env)) _ _ s;refine Iw (Jh (Mm (use:=some<|assign (.Name y py) X.env) (cl:=cl) (Q:=λ_ s'=>∃O' H',Inv X OM O' H' s'/\D0.nx O' H') rfl hs hclos hcap.kind hcap.loc ?_) (λ_ s' hq=>Iy<|Iy hq) λ_ _ e=>e);refine thn (hi OM s σ H _ I h) λv s1 h1=>thn h1 λitv s2 h2=>?_
 obtain⟨it,fp,tn,J,H2,e,I2,T,st2,f2,q2⟩:=h2;subst e;obtain⟨W,⟨m0,w0⟩,turn⟩:=q2 s2.heap.objs.size<|I2.hok.fresh<|IT _;refine JP ?_;have I3:Inv X OM σ (upd H2 s2.heap.objs.size<|.lst []) { s2 with heap:=s2.heap.push { cls:=.type "list",data:=.seq ([]:List Oe).toArray } }:=I2.lnew (ys:=[]) (its:=[]) (t':=s2.toks) .nil<|JV _;have lt2:∀b∈fp,b≠s2.heap.objs.size:=λb hb=>by obtain⟨o,e,_⟩:=T.obj _ _ st2 b hb;exact IX<|IF e
 exact pX hNd hix hLy hfy hc hosc hcap hcl hhas hg ht he I3 i7 T (T.keep _ _ (s2.heap.push { cls:=.type "list",data:=.seq ([]:List Oe).toArray }) st2 λb _ o e=>ID _ e) (λb hb=>⟨by rw[h8<|lt2 b hb];exact(f2 b hb).1,(f2 b hb).2⟩) w0 turn
end
section
section
variable {X:Cx}{K:Fg}
theorem Z1:∀{xs:List V} {us:List Oe},xs.length=us.length->(∀(i:Nat) x u,xs[i]? = some x->us[i]? = some u->u0 x u)->n5 xs us
 | [],[],_,_=>.nil
 | [],_::_,e,_=>by simp at e
 | _::_,[],e,_=>by simp at e
 | x::xs,u::us,e,h=>.cons (h 0 x u rfl rfl) (Z1 (by simpa using e) λi y v h1 h2=>h (i+1) y v (by simpa using h1)<|by simpa using h2)
end
end
section
def tyD:My->String
 | .none=>"NoneType"
 | .bool _=>"bool"
 | .int _=>"int"
 | .str _=>"str"
 | .list _=>"list"
 | .tuple _=>"tuple"
 | .dict _=>"dict"
def isT (a T:String):Bool:=a == T||(a == "bool" && T == "int")
def wF (K:Fg):∀a∈["NoneType","bool","int","str","list","tuple"],∀T∈["bool","int","str","list","tuple"],PySem.W.kitOne K (.type a) (.type T)=some (isT a T):=by intro a ha T hT;simp only[IP,Kc,LK]at ha hT;rcases ha with rfl | rfl | rfl | rfl | rfl | rfl <;> rcases hT with rfl | rfl | rfl | rfl | rfl <;> rfl
section
variable {X:Cx}{K:Fg}
def vM {K:Fg}{H:Hp}{d:My}{x:V}(h:c6 K H d x):tyD d∈["NoneType","bool","int","str","list","tuple"]:=by cases d <;> simp[tyD];simp only[c6]at h
def yr (K:Fg):List V->Hp->VK->Prop:=λxs H Q=>∃(x:V) (T:String) (d:My),xs=[x,.ty T]/\c6 K H d x/\T∈["bool","int","str","list","tuple"]/\Q (.bl<|isT (tyD d) T) H
def qr (hK:X.K=K):A3 X (.builtin "isinstance") (yr K):=by
 subst hK;walk_at "kg";obtain⟨x,T,d,rfl,hd,hT,q⟩:=h;obtain⟨u,w',rfl,ru,rw'⟩:=sT r;cases(show w'=Oe.type T from rw');have e:=wF X.K (tyD d) (vM hd) T hT;have fin:∀tk,EP X OM σ Q (.bool<|isT (tyD d) T) { s with toks:=tk }:=λtk=>⟨.bl<|isT (tyD d) T,H,I.tok tk,rfl,q⟩
 cases d with
 | none =>simp only[c6]at hd;subst hd;exact af I ru .non e fin
 | bool b =>simp only[c6]at hd;subst hd;exact af I ru (.bl b) e fin
 | int i =>simp only[c6]at hd;subst hd;exact af I ru (.int i) e fin
 | str z =>simp only[c6]at hd;subst hd;exact af I ru (.str z) e fin
 | tuple ds =>obtain⟨a,xs,rfl,hq,hd'⟩:=hd.ofTup;cases(show u=Oe.ref a from ru);obtain⟨its,rv,⟨o,h1,h2,n,h3⟩,_⟩:=I.tuple hq;exact JR PySem.W.kitx_tuple I.kIn ⟨_,h1,h2⟩ e (λz=>nomatch z) fin
 | list ds =>simp only[c6]at hd;obtain⟨a,xs,rfl,hq,hd'⟩:=hd;cases(show u=Oe.ref a from ru);obtain⟨its,rv,p,_⟩:=I.list<|SqL.of hq;obtain⟨o,h1,h2,n,h3⟩:=p.isList;exact JR NK I.kIn ⟨_,h1,h2⟩ e (λz=>nomatch z) fin
 | dict OQ=>simp only[c6]at hd
end
end
section
section
variable {X:Cx}{K:Fg}
end
end
section
section
variable {X:Cx}{K:Fg}
def BU (K:Fg):List V->Hp->VK->Prop:=λxs H Q=>∃(a:Of) (ns:List Int),xs=[.ref a]/\SqT K H a (ns.map V.int)/\ns≠[]/\∀m,m∈ns->(∀n∈ns,m<=n)->Q (.int m) H
def pY (hK:X.K=K)(hc:X.calm=true):A3 X (.builtin "min") (BU K):=by
 subst hK;walk_at "kg";obtain⟨a,ns,rfl,hq,hne,q⟩:=h;obtain⟨u,rfl,ru⟩:=L8 r;cases ru;obtain⟨its,rv,p,hz⟩:=I.tuple hq;have hlen:its.length=ns.length:=by rw[<-rv.length,Iz]
 have hpos:0<ns.length:=Mf.2 hne;have p':s.heap.IsTuple a its.toArray:=p;have hlt:a<s.heap.objs.size:=by obtain⟨o,e,_⟩:=p;exact IF e
 have hval:∀(i:Nat) (v:Oe),its.toArray[i]? = some v->∃t,v = .int (ns.getD i 0) t:=λi v hv=>by
  have hv:its[i]? = some v:=by simpa using hv
  obtain⟨hi,_⟩:=IH.1 hv;have hb:(ns.map V.int)[i]? = some (V.int<|ns.getD i 0):=by rw[IU,IM<|by omega];simp[List.getD,IM<|show i<ns.length by omega]
  obtain⟨u,hu,ru⟩:=rv.get hb;rw[hv]at hu;cases hu;exact ru
 refine call_min_walk<|Le p' ?_;have hne':a≠s.heap.objs.size:=IX hlt;refine⟨_,_,_,_,_,_,_,rfl,Walks.tuple (A:=X.A.in1) (I.ok.hd hc) _ a hne' its.toArray,⟨⟨_,Jc _ rfl,rfl,rfl⟩,?_⟩,?_,?_,CmpOf.ints_lt (λi=>ns.getD i 0) hval,λv h' tk hP hk=>?_⟩
 .exact p'.at λo e=>ID _ e
 .intro b hb;rw[Kj];have:b=s.heap.objs.size\/b=a:=by simpa using hb
  rcases this with e | e
  .rw[e];exact Kd _
  .rw[e];exact Kh hlt
 .rw[IW,hlen];exact hpos
 .obtain⟨h1,h2⟩:=argBest_lt (λi=>ns.getD i 0)<|its.toArray.size-1;obtain⟨t,rfl⟩:=hval _ v hP;have hsz:its.toArray.size=ns.length:=by rw[IW,hlen]
  refine⟨.int _,H,I.kept λb o e=>hk b o (by simp;exact IX<|IF e)<|ID _ e,⟨t,rfl⟩,q _ ?_ λn hn=>?_⟩
  .exact getD_mem (by omega)
  .obtain⟨j,hj,rfl⟩:=mem_getD hn;exact h2 j (by omega)
end
end
end L2
namespace L2
open PySem PyProof.Rows
def Lx (κ:Nat->Int)(i j:Nat):Prop:=κ i < κ j\/(κ i = κ j/\i<j)
structure SB (kd:SortKind) (a0:Array OH) (st:SortSt):Prop where
 size:(arrOf st).size=a0.size
 kind:kindOf st=kd
 failed:failedOf st=none
 pend:pendingOf st = #[]
variable {kd:SortKind}
def SB.setArr {a0:Array OH}{st:SortSt}(h:SB kd a0 st){xs:Array OH}(hp:xs.size=(arrOf st).size):SB kd a0 (PyProof.Rows.setArr st xs):=⟨hp.trans h.size,h.kind,h.failed,h.pend⟩
structure SG (kd:SortKind) (a0:Array OH) (st:SortSt) (p:Nat->Nat):Prop where
 base:SB kd a0 st
 inj:∀i j,i<a0.size->j<a0.size->p i=p j->i=j
 at_:∀i,i<a0.size->(arrOf st)[i]? = a0[p i]?
 lt:∀i,i<a0.size->p i<a0.size
def du (prog:Oh)(w:Oi)(A:Oj)(s:Og)(kd:SortKind)(a0:Array OH)(κ:Nat->Int):Prop :=
 ∀(i j:Nat) (x y:OH),i≠j->a0[i]? = some x->a0[j]? = some y->∀(E:Oe->Og->Prop) (Q:Bool->Og->Prop),Q (decide (κ i < κ j)) s->Oz (model prog w) A (keyLt' kd x.1 y.1) Q E s
def SoK (κ:Nat->Int)(p:Nat->Nat)(n:Nat):Prop:=∀i j,i<=j->j<n->κ (p i) <= κ (p j)
def SoS (κ:Nat->Int)(p:Nat->Nat)(n:Nat):Prop:=(∀i j,i<j->j<n->Lx κ (p i) (p j))/\(∀i,n<=i->p i=i)/\∀i,i<n->p i<n
variable {κ:Nat->Int}
def SoS.sorted {p:Nat->Nat}{n:Nat}(h:SoS κ p n):SoK κ p n:=by
 intro i j hij hj;by_cases e:i=j
 .subst e;exact LL _
 .rcases h.1 i j (by omega) hj with q | q
  .exact Int.le_of_lt q
  .exact Int.le_of_eq q.1
def SoS.more {p:Nat->Nat}{n m:Nat}(h:SoS κ p n)(hnm:n<=m)(hs:SoK κ p m):SoS κ p m:=by
 refine⟨λi j hij hj=>?_,λi hi=>h.2.1 i (by omega),λi hi=>?_⟩
 .by_cases hjn:j<n
  .exact h.1 i j hij hjn
  .have q:=hs i j (by omega) hj;have ej:=h.2.1 j (by omega);rcases Nx q with q | q
   .exact .inl q
   .refine .inr ⟨q,?_⟩;rw[ej];by_cases hin:i<n
    .have:=h.2.2 i hin;omega
    .rw[h.2.1 i<|by omega];exact hij
 .by_cases hin:i<n
  .have:=h.2.2 i hin;omega
  .rw[h.2.1 i<|by omega];exact hi
variable {nrem:Nat}
section
variable {prog:Oh}{w:Oi}{A:Oj}{E:Oe->Og->Prop}{s:Og}{a0:Array OH}
def kq {st:SortSt}{p:Nat->Nat}{i j:Nat}{Q:Option Bool->SortSt->Prop}(g:SG kd a0 st p)(hL:du prog w A s kd a0 κ)(hi:i<a0.size)(hj:j<a0.size)(hij:i≠j)
  (h:Q (some<|decide (κ (p i) < κ (p j))) st):wpS (model prog w) A E s (ltAt' i j) Q st:=by have e1:=g.at_ i hi;have e2:=g.at_ j hj;have l1:=g.lt i hi;have l2:=g.lt j hj;have f1:a0[p i]? = some a0[p i]:=getElem?_pos a0 (p i) l1;have f2:a0[p j]? = some a0[p j]:=getElem?_pos a0 (p j) l2;rw[ltAt'_eq];refine JA<|wpS_get ?_;show wpS _ _ _ _ (do let x <-elem' (arrOf st) i;let y <-elem' (arrOf st) j;lt' x y) Q st;rw[elem'_eq,elem'_eq,e1,e2,f1,f2];refine JA<|Ke<|JA<|Ke ?_;rw[lt'_eq];refine JA<|wpS_get ?_;rw[g.base.kind];refine JA (wpS_lift<|LB<|hL _ _ _ _ (λz=>hij<|g.inj i j hi hj z) f1 f2 _ _ ?_);exact⟨rfl,Ke h⟩
def SG.bub {st:SortSt}{p:Nat->Nat}(g:SG kd a0 st p){k l:Nat}(hk:k<a0.size)(hl:l<=k) :
  SG kd a0 (setArr st<|bubble (arrOf st) k<|k-l) (λi=>if i=l then p k else if l<i/\i<=k then p (i-1) else p i):=by
 refine⟨g.base.setArr<|bubble_size _ _ _,λi j hi hj e=>?_,λi hi=>?_,λi hi=>?_⟩
 .have q:=g.inj;try dsimp only at e
  repeat' split at e
  all_goals first
   | omega
   | (have:=q _ _ (by omega) (by omega) e;omega)
 .have e:=getElem?_bubble (xs:=arrOf st) (src:=k) (by rw[g.base.size];exact hk) (k-l) (by omega) i;rw[show k-(k-l)=l by omega]at e;show(bubble (arrOf st) k<|k-l)[i]? = _;rw[e];repeat' split
  .exact g.at_ _ hk
  .exact g.at_ _ (by omega)
  .exact g.at_ _ hi
 .try dsimp only
  repeat' split
  .exact g.lt _ hk
  .exact g.lt _ (by omega)
  .exact g.lt _ hi
def SG.mir {st:SortSt}{p:Nat->Nat}(g:SG kd a0 st p){u v:Nat}(hv:v<=a0.size) :
  SG kd a0 (setArr st<|mirror (arrOf st) u v<|(v-u) / 2) (λi=>if u<=i/\i<v then p (u+v-1-i) else p i):=by
 refine⟨g.base.setArr<|mirror_size _ _ _ _,λi j hi hj e=>?_,λi hi=>?_,λi hi=>?_⟩
 .have q:=g.inj;try dsimp only at e
  repeat' split at e
  all_goals first
   | omega
   | (have:=q _ _ (by omega) (by omega) e;omega)
 .have e:=getElem?_mirror_all (xs:=arrOf st) (i:=u) (j:=v) (by rw[g.base.size];exact hv) i;show(mirror (arrOf st) u v<|(v-u) / 2)[i]? = _;rw[e];repeat' split
  .exact g.at_ _ (by omega)
  .exact g.at_ _ hi
 .try dsimp only
  split
  .exact g.lt _ (by omega)
  .exact g.lt _ hi
def qp {st:SortSt}{p:Nat->Nat}{n ok:Nat}{Q:Bool->SortSt->Prop}(hL:du prog w A s kd a0 κ)(hn:n<=a0.size)(hok:ok<=n)(hB:SG kd a0 st p)(hs:SoS κ p ok)
  (h:∀st' p',SG kd a0 st' p'->SoS κ p' n->Q true st'):wpS (model prog w) A E s (binarySort' 0 n ok) Q st:=by
 rw[binarySort'_eq];simp only[Jv];refine JA (wpS_mono (Mn (I:=λk c st'=>c=(none,())/\∃p',SG kd a0 st' p'/\SoS κ p' (min k n))
  (Q:=λc st'=>c=(none,())/\∃p',SG kd a0 st' p'/\SoS κ p' n) ?step ?fin ?init) ?post)
 case post =>
  rintro c st' ⟨rfl,p',hB',hs'⟩
  exact Ke<|h st' p' hB' hs'
 case init =>
  refine⟨rfl,p,hB,?_⟩
  by_cases h1:ok=0
  .subst h1
   refine hs.more (by omega) λi j hij hj=>?_
   have:i=j:=by omega
   subst this;exact LL _
  .rw[show min (max ok 1) n=ok by omega];exact hs
 case fin =>
  rintro c st' ⟨hc,p',hB',hs'⟩
  refine⟨hc,p',hB',?_⟩
  rwa [show min (max (max ok 1) n) n=n by omega]at hs'
 case step =>
  rintro k c st' hak hkn ⟨rfl,p',hG',hS'⟩
  rw[show min k n=k by omega]at hS'
  have hk:k<a0.size:=by omega
  have hs':=hS'.sorted
  have hB':=hG'.base
  refine JA (wpS_mono (Mn (I:=λx c st''=>st''=st'/\∃l r,c=(none,l,r)/\l<=r/\r<=k/\r-l<=k-x /\
    (∀i,i<l->κ (p' i) <= κ (p' k))/\(∀i,r<=i->i<k->κ (p' k) < κ (p' i)))
   (Q:=λc st''=>st''=st'/\∃l r,c=(none,l,r)/\l<=k /\
    (∀i,i<l->κ (p' i) <= κ (p' k))/\(∀i,l<=i->i<k->κ (p' k) < κ (p' i))) ?istep ?ifin ?iinit) ?ipost)
  case iinit=>exact⟨rfl,0,k,rfl,by omega,by omega,by omega,λi hi=>by omega,λi h1 h2=>by omega⟩
  case ifin =>
   rintro c st'' ⟨rfl,l,r,rfl,hlr,hrk,hm,hlo,hhi⟩
   have:l=r:=by omega
   subst this
   exact⟨rfl,l,l,rfl,hrk,hlo,hhi⟩
  case istep =>
   rintro x c st'' _ hxk ⟨rfl,l,r,rfl,hlr,hrk,hm,hlo,hhi⟩
   dsimp only
   by_cases hge:l >= r
   .rw[IE hge]
    have:l=r:=by omega
    subst this
    exact Ke ⟨rfl,l,l,rfl,hrk,hlo,hhi⟩
   .rw[II hge]
    refine JA (kq hG' hL hk (by omega) (by omega) ?_)
    by_cases hless:κ (p' k) < κ (p'<|(l+r) / 2)
    .simp only[hless,MM,Kl]
     refine Ke ⟨rfl,l,(l+r) / 2,rfl,by omega,by omega,by omega,hlo,λi h1 h2=>?_⟩
     exact Int.lt_of_lt_of_le hless<|hs' _ _ h1 h2
    .simp only[hless,Ni,Jk,JI]
     refine Ke ⟨rfl,(l+r) / 2+1,r,rfl,by omega,by omega,by omega,λi h1=>?_,hhi⟩
     exact Int.le_trans (hs' i ((l+r) / 2) (by omega)<|by omega)<|Int.not_lt.1 hless
  case ipost =>
   rintro c st'' ⟨rfl,l,r,rfl,hlk,hlo,hhi⟩
   show wpS _ _ _ _ (do moveDown' k l;pure (ForInStep.yield (none,()))) _ _
   rw[moveDown'_eq]
   refine JA<|wpS_modify<|Ke ⟨rfl,_,hG'.bub hk hlk,?_⟩
   rw[show min (k+1) n=k+1 by omega]
   have ek:=hS'.2.1 k<|IT _
   have lo':∀i,i<l->Lx κ (p' i) (p' k):=λi hi=>by
    have q:=hlo i hi;rcases Nx q with q | q
    .exact .inl q
    .refine .inr ⟨q,?_⟩;rw[ek];exact hS'.2.2 i (by omega)
   have hi':∀i,l<=i->i<k->Lx κ (p' k) (p' i):=λi h1 h2=>by have q:=hhi i h1 h2;exact .inl q
   refine⟨λi j hij hj=>?_,λi hi=>?_,λi hi=>?_⟩
   .dsimp only
    repeat' split
    all_goals first
     | (exfalso;omega)
     | exact lo' _ (by omega)
     | exact hi' _ (by omega) (by omega)
     | exact hS'.1 _ _ (by omega) (by omega)
   .dsimp only
    rw[II (by omega),II<|by omega]
    exact hS'.2.1 i (by omega)
   .dsimp only
    repeat' split
    .rw[ek];omega
    .have:=hS'.2.2 (i-1) (by omega);omega
    .have:=hS'.2.2 i (by omega);omega
def qL {st:SortSt}{p:Nat->Nat}{a:Nat}{Q:AscSt->SortSt->Prop}(hL:du prog w A s kd a0 κ)(hn:nrem<=a0.size)(ha:1<=a)(han:a<=nrem)(hG:SG kd a0 st p)
  (hs:SoK κ p a)
  (h:∀n,a<=n->n<=nrem->SoK κ p n->(n=nrem \/ κ (p n) < κ (p<|n-1))->Q (none,n) st) :
  wpS (model prog w) A E s (ascLoop a nrem) Q st:=by
 unfold ascLoop;refine Mn (I:=λx c st'=>st'=st/\c=(none,x)/\SoK κ p x) ?step ?fin ⟨rfl,rfl,hs⟩;case fin =>
  rintro c st' ⟨rfl,rfl,hs'⟩
  rw[show max a nrem=nrem by omega]at hs' ⊢
  exact h nrem han (IT _) hs'<|.inl rfl
 case step =>
  rintro x c st' hax hxn ⟨rfl,rfl,hs'⟩
  dsimp only
  refine JA (kq hG hL (by omega) (by omega) (by omega) ?_)
  by_cases hless:κ (p x) < κ (p<|x-1)
  .simp only[hless,MM,Kl]
   exact Ke (h x hax (by omega) hs'<|.inr hless)
  .simp only[hless,Ni,Jk,JI]
   refine Ke ⟨rfl,rfl,λi j hij hj=>?_⟩
   by_cases hjx:j<x
   .exact hs' i j hij hjx
   .have hj':j=x:=by omega
    subst hj'
    by_cases hi':i=j
    .subst hi';exact LL _
    .exact Int.le_trans (hs' i (j-1) (by omega)<|by omega)<|Int.not_lt.1 hless
def DoS (κ:Nat->Int)(p:Nat->Nat)(n:Nat):Prop:=(∀i j,i<j->j<n->Lx κ (p j) (p i))/\(∀i,n<=i->p i=i)/\∀i,i<n->p i<n
def kx {st:SortSt}{p:Nat->Nat}{n:Nat}{Q:Option Nat->SortSt->Prop}(hL:du prog w A s kd a0 κ)(hn:nrem<=a0.size)(h1:1<=n)(hnn:n<=nrem)(hB:SG kd a0 st p)
  (hs:DoS κ p n) (h:∀m st' p',SG kd a0 st' p'->1<=m->m<=nrem->SoS κ p' m->Q (some m) st') :
  wpS (model prog w) A E s (tail3 n nrem) Q st:=by
 unfold tail3;refine JA<|wpS_reverse ?_;have hG:=hB.mir (u:=0) (v:=n) (by omega);have hS:SoS κ (λi=>if 0<=i/\i<n then p (0+n-1-i) else p i) n:=by
  refine⟨λi j hij hj=>?_,λi hi=>?_,λi hi=>?_⟩
  .dsimp only;rw[IE (by omega),IE<|by omega];exact hs.1 _ _ (by omega) (by omega)
  .dsimp only;rw[II<|by omega];exact hs.2.1 i hi
  .dsimp only;rw[IE<|by omega];exact hs.2.2 _ (by omega)
 exact JA (qL hL hn h1 hnn hG hS.sorted λm hm1 hm2 hsm _=>Ke<|h m _ _ hG (by omega) hm2<|hS.more hm1 hsm)
def GoS (κ:Nat->Int)(p:Nat->Nat)(g n:Nat):Prop :=
 DoS κ p g/\g<n/\(∀i,g<=i->i<n->κ i = κ (n-1))/\∀i,i<g->κ (n-1) < κ (p i)
def GoS.close {st:SortSt}{p:Nat->Nat}{g n:Nat}(hG:SG kd a0 st p)(h:GoS κ p g n)(hn:n<=a0.size):DoS κ (λi=>if g<=i/\i<n then p (g+n-1-i) else p i) n:=by
 obtain⟨hd,hg,he,hl⟩:=h;refine⟨λi j hij hj=>?_,λi hi=>?_,λi hi=>?_⟩
 .dsimp only;by_cases h1:g<=i
  .rw[IE (by omega),IE (by omega),hd.2.1 _ (by omega),hd.2.1 _<|by omega];refine .inr ⟨?_,by omega⟩;rw[he _ (by omega) (by omega),he (g+n-1-i) (by omega)<|by omega]
  .by_cases h2:g<=j
   .rw[IE (by omega),II (by omega),hd.2.1 _<|by omega];refine .inl ?_;rw[he _ (by omega)<|by omega];exact hl i (by omega)
   .rw[II (by omega),II<|by omega];exact hd.1 i j hij (by omega)
 .dsimp only;rw[II<|by omega];exact hd.2.1 i (by omega)
 .dsimp only;split
  .rw[hd.2.1 _<|by omega];omega
  .have:=hd.2.2 i (by omega);omega
def GoS.close1 {p:Nat->Nat}{g n:Nat}(h:GoS κ p g n)(e:n=g+1):DoS κ p n:=by
 obtain⟨hd,hg,he,hl⟩:=h;subst e;refine⟨λi j hij hj=>?_,λi hi=>hd.2.1 i (by omega),λi hi=>?_⟩
 .by_cases h2:j<g
  .exact hd.1 i j hij h2
  .have:j=g:=by omega
   subst this;rw[hd.2.1 j<|IT _];exact .inl<|hl i hij
 .by_cases h2:i<g
  .have:=hd.2.2 i h2;omega
  .rw[hd.2.1 i<|by omega];exact hi
def xc {st:SortSt}{p:Nat->Nat}{n:Nat}{Q:DescSt->SortSt->Prop}(hL:du prog w A s kd a0 κ)(hn:nrem<=a0.size)(h1:1<=n)(hnn:n<=nrem)(hB:SG kd a0 st p)
  (hs:GoS κ p (n-1) n)
  (h:∀m neq st' p',SG kd a0 st' p'->n<=m->m<=nrem->neq+1<=m->GoS κ p' (m-(neq+1)) m->Q (none,m,neq) st') :
  wpS (model prog w) A E s (descLoop n nrem) Q st:=by
 unfold descLoop;refine Mn (I:=λx c st'=>∃neq p',c=(none,x,neq)/\SG kd a0 st' p'/\neq+1<=x/\GoS κ p' (x-(neq+1)) x) ?step ?fin ⟨0,p,rfl,hB,by omega,hs⟩;case fin =>
  rintro c st' ⟨neq,p',rfl,hG',hq,hS'⟩
  rw[show max n nrem=nrem by omega]at hq hS' ⊢
  exact h nrem neq st' p' hG' hnn (IT _) hq hS'
 case step =>
  rintro x c st' hax hxn ⟨neq,p',rfl,hG',hq,hS'⟩
  dsimp only
  refine JA (kq hG' hL (by omega) (by omega) (by omega) ?_)
  have k1:p' x=x:=hS'.1.2.1 x (by omega)
  have k2:p' (x-1)=x-1:=hS'.1.2.1 (x-1) (by omega)
  rw[k1,k2]
  have put:∀{p2:Nat->Nat},κ x < κ (x-1)->DoS κ p2 x->(∀i,i<x->κ (x-1) <= κ (p2 i))->GoS κ p2 (x+1-(0+1)) (x+1):=by
   intro p2 hless d ge;rw[show x+1-(0+1)=x by omega];refine⟨d,by omega,λi h1 h2=>?_,λi hi=>?_⟩
   .rw[show i=x by omega];rfl
   .exact Int.lt_of_lt_of_le hless<|ge i hi
  have ge0:∀i,i<x->κ (x-1) <= κ (p' i):=λi hi=>by
   by_cases hg:i<x-(neq+1)
   .exact Int.le_of_lt<|hS'.2.2.2 i hg
   .rw[hS'.1.2.1 i<|by omega];exact Int.le_of_eq (hS'.2.2.1 i (by omega) hi).symm
  by_cases hless:κ x < κ (x-1)
  .simp only[hless,MM,Kl]
   by_cases hneq:neq > 0
   .rw[IE hneq]
    have hG2:=hG'.mir (u:=x-(neq+1)) (v:=x) (by omega)
    refine JA (wpS_reverse<|Ke ⟨0,_,rfl,hG2,by omega,put hless (hS'.close hG'<|by omega) λi hi=>?_⟩)
    try dsimp only
    split
    .exact ge0 _ (by omega)
    .exact ge0 _ hi
   .rw[II hneq]
    exact Ke ⟨0,p',rfl,hG',by omega,put hless (hS'.close1<|by omega) ge0⟩
  .simp only[hless,Ni,Jk,JI]
   refine JA (kq hG' hL (by omega) (by omega) (by omega) ?_)
   rw[k1,k2]
   by_cases hlarger:κ (x-1) < κ x
   .simp only[hlarger,MM,Kl]
    exact Ke (h x neq st' p' hG' hax (by omega) hq hS')
   .simp only[hlarger,Ni,Jk,JI]
    have heqx:κ x = κ (x-1):=by omega
    refine Ke ⟨neq+1,p',rfl,hG',by omega,?_⟩
    rw[show x+1-(neq+1+1)=x-(neq+1) by omega]
    refine⟨hS'.1,by omega,λi h1 h2=>?_,λi hi=>?_⟩
    .rw[show x+1-1=x by omega]
     by_cases hix:i=x
     .subst hix;rfl
     .rw[heqx];exact hS'.2.2.1 i h1 (by omega)
    .rw[show x+1-1=x by omega,heqx];exact hS'.2.2.2 i hi
def cY {st:SortSt}{p:Nat->Nat}{n:Nat}{Q:Option Nat->SortSt->Prop}(hL:du prog w A s kd a0 κ)(hn:nrem<=a0.size)(hnn:n+1<=nrem)(hB:SG kd a0 st p)
  (hs:GoS κ p n (n+1)) (h:∀m st' p',SG kd a0 st' p'->1<=m->m<=nrem->SoS κ p' m->Q (some m) st') :
  wpS (model prog w) A E s (descPart n nrem) Q st:=by
 unfold descPart;refine JA<|wpS_lift<|KN ⟨rfl,?_⟩;refine JA (xc hL hn (by omega) hnn hB hs λm neq st' p' hG' hm1 hm2 hq hS'=>?_);dsimp only;by_cases hneq:neq > 0
 .rw[IE hneq];exact JA (wpS_reverse<|kx hL hn (by omega) hm2 (hG'.mir<|by omega) (hS'.close hG'<|by omega) h)
 .rw[II hneq];exact kx hL hn (by omega) hm2 hG' (hS'.close1<|by omega) h
def tL {st:SortSt}{Q:Option Nat->SortSt->Prop}(hL:du prog w A s kd a0 κ)(hn:nrem<=a0.size)(h1:1<=nrem)(hB:SG kd a0 st id)
  (h:∀m st' p',SG kd a0 st' p'->1<=m->m<=nrem->SoS κ p' m->Q (some m) st') :
  wpS (model prog w) A E s (countRun' 0 nrem) Q st:=by
 rw[countRun0_eq];have S0:SoS κ id 0:=⟨λi j _ hj=>by omega,λi _=>rfl,λi hi=>by omega⟩;have one:SoK κ id 1:=λi j hij hj=>by
  have:i=j:=by omega
  subst this;exact LL _
 refine JA (qL hL hn (IT 1) h1 hB one λn hn1 hn2 hsn hor=>?_);dsimp only;by_cases hnn:n=nrem
 .rw[IE<|by simpa using hnn];exact Ke (h n st id hB hn1 hn2<|S0.more (by omega) hsn)
 .rw[II<|by simpa using hnn];have hlt:κ n < κ (n-1):=hor.resolve_left hnn;by_cases hgt:n > 1
  .rw[IE hgt];refine JA (kq hB hL (by omega) (by omega) (by omega) ?_);simp only[id];by_cases hrose:κ 0 < κ (n-1)
   .simp only[hrose,MM,Kl];exact Ke (h n st id hB hn1 hn2<|S0.more (by omega) hsn)
   .simp only[hrose,Ni,Jk,JI];have hall:∀j,j<n->κ j = κ (n-1):=by intro j hk;have a1:κ 0 <= κ j:=hsn 0 j (by omega) hk;have a2:κ j <= κ (n-1):=hsn j (n-1) (by omega) (by omega);omega
    refine JA (wpS_reverse<|cY hL hn (by omega) (hB.mir<|by omega) ?_ h);refine⟨⟨λi j hij hj=>?_,λi hi=>?_,λi hi=>?_⟩,by omega,λi h1 h2=>?_,λi hi=>?_⟩
    .dsimp only;rw[IE (by omega),IE<|by omega];refine .inr ⟨?_,by simp only[id];omega⟩;simp only[id];rw[hall _ (by omega),hall (0+n-1-i)<|by omega]
    .dsimp only;rw[II<|by omega];rfl
    .dsimp only;rw[IE<|by omega];simp only[id];omega
    .rw[show i=n by omega];rfl
    .dsimp only;rw[IE<|by omega];simp only[id]at hlt ⊢;rw[hall (0+n-1-i) (by omega),show n+1-1=n by omega];exact hlt
  .rw[II hgt];have hn1':n=1:=by omega
   subst hn1';refine cY hL hn (by omega) hB ⟨⟨λi j hij hj=>by omega,λi hi=>rfl,λi hi=>hi⟩,by omega,λi h1 h2=>?_,λi hi=>?_⟩ h
   .rw[show i=1 by omega]
   .rw[show i=0 by omega];exact hlt
def mz (κ:Nat->Int)(a0:Array OH)(st:SortSt):Prop :=
 failedOf st=none/\pendingOf st = #[(0,a0.size,0)]/\(arrOf st).size=a0.size/\∃p,(∀i,i<a0.size->(arrOf st)[i]? = a0[p i]?)/\SoS κ p a0.size
def SG.done {st:SortSt}{p:Nat->Nat}(g:SG kd a0 st p)(h:SoS κ p a0.size):mz κ a0 (setPending st<|(pendingOf st).push (0,a0.size,0)) :=
 ⟨g.base.failed,by show(pendingOf st).push _=_;rw[g.base.pend];rfl,g.base.size,p,g.at_,h⟩
def wg {st:SortSt}{Q:Unit->SortSt->Prop}(hL:du prog w A s kd a0 κ)(hB:SG kd a0 st id)(h2:2<=a0.size)(h64:a0.size<64)
  (h:∀st',failedOf st'=none->(arrOf st').size=a0.size->(∃p,(∀i,i<a0.size->(arrOf st')[i]? = a0[p i]?)/\SoS κ p a0.size)->Q () st'):wpS (model prog w) A E s sortRuns' Q st:=by
 rw[sortRuns'_eq];refine JA<|wpS_get ?_;dsimp only;have hmr:minRun' a0.size a0.size 0=a0.size:=by
  obtain⟨f,hf⟩:∃f,a0.size=f+1:=⟨a0.size-1,by omega⟩;have:minRun' (f+1) a0.size 0=a0.size:=by rw[minRun'_succ,IE h64];rfl
  rwa [<-hf]at this
 simp only[hB.base.size,hmr];refine JA (wpS_mono (Mn
  (I:=λx c st'=>(x=0/\c=(none,0)/\SG kd a0 st' id)\/(1<=x/\c=(none,a0.size)/\mz κ a0 st'))
  (Q:=λc st'=>c=(none,a0.size)/\mz κ a0 st') ?step ?fin (.inl ⟨rfl,rfl,hB⟩)) ?post)
 case fin =>
  rintro c st' (⟨hx,_,_⟩ | ⟨_,hc,hD⟩)
  .omega
  .exact⟨hc,hD⟩
 case step =>
  rintro x c st' _ hx (⟨rfl,rfl,hB'⟩ | ⟨hx1,rfl,hD⟩)
  .dsimp only
   rw[II<|by omega]
   simp only[Nat.sub_zero,Nat.min_self,Jv]
   refine JA (tL hL (IT _) (by omega) hB' λm st2 p2 hB2 hm1 hm2 hs2=>?_)
   dsimp only
   by_cases hlt:m<a0.size
   .rw[IE hlt]
    refine JA<|wpS_lift<|KN ⟨rfl,?_⟩
    refine JA (qp hL (IT _) hm2 hB2 hs2 λst3 p3 hB3 hs3=>?_)
    simp only[KR,Jk,JI]
    refine JA<|wpS_get ?_
    have hb:(pendingOf st3).back? = none:=by rw[hB3.base.pend];rfl
    rw[hb]
    dsimp only
    exact JA (wpS_modify<|Ke<|.inr ⟨by omega,rfl,hB3.done hs3⟩)
   .rw[II hlt]
    have hm:m=a0.size:=by omega
    subst hm
    refine JA<|wpS_get ?_
    have hb:(pendingOf st2).back? = none:=by rw[hB2.base.pend];rfl
    rw[hb]
    dsimp only
    exact JA (wpS_modify<|Ke<|.inr ⟨by omega,rfl,hB2.done hs2⟩)
  .dsimp only
   rw[IE<|IT _]
   exact Ke ⟨rfl,hD⟩
 case post =>
  rintro c st' ⟨rfl,hD⟩
  dsimp only
  refine JA (wpS_mono (Mn (I:=λ_ c st''=>st''=st'/\c=(none,())) (Q:=λc st''=>st''=st'/\c=(none,())) ?_ (λ_ _ hh=>hh) ⟨rfl,rfl⟩) ?_)
  .rintro x c st'' _ _ ⟨rfl,rfl⟩
   refine JA<|wpS_get ?_
   rw[IE (by rw[hD.2.1];exact IT 1)]
   exact Ke ⟨rfl,rfl⟩
  .rintro c st'' ⟨rfl,rfl⟩
   exact Ke<|h _ hD.1 hD.2.2.1 hD.2.2.2
end
end L2
namespace L2
open PySem PySem.Spec PyProof.Rows PySem.W
variable {OM:List (Of×Ou)}
section
def cdO (c:Of)(q:Str):HO:=.ext λh=>h.CodeRec (.ref c) q
def Bv (H:Hp)(P:Of)(q:Str):Prop:=∃ps,H P=some (.tbl ps)/\TriplesOk ps.toList/\∀pos cv,codeAmong pos ps.toList=some cv->∃c,cv = .ref c/\H c=some (cdO c q)
def BMd (base:Oq)(mg:Str->Option Oe):Prop:=∃bm ob,mg "__builtins__" = some (.ref bm)/\bm≠builtinsNs/\base.get? bm=some ob/\ob.cls = .type "module" /\ ob.dict=some builtinsNs/\ob.data = .plain
section
variable {X:Cx}{σ:St}{H:Hp}{s:Og}
end
end
section
section
variable {X:Cx}{σ:St}{H:Hp}{s:Og}
end
end
section
def kQ:V->Int
 | .int i=>i
 | .bl b=>if b then 1 else 0
 | _=>0
def dh (ks:List V)(i:Nat):Int:=kQ<|ks.getD i .non
def rq (ks xs ys:List V):Prop:=ys.length=xs.length/\∃p,SoS (dh ks) p xs.length/\∀i,i<xs.length->ys[i]? = xs[p i]?
section
variable {X:Cx}{σ:St}{H:Hp}{s:Og}
end
end
section
def atl {α:Type}(a:Array α):a.toList.length=a.size:=JM
section
variable {X:Cx}{σ:St}{H:Hp}{s:Og}{Y:Oj}{E:Oe->Og->Prop}{P:PySem.Fin->Og->Prop}{a kS:Of}{xs ks:List V}{its:List Oe}{e1:Nat}
end
end
section
section
variable {X:Cx}{σ:St}{H:Hp}{s:Og}{Y:Oj}{E:Oe->Og->Prop}{P:PySem.Fin->Og->Prop}{a:Of}{xs ks:List V}{its:List Oe}
end
end
section
end
variable {kd:SortKind}{κ:Nat->Int}
section
section
variable {prog:Oh}{w:Oi}{A:Oj}{E:Oe->Og->Prop}{s:Og}
def bD {a:Of}{vs:List Oe}{n:Nat}{P:PySem.Fin->Og->Prop}(ho:s.heap.get? a=some (seqObj "list" vs.toArray n))(h64:vs.length<64)
  (hkind:2<=vs.length->∀(h':Oq) (Q:SortKind->Og->Prop),(∀b o,b≠a->s.heap.get? b=some o->h'.get? b=some o)->Q kd { s with heap:=h' }->Oz (model prog w) A (keyKind' vs.toArray) Q E { s with heap:=h' })
  (hlt:∀h':Oq,(∀b o,b≠a->s.heap.get? b=some o->h'.get? b=some o)->du prog w A { s with heap:=h' } kd (pairsOf vs) κ)
  (h:∀(out:Array Oe) (p:Nat->Nat),out.size=vs.length->(∀i,i<vs.length->out.toList[i]? = vs[p i]?)->SoS κ p vs.length->P (.done<|.ret .none) { s with heap:=sortedHeap s.heap a vs out }) :
  Oz (model prog w) A (Builtin.«list.sort» ⟨[.ref a],[]⟩) P E s:=by
 rw[list_sort_plain];have ha:a<s.heap.objs.size:=IF ho;refine Iw<|listItems_at ho rfl ?_;refine Iw (listUpdate_at ho rfl ?_ (by rw[IW,Jr];omega)<|JV _);obtain⟨e1,ho1⟩:∃e1,(s.heap.update a<|Ou.mapSeq λ_=>#[]).get? a=some (seqObj "list" #[] e1):=⟨_,get?_update_seq ho<|λ_=>#[]⟩;refine Iw<|seqEpoch_at ho1 rfl ?_;refine Iw (wpAny_newTuple ?_ (by show vs.length<=_;rw[Jr];omega));refine Iw<|wpAny_newList ?_<|JV _;refine JL ?_;have ho6:(((s.heap.update a<|Ou.mapSeq λ_=>#[]).push<|seqObj "tuple" vs.toArray 0).push<|seqObj "list" #[] 0).get? a=some (seqObj "list" #[] e1):=by rw[MF _ _ _ (by rw[size_push',LU];exact IX<|Kh ha),MF _ _ _ (by rw[LU];exact IX ha)];exact ho1
 have s1:=Ly s.heap a (Ou.mapSeq λ_=>(#[]:Array Oe));have kept:∀b o,b≠a->s.heap.get? b=some o->(((s.heap.update a<|Ou.mapSeq λ_=>#[]).push<|seqObj "tuple" vs.toArray 0).push<|seqObj "list" #[] 0).get? b=some o:=λb o hb e=>ID _<|ID _<|(s1.2 b hb).trans e
 show Oz (model prog w) A _ P E { s with heap:=((s.heap.update a<|Ou.mapSeq λ_=>#[]).push<|seqObj "tuple" vs.toArray 0).push (seqObj "list" #[] 0) };dsimp only;have hsz:vs.toArray.size=vs.length:=by simp
 have fin:∀(st':SortSt) (p:Nat->Nat),(arrOf st').size=vs.length->(∀i,i<vs.length->(arrOf st')[i]? = (pairsOf vs)[p i]?)->SoS κ p vs.length->P (.done<|.ret .none) { s with heap:=sortedHeap s.heap a vs ((arrOf st').map (·.2)) }:=by intro st' p hz hp hS;refine h _ p (by rw[Array.size_map];exact hz) (λi hi=>?_) hS;rw[Kv,Array.getElem?_map,hp i hi,<-Kv,pairsOf_toList];have hpi:=hS.2.2 i hi;have e1:vs[p i]? = some vs[p i]:=IM hpi;rw[show(vs.zip vs)[p i]? = some (vs[p i],vs[p i]) from Lq.2 ⟨e1,e1⟩,e1];rfl
 by_cases h2:vs.toArray.size<2
 .rw[IE h2,IE h2];refine Iw<|Iy ?_;rw[StateT.run_pure];refine Iw<|Iy ?_;dsimp only;refine Iw<|seqEpoch_at ho6 rfl ?_;refine Iw (listUpdate_at ho6 rfl ?_ (hsz2:=by rw[Array.size_map];show(pairsOf vs).size<=_;rw[Nj,Jr];omega));simp only[bne_self_eq_false,Jk,JI];rw[hsz]at h2;exact Iy (fin (SortSt.mk' general' (vs.toArray.zip vs.toArray) #[] 7 none) id (Nj vs) (λi _=>rfl) ⟨λi j h1 h3=>by omega,λi _=>rfl,λi hi=>hi⟩)
 .rw[II h2,II h2];rw[hsz]at h2;refine Iw (hkind (by omega) _ _ kept ?_);refine Iw (Jh (wg (a0:=pairsOf vs) (κ:=κ) (kd:=kd) (st:=SortSt.mk' kd (vs.toArray.zip vs.toArray) #[] 7 none)
   (Q:=λ_ st'=>failedOf st'=none/\(arrOf st').size=(pairsOf vs).size/\∃p,(∀i,i<(pairsOf vs).size->(arrOf st')[i]? = (pairsOf vs)[p i]?)/\SoS κ p (pairsOf vs).size)
   (hlt _ kept) ⟨⟨rfl,rfl,rfl,rfl⟩,λi j _ _ e=>e,λi _=>rfl,λi hi=>hi⟩ (by rw[Nj];omega) (by rw[Nj];exact h64) λst' a1 a2 a3=>⟨a1,a2,a3⟩) ?_ λ_ _ e=>e)
  rintro ⟨⟨⟩,st'⟩ s' ⟨rfl,hf,hz,p,hp,hS⟩;rw[Nj]at hz hp hS;dsimp only;refine Iw<|seqEpoch_at ho6 rfl ?_;refine Iw (listUpdate_at ho6 rfl ?_ (hsz2:=by rw[Array.size_map,hz,Jr];omega));rw[hf];simp only[bne_self_eq_false,Jk,JI];exact Iy<|fin st' p hz hp hS
def pk {l:Of}{vs:List Oe}{Q:Oe->Og->Prop}(hl:s.heap.IsList l vs.toArray)(h64:vs.length<64)
  (hkind:2<=vs.length->∀(h':Oq) (Q:SortKind->Og->Prop),(∀b o,s.heap.get? b=some o->h'.get? b=some o)->Q kd { s with heap:=h' }->Oz (model prog w) A.in1.in1 (keyKind' vs.toArray) Q E { s with heap:=h' })
  (hlt:∀h':Oq,(∀b o,s.heap.get? b=some o->h'.get? b=some o)->du prog w A.in1.in1 { s with heap:=h' } kd (pairsOf vs) κ)
  (h:∀(out:Array Oe) (p:Nat->Nat),out.size=vs.length->(∀i,i<vs.length->out.toList[i]? = vs[p i]?)->SoS κ p vs.length->Q (.ref<|s.heap.objs.size+1) { s with heap:=sortedAll s.heap vs out }) :
  Oz (model prog w) A (call (.builtin "sorted") [.ref l]) Q E s:=by
 refine Calls.call_function_entry kind_sorted plain_sorted entry_sorted (args_sorted1 _) ?_;unfold Builtin.«sorted»;refine Iw (m:=checkCount "sorted" 1 1 _)<|Iy ?_;refine Iw (collect_list hl ?_ (by rw[Jr];omega));refine Iw (wpAny_newList ?_ (by rw[Jr];omega));have hsz:((s.heap.push<|seqObj "list" #[] 0).update s.heap.objs.size<|Ou.mapSeq (· ++ vs.toArray)).objs.size=s.heap.objs.size+1:=by rw[LU,size_push']
 have hoL:(((s.heap.push<|seqObj "list" #[] 0).update s.heap.objs.size<|Ou.mapSeq (· ++ vs.toArray)).push<|seqObj "list" vs.toArray 0).get? (s.heap.objs.size+1)=some (seqObj "list" vs.toArray 0):=by rw[<-hsz];exact Jc _ rfl
 have keep:∀b o,s.heap.get? b=some o->(((s.heap.push<|seqObj "list" #[] 0).update s.heap.objs.size<|Ou.mapSeq (· ++ vs.toArray)).push<|seqObj "list" vs.toArray 0).get? b=some o/\b≠s.heap.objs.size+1:=λb o q=>by have hlt:b<s.heap.objs.size:=IF q;refine⟨?_,IX<|Kh hlt⟩;rw[MF _ _ _ (by rw[hsz];exact IX<|Kh hlt),JN _ _ _ _<|IX hlt,MF _ _ _<|IX hlt];exact q
 show Oz _ _ _ _ _ { s with heap:=((s.heap.push<|seqObj "list" #[] 0).update s.heap.objs.size<|Ou.mapSeq (· ++ vs.toArray)).push (seqObj "list" vs.toArray 0) };rw[hsz];refine Iw (JL (JT slot_list_sort ⟨_,hoL,rfl⟩ entry_list_sort (bD (s:={ s with heap:=((s.heap.push<|seqObj "list" #[] 0).update s.heap.objs.size<|Ou.mapSeq (· ++ vs.toArray)).push (seqObj "list" vs.toArray 0) }) hoL h64
  (λh2 h' Q hk hq=>hkind h2 h' Q (λb o e=>hk b o (keep b o e).2 (keep b o e).1) hq) (λh' hk=>hlt h' λb o e=>hk b o (keep b o e).2 (keep b o e).1) λout p a1 a2 a3=>⟨_,rfl,?_⟩)<|args_list_sort _))
 exact Iy ⟨_,rfl,h out p a1 a2 a3⟩
end
section
variable {X:Cx}{K:Fg}
end
end
end L2
namespace L2
def aH {α:Type}(p:Int × α):List (Int × α)->List (Int × α)
 | []=>[p]
 | q::r=>if p.1<=q.1 then p::q::r else q::aH p r
def K5 {α:Type}:List (Int × α)->List (Int × α)
 | []=>[]
 | p::r=>aH p<|K5 r
theorem jH {α β:Type}(f:α->β)(p:Int × α):∀l:List (Int × α),aH (p.1,f p.2) (l.map λq=>(q.1,f q.2))=(aH p l).map λq=>(q.1,f q.2)
 | []=>rfl
 | q::r=>by
  simp only[IJ,aH];split
  .rfl
  .rw[IJ,jH f p r]
theorem aV {α β:Type}(f:α->β):∀l:List (Int × α),K5 (l.map λq=>(q.1,f q.2))=(K5 l).map λq=>(q.1,f q.2)
 | []=>rfl
 | p::r=>by rw[IJ,K5,K5,aV f r];exact jH f p _
theorem cb {α:Type}(p:Int × α):∀l:List (Int × α),(aH p l).Perm (p::l)
 | []=>.refl _
 | q::r=>by
  rw[aH];split
  .exact .refl _
  .exact((cb p r).cons q).trans<|.swap p q r
theorem R8 {α:Type}:∀l:List (Int × α),(K5 l).Perm l
 | []=>.refl _
 | p::r=>(cb p _).trans<|(R8 r).cons p
def LxP (a b:Int×Nat):Prop:=a.1<b.1\/(a.1=b.1/\a.2<b.2)
theorem oi {p:Int×Nat}:∀{l:List (Int×Nat)},l.Pairwise LxP->(∀q∈l,p.2<q.2)->(aH p l).Pairwise LxP
 | [],_,_=>by simp[aH]
 | q::r,h,hl=>by
  rw[KJ]at h;rw[aH];split
  .rename_i hle;refine KJ.2 ⟨λz hz=>?_,KJ.2 h⟩;have h1:LxP p q:=by
    rcases Nx hle with e | e
    .exact .inl e
    .exact .inr ⟨e,hl q IG⟩
   rcases IP.1 hz with rfl | hz
   .exact h1
   .have h2:=h.1 z hz;unfold LxP at h1 h2 ⊢;omega
  .rename_i hgt;refine KJ.2 ⟨λz hz=>?_,oi h.2 λz hz=>hl z<|IA _ hz⟩;rcases IP.1 ((cb p r).mem_iff.mp hz) with rfl | hz
   .exact .inl (by omega)
   .exact h.1 z hz
theorem gE:∀{l:List (Int×Nat)},l.Pairwise (λa b=>a.2<b.2)->(K5 l).Pairwise LxP
 | [],_=>.nil
 | p::r,h=>by rw[KJ]at h;exact oi (gE h.2) λq hq=>h.1 q<|(R8 r).mem_iff.mp hq
theorem gw:∀{l₁ l₂:List (Int×Nat)},l₁.Perm l₂->l₁.Pairwise LxP->l₂.Pairwise LxP->l₁=l₂
 | [],l₂,p,_,_=>p.nil_eq
 | a::r,[],p,_,_=>by have:=p.length_eq;simp at this
 | a::r,b::t,p,h1,h2=>by
  rw[KJ]at h1 h2;have ab:a=b:=by
   rcases IP.1 (p.mem_iff.1<|IG (a:=a) (l:=r)) with e | e
   .exact e
   .rcases IP.1 (p.mem_iff.2<|IG (a:=b) (l:=t)) with e2 | e2
    .exact e2.symm
    .have q1:=h2.1 a e;have q2:=h1.1 b e2;unfold LxP at q1 q2;omega
  subst ab;rw[gw (p.cons_inv) h1.2 h2.2]
theorem dZ:∀(n:Nat) (l:List Nat),l.Nodup->(∀x∈l,x<n)->l.length=n->l.Perm (List.range n)
 | 0,l,_,_,hl=>by rw[KU.1 hl];exact .refl _
 | n+1,l,hd,hb,hl=>by
  have short:∀(m:Nat) (l:List Nat),l.Nodup->(∀x∈l,x<m)->l.length<=m:=by
   intro m;induction m with
   | zero =>
    intro l _ hb;cases l with
    | nil=>simp
    | cons a r=>exact absurd (hb a IG) (by omega)
   | succ m ih =>
    intro l hd hb;by_cases hm:m∈l
    .have e:=ih (l.erase m) (hd.erase m) λx hx=>by
      have h1:=hb x<|List.mem_of_mem_erase hx;have h2:x≠m:=λz=>by subst z;exact(List.Nodup.not_mem_erase hd) hx
      omega
     rw[List.length_erase_of_mem hm]at e;omega
    .have e:=ih l hd λx hx=>by
      have h1:=hb x hx;have h2:x≠m:=λz=>hm<|z▸hx
      omega
     omega
  have hn:n∈l:=by
   by_cases hm:n∈l
   .exact hm
   .have e:=short n l hd λx hx=>by
     have h1:=hb x hx;have h2:x≠n:=λz=>hm<|z▸hx
     omega
    omega
  have ih:=dZ n (l.erase n) (hd.erase n) (λx hx=>by
   have h1:=hb x<|List.mem_of_mem_erase hx;have h2:x≠n:=λz=>by subst z;exact(List.Nodup.not_mem_erase hd) hx
   omega) (by rw[List.length_erase_of_mem hn];omega)
  refine(List.perm_cons_erase hn).trans<|(ih.cons n).trans ?_;rw[List.range_succ];exact(List.perm_append_singleton n<|List.range n).symm
def jR {ks xs ys:List V}(h:rq ks xs ys)(hl:ks.length=xs.length):ys=(K5<|(ks.map kQ).zip xs).map Prod.snd:=by
 obtain⟨hy,p,hS,hp⟩:=h;generalize hn:xs.length=n at hy hS hp hl;have nd:((List.range n).map p).Nodup:=by
  rw[List.nodup_iff_pairwise_ne,Lr];intro i j hi hj hij;have hj':j<n:=by simpa using hj
  simp only[LV,Ny];intro e;have q:=hS.1 i j hij hj';rw[e]at q;unfold Lx at q;omega
 have pr:=dZ n ((List.range n).map p) nd (λx hx=>by obtain⟨i,hi,rfl⟩:=Jm.1 hx;exact hS.2.2 i<|List.mem_range.1 hi) (by simp)
 have q1:(((List.range n).map p).map λi=>(dh ks i,i)).Pairwise LxP:=by
  rw[Lr];intro i j hi hj hij;have hj':j<n:=by simpa using hj
  simp only[LV,Ny];exact hS.1 i j hij hj'
 have q2:(K5<|(List.range n).map λi=>(dh ks i,i)).Pairwise LxP:=gE (by rw[Lr];intro i j hi hj hij;simpa using hij)
 have e:=gw ((pr.map λi=>(dh ks i,i)).trans (R8 _).symm) q1 q2;have ez:(ks.map kQ).zip xs=((List.range n).map λi=>(dh ks i,i)).map λq=>(q.1,xs.getD q.2 .non):=by
  refine List.ext_getElem? λi=>?_
  rw[Jn];by_cases hi:i<n
  .have h1:(ks.map kQ)[i]? = some (dh ks i):=by rw[IU];unfold dh;rw[Jb,IM<|by omega];rfl
   have h2:xs[i]? = some (xs.getD i .non):=by rw[Jb,IM<|by omega];rfl
   rw[show((ks.map kQ).zip xs)[i]? = some (dh ks i,xs.getD i .non) from Lq.2 ⟨h1,h2⟩,IU,Kf hi];rfl
  .rw[Kx (by rw[List.length_zip,Iz];omega),Kx (by simp;omega)]
 rw[ez,aV<|λi=>xs.getD i .non,<-e,Jn,Jn,Jn];refine List.ext_getElem? λi=>?_
 by_cases hi:i<n
 .rw[hp i hi,IU,Kf hi];have hpi:=hS.2.2 i hi;show xs[p i]? = some (xs.getD (p i) .non);rw[Jb,IM<|by omega];rfl
 .rw[Kx (by omega),Kx (by simp;omega)]
end L2
namespace L3
open PySem
section
open Sem (wp)
structure SubKind (prog:Oh) (w:Oi) (K:Type) [DecidableEq K] extends HeapKind prog w K where
 deep:Nat
 quietN:∀{A:Oj} {E:Oe->Og->Prop} {s:Og} {k:K} {a:Of} {n:Nat} {Q:Bool->Og->Prop},deep<=n->is s.heap k a->Q true s->Oz (model prog w) A (eqIsQuiet n<|.ref a) Q E s
section
variable {prog:Oh}{w:Oi}{K K2:Type}[DecidableEq K][DecidableEq K2](knd:KeyKind prog w K)(sub:SubKind prog w K2)(p:Nat->Bool)
inductive ItemsN (h:Oq):Nat->List (K ⊕ K2)->List Oe->Prop
 | nil {j:Nat}:ItemsN h j [] []
 | val {j:Nat} {k:K} {v:Oe} {ks:List (K ⊕ K2)} {vs:List Oe}:p j=false->knd.is k v=true->ItemsN h (j+1) ks vs->ItemsN h j (.inl k::ks) (v::vs)
 | ref {j:Nat} {k:K2} {a:Of} {ks:List (K ⊕ K2)} {vs:List Oe}:p j=true->sub.is h k a->ItemsN h (j+1) ks vs->ItemsN h j (.inr k::ks) (.ref a::vs)
def J3 (h:Oq)(ks:List (K ⊕ K2))(a:Of):Prop:=∃o items n,h.get? a=some o/\o.cls = .type "tuple" /\ o.data = .seq items n/\ItemsN knd sub p h 0 ks items.toList
variable {knd sub p}
def ItemsN.inj {h:Oq}{j:Nat}{x y:List (K ⊕ K2)}{vs:List Oe}(hx:ItemsN knd sub p h j x vs)(hy:ItemsN knd sub p h j y vs):x=y:=by
 induction hx generalizing y with
 | nil=>cases hy;rfl
 | val hp h1 _ ih =>
  cases hy with
  | val hp2 h2 t2=>rw[knd.inj _ _ _ h1 h2,ih t2]
  | ref hp2 h2 t2=>rw[hp]at hp2;cases hp2
 | ref hp h1 _ ih =>
  cases hy with
  | val hp2 h2 t2=>rw[hp]at hp2;cases hp2
  | ref hp2 h2 t2=>rw[sub.inj h1 h2,ih t2]
def J3.typeIs {s:Og}{ks:List (K ⊕ K2)}{a:Of}(x:J3 knd sub p s.heap ks a):s.TypeIs (.ref a) "tuple":=let ⟨o,_,_,ho,hc,_⟩:=x;⟨o,ho,hc⟩
def J3.inj {h:Oq}{a:Of}{x y:List (K ⊕ K2)}(hx:J3 knd sub p h x a)(hy:J3 knd sub p h y a):x=y:=by
 obtain⟨o,items,n,ho,_,hd,hi⟩:=hx;obtain⟨o',items',n',ho',_,hd',hi'⟩:=hy;obtain rfl:o=o':=IS<|ho.symm.trans ho';rw[hd]at hd';injection hd' with h1 _
 subst h1;exact hi.inj hi'
def ItemsN.keeps {h h':Oq}{d:Of}{o:Ou}{es ep}{j:Nat}{ks:List (K ⊕ K2)}{vs:List Oe}(x:ItemsN knd sub p h j ks vs)(ho:h.get? d=some o)(hd:o.data = .dict es ep)(hs:Oq.SameBut d h h'):ItemsN knd sub p h' j ks vs:=by
 induction x with
 | nil=>exact .nil
 | val hp h1 _ ih=>exact .val hp h1 ih
 | ref hp h1 _ ih=>exact .ref hp (sub.keeps h1 ho hd hs) ih
def J3.keeps {h h':Oq}{ks:List (K ⊕ K2)}{a d:Of}{o:Ou}{es ep}(x:J3 knd sub p h ks a)(ho:h.get? d=some o)(hd:o.data = .dict es ep)(hs:Oq.SameBut d h h'):J3 knd sub p h' ks a:=by
 obtain⟨o',items,n,ho',hc,hd',hi⟩:=x;have hne:a≠d:=by rintro rfl;obtain rfl:o'=o:=IS<|ho'.symm.trans ho;rw[hd]at hd';exact nomatch hd'
 exact⟨o',items,n,(hs.2 a hne).trans ho',hc,hd',hi.keeps ho hd hs⟩
def cX (knd:KeyKind prog w K)(sub:SubKind prog w K2):K ⊕ K2->Int
 | .inl k=>knd.hash k
 | .inr k=>sub.hash k
def fI (sub:SubKind prog w K2):K ⊕ K2->Nat
 | .inl _=>1
 | .inr k=>sub.draws k
def X9 (knd:KeyKind prog w K)(sub:SubKind prog w K2)(ks:List (K ⊕ K2)):Int:=reduceHash<|Builtin.Tuple.tupleHashOf<|ks.map<|cX knd sub
variable {A:Oj}{E:Oe->Og->Prop}{s:Og}
def jI {ks:List (K ⊕ K2)}{a:Of}{Q:Int->Og->Prop}(hu:A.units<OG)(hr:sub.room A.in1)(hk:J3 knd sub p s.heap ks a)(h:Q (X9 knd sub ks) { s with toks:=s.toks+((ks.map<|fI sub).sum+1) }) :
  Oz (model prog w) A (PySem.pyHash<|.ref a) Q E s:=by
 have hT:=hk.typeIs;obtain⟨o,items,n,ho,_,hd,hi⟩:=hk;unfold PySem.pyHash;first | unfold pyHashByItsType | skip
 first | refine Iw (wpAny_cRoomFor_or (.inr hu) ?_) | skip
 refine Iw<|KO hT MG.lookup ?_;show Oz _ _ (if (some (Oe.builtin "tuple.__hash__") == some Oe.none)=true then _ else _) Q E s;rw[II (by rw[beq_builtin_none];exact IZ)];refine Iw<|KO hT MG.lookup ?_;show Oz _ _ (callSpecialIfBoundUnlessNone? (.ref a) "__hash__" _ >>= _) Q E s;refine Iw<|LX hT MG<|JT MG hT F.entry_tuple_hash ?_<|F.args_tuple_hash_1 _;show Oz _ _ (Builtin.Tuple.tupleItemsOf (.ref a) >>= _) _ _ s;refine Iw<|Nz ho hd ?_;refine Iw ?_;rw[<-Array.forIn_toList];refine MV _
  (λrest (b:Array Int) s'=>∃done left,ks=done++left/\ItemsN knd sub p s.heap done.length left rest/\b.toList=done.map (cX knd sub)/\s'={ s with toks:=s.toks+(done.map<|fI sub).sum })
  _ ?_ ?_ _ _ ⟨[],ks,rfl,hi,rfl,rfl⟩
 .rintro x rest b s' ⟨done,left,rfl,hl,hb,rfl⟩;cases hl with
  | @val _ k _ ks' _ hp h1 hl' =>refine Iw<|knd.pyHash h1 ?_;exact Iy ⟨done++[.inl k],ks',by simp,by simpa using hl',by simp[hb,cX],by simp[NI,fI]⟩
  | @ref _ k a ks' _ hp h1 hl' =>refine Iw<|sub.pyHash hr h1 ?_;exact Iy ⟨done++[.inr k],ks',by simp,by simpa using hl',by simp[hb,cX],by simp[NI,fI]⟩
 .rintro b s' ⟨done,left,rfl,hl,hb,rfl⟩;cases hl;rw[Kb]at h;show Oz _ _ (retInt<|Builtin.Tuple.tupleHashOf b.toList) _ _ _;rw[hb];refine wpAny_ret_mkInt ?_;show Oz _ _ (if (decide (-(2:Int) ^ 63<=Builtin.Tuple.tupleHashOf (done.map<|cX knd sub))&&decide (Builtin.Tuple.tupleHashOf (done.map<|cX knd sub)<2 ^ 63))=true then _ else _) Q E _;unfold X9 reduceHash at h;by_cases hr:(decide (-(2:Int) ^ 63<=Builtin.Tuple.tupleHashOf (done.map<|cX knd sub))&&decide (Builtin.Tuple.tupleHashOf (done.map<|cX knd sub)<2 ^ 63))=true
  .rw[IE hr];rw[IE hr]at h;exact Iy (by simpa [NI] using h)
  .rw[II hr];rw[II hr]at h;exact Iw (KN<|Iy<|by simpa [NI] using h)
def jk {x y:List (K ⊕ K2)}{a b:Of}{P:Fin->Og->Prop}(hr:sub.room A)(hx:J3 knd sub p s.heap x a)(hy:J3 knd sub p s.heap y b)(h:P (.done<|.ret<|.bool<|decide (x=y)) s) :
  Oz (model prog w) A (Builtin.«tuple.__eq__» ⟨[.ref a,.ref b],[]⟩) P E s:=by
 have hTb:=hy.typeIs;obtain⟨oa,xs,na,hoa,_,hda,hia⟩:=hx;obtain⟨ob,ys,nb,hob,_,hdb,hib⟩:=hy;show Oz _ _ (isInstance (.ref b) (.type "tuple") >>= _) _ _ s;refine Iw<|LY hTb isSubtype_tuple_tuple ?_;simp only[KR,Jk,JI];refine Iw<|Nz hoa hda ?_;refine Iw<|Nz hob hdb ?_;refine Iw ?_;refine MV _
  (λrest r s'=>r.1=none/\s'=s/\∃j x' y' xs' ys',rest=List.zip xs' ys'/\ItemsN knd sub p s.heap j x' xs'/\ItemsN knd sub p s.heap j y' ys'/\decide (x'=y')=decide (x=y)/\(xs'.length == ys'.length)=(xs.size == ys.size))
  _ ?_ ?_ _ _ ⟨rfl,rfl,0,x,y,xs.toList,ys.toList,rfl,hia,hib,rfl,by simp⟩
 .rintro ⟨u,v⟩ rest r s' ⟨hr',rfl,j,x',y',xs',ys',hz,hx',hy',hdec,hlen⟩;cases hx' with
  | nil=>simp at hz
  | @val _ k1 u' x'' xs'' hp h1 hx'' =>
   cases hy' with
   | nil=>simp at hz
   | @ref _ k2 b' y'' ys'' hp2 h2 hy''=>rw[hp]at hp2;cases hp2
   | @val _ k2 v' y'' ys'' hp2 h2 hy'' =>
    simp only[LG,List.cons.injEq,Prod.mk.injEq]at hz;obtain⟨⟨rfl,rfl⟩,rfl⟩:=hz;refine Iw<|knd.eqBool (a:=k1) (b:=k2) h1 h2 ?_;by_cases hk:k1=k2
    .subst hk;rw[Je rfl];simp only[KR,Jk,JI];refine Iy ⟨rfl,rfl,j+1,x'',y'',xs'',ys'',rfl,hx'',hy'',?_,by simpa using hlen⟩;rw[<-hdec];by_cases hxy:x''=y''
     .simp[hxy]
     .simp[hxy]
    .rw[Jf hk];simp only[Bool.not_false,Kl];have hf:decide (x=y)=false:=by rw[<-hdec];simp[hk]
     rw[hf]at h;exact Iw<|Iy<|Iy<|Iy h
  | @ref _ k1 a' x'' xs'' hp h1 hx'' =>
   cases hy' with
   | nil=>simp at hz
   | @val _ k2 v' y'' ys'' hp2 h2 hy''=>rw[hp]at hp2;cases hp2
   | @ref _ k2 b' y'' ys'' hp2 h2 hy'' =>
    simp only[LG,List.cons.injEq,Prod.mk.injEq]at hz;obtain⟨⟨rfl,rfl⟩,rfl⟩:=hz;refine Iw<|sub.eqBool (x:=k1) (y:=k2) hr h1 h2 ?_;by_cases hk:k1=k2
    .subst hk;rw[Je rfl];simp only[KR,Jk,JI];refine Iy ⟨rfl,rfl,j+1,x'',y'',xs'',ys'',rfl,hx'',hy'',?_,by simpa using hlen⟩;rw[<-hdec];by_cases hxy:x''=y''
     .simp[hxy]
     .simp[hxy]
    .rw[Jf hk];simp only[Bool.not_false,Kl];have hf:decide (x=y)=false:=by rw[<-hdec];simp[hk]
     rw[hf]at h;exact Iw<|Iy<|Iy<|Iy h
 .rintro ⟨r1,r2⟩ s' ⟨hr',rfl,j,x',y',xs',ys',hz,hx',hy',hdec,hlen⟩;simp only at hr';subst hr';refine Iy ?_;have hfin:(xs.size == ys.size)=decide (x=y):=by
   rw[<-hdec,<-hlen];cases hx' with
   | nil =>
    cases hy' with
    | nil=>simp
    | val _ _ _=>simp
    | ref _ _ _=>simp
   | val _ _ _ =>
    cases hy' with
    | nil=>simp
    | val _ _ _=>simp at hz
    | ref _ _ _=>simp at hz
   | ref _ _ _ =>
    cases hy' with
    | nil=>simp
    | val _ _ _=>simp at hz
    | ref _ _ _=>simp at hz
  show P (.done<|.ret<|.bool<|xs.size == ys.size) s';rw[hfin];exact h
def kl {x y:List (K ⊕ K2)}{a b:Of}{Q:Bool->Og->Prop}(hu:A.units<OG)(hr:sub.room A.in1)(hx:J3 knd sub p s.heap x a)(hy:J3 knd sub p s.heap y b)(h:Q (decide (x=y)) s) :
  Oz (model prog w) A (PySem.eqBool (.ref a)<|.ref b) Q E s:=by
 unfold PySem.eqBool;try with_reducible refine JL ?_
 show Oz _ _ (if (Oe.ref a == Oe.ref b)=true then _ else _) Q E s;by_cases hab:(Oe.ref a == Oe.ref b)=true
 .rw[IE hab];have e:a=b:=by have:=eq_of_beq hab;injection this
  subst e;obtain rfl:=hx.inj hy;exact Iw (KN<|Iy<|by simpa using h)
 .rw[II hab];refine Iw (wpAny_richCompare_same_room (op:=.Eq) hx.typeIs hy.typeIs F.slot_tuple_eq
   (JT F.slot_tuple_eq hx.typeIs F.entry_tuple_eq (jk ?rm hx hy ⟨_,rfl,(λe=>nomatch e),Kg h⟩)<|F.args_tuple_eq_2 _ _) hu)
  case rm=>exact hr
def fH {ks:List (K ⊕ K2)}{a:Of}{n:Nat}{Q:Bool->Og->Prop}(hn:sub.deep+1<=n)(hk:J3 knd sub p s.heap ks a)(h:Q true s):Oz (model prog w) A (eqIsQuiet n<|.ref a) Q E s:=by
 have hT:=hk.typeIs;obtain⟨o,items,m,ho,_,hd,hi⟩:=hk;obtain⟨n,rfl⟩:∃k,n=k+1:=⟨n-1,by omega⟩;unfold eqIsQuiet;refine Iw<|KO hT F.slot_tuple_eq.lookup ?_;show Oz _ _ (isInstance (.ref a) (.type "tuple") >>= _) _ _ s;refine Iw<|LY hT isSubtype_tuple_tuple ?_;simp only[KR,Jk,JI];refine Iw<|KY ho hd ?_;refine Iw ?_;show Oz _ _ (forIn items _ _) _ _ s;rw[<-Array.forIn_toList];refine MV _ (λrest r s'=>r.1=none/\s'=s/\∃j ks,ItemsN knd sub p s.heap j ks rest) _ ?_ ?_ _ _ ⟨rfl,rfl,0,ks,hi⟩
 .rintro v rest r s' ⟨hr,rfl,j,ks,hall⟩;cases hall with
  | val hp h1 ht =>rw[eqIsQuiet_byValue _<|knd.byValue _ _ h1];refine Iw<|Iy ?_;simp only[KR,Jk,JI];exact Iy ⟨rfl,rfl,_,_,ht⟩
  | ref hp h1 ht =>refine Iw (sub.quietN (by omega) h1 ?_);simp only[KR,Jk,JI];exact Iy ⟨rfl,rfl,_,_,ht⟩
 .rintro ⟨r1,r2⟩ s' ⟨hr,rfl,_⟩;simp only at hr;subst hr;exact Iy h
end
def sd {prog:Oh}{w:Oi}{K K2:Type}[DecidableEq K][DecidableEq K2](knd:KeyKind prog w K)(sub:SubKind prog w K2)(p:Nat->Bool)(hd:sub.deep<8):SubKind prog w (List<|K ⊕ K2) where
 is:=J3 knd sub p
 hash:=X9 knd sub
 draws:=λks=>(ks.map<|fI sub).sum+1
 room:=λA=>A.units<OG/\sub.room A.in1
 inj:=λhx hy=>hx.inj hy
 keeps:=λx ho hd hs=>x.keeps ho hd hs
 pyHash:=λhu hk h=>jI hu.1 hu.2 hk h
 eqBool:=λhu hx hy h=>kl hu.1 hu.2 hx hy h
 quiet:=λhk h=>fH (by omega) hk h
 deep:=sub.deep+1
 quietN:=λhn hk h=>fH hn hk h
end
section
open Sem (wp)
def bIn (b:Bool):Int:=if b then 1 else 0
def W7 (i:Int):Oe->Bool
 | .int j _=>j == i
 | .bool b=>bIn b == i
 | _=>false
def J4 {i:Int}{v:Oe}(h:W7 i v=true):(∃t,v = .int i t)\/∃b,v = .bool b/\bIn b=i:=by
 cases v with
 | int j t=>exact .inl ⟨t,by simp[W7]at h;rw[h]⟩
 | bool b=>exact .inr ⟨b,rfl,by simpa [W7] using h⟩
 | _=>simp[W7]at h
section
variable {prog:Oh}{w:Oi}{A:Oj}{E:Oe->Og->Prop}{s:Og}
def kE {b:Bool}{Q:Int->Og->Prop}(h:Q (hashInt<|bIn b) { s with toks:=s.toks+1 }):Oz (model prog w) A (PySem.pyHash<|.bool b) Q E s:=by
 have hr:=rawHash_range<|bIn b;unfold PySem.pyHash;have hv:[Oe.bool b].any Oe.onHeap=false:=rfl;refine Iw ?_;rw[cRoomFor,II (by rw[hv];exact IZ)];refine Iy ?_;refine Iw<|KO (typeIs_bool s b) MW.lookup ?_;show Oz _ _ (if (some (Oe.builtin "int.__hash__") == some Oe.none)=true then _ else _) Q E s;rw[II (by rw[beq_builtin_none];exact IZ)];refine Iw<|KO (typeIs_bool s b) MW.lookup ?_;show Oz _ _ (callSpecialIfBoundUnlessNone? (.bool b) "__hash__" _ >>= _) Q E s;refine Iw (LX (typeIs_bool s b) MW
  (JT MW (typeIs_bool s b) entry_int_hash
   (show Oz _ _ (do ret (<-mkInt (rawHash<|bIn b))) _ _ s from wpAny_ret_mkInt ?_) (args_int_hash _)))
 show Oz _ _ (if (decide (-(2:Int) ^ 63<=rawHash (bIn b))&&decide (rawHash (bIn b)<2 ^ 63))=true then _ else _) Q E _;rw[IE (by rw[Je hr.1,Je hr.2];rfl)];exact Iy h
end
def oQ (prog:Oh)(w:Oi):PySem.KeyKind prog w Int where
 is:=W7
 hash:=hashInt
 inj:=λv a b ha hb=>by
  rcases J4 ha with ⟨t,rfl⟩ | ⟨x,rfl,rfl⟩
  .simpa [W7] using hb
  .simpa [W7] using hb
 byValue:=λk v h=>by rcases J4 h with ⟨t,rfl⟩ | ⟨x,rfl,rfl⟩ <;> rfl
 pyHash:=λhv h=>by
  rcases J4 hv with ⟨t,rfl⟩ | ⟨x,rfl,rfl⟩
  .exact wpAny_pyHash_int h
  .exact kE h
 eqBool:=λ{A E s a b u v Q} hu hv h=>by
  have e0:∀x y:Int,(x == y)=decide (x=y):=λx y=>by by_cases e:x=y <;> simp[e]
  rw[<-e0]at h;rcases J4 hu with ⟨t,rfl⟩ | ⟨x,rfl,rfl⟩
  .rcases J4 hv with ⟨t2,rfl⟩ | ⟨y,rfl,rfl⟩
   .exact wpAny_eqBool_int h
   .exact SeqAt.EqAt.int_bool a t y _ _ _ _ h
  .rcases J4 hv with ⟨t2,rfl⟩ | ⟨y,rfl,rfl⟩
   .exact SeqAt.EqAt.bool_int x b t2 _ _ _ _ h
   .refine SeqAt.EqAt.bool_bool x y _ _ _ _ ?_;have:(bIn x == bIn y)=(x == y):=by cases x <;> cases y <;> rfl
    rw[<-this];exact h
 «strs»:=λk x t v h=>by simp[W7]at h
end
end L3
namespace L3
open PySem PySem.Spec PyProof.Rows L2
variable {OM:List (Of×Ou)}
section
section
variable {K:Type}[DecidableEq K]
def bU {P:Oh}{w:Oi}(kind:SubKind P w K)(a:Of)(xs:List (K×Of×V)):Oq->Prop:=λh=>xs.length<=Os/\(a == sysModules)=false/\∃vs:List (K×Of×Oe),
 Paired (λ(p:K×Of×V) (q:K×Of×Oe)=>p.1=q.1/\p.2.1=q.2.1/\u0 p.2.2 q.2.2) xs vs /\
 ∃o es ep,h.get? a=some o/\o.ExactDict/\o.data = .dict es ep/\es.toList=vs.map (entryOfKey kind.toHeapKind)/\(vs.map (·.1)).Nodup
variable {P:Oh}{w:Oi}{kind:SubKind P w K}{a:Of}{xs:List (K×Of×V)}
def bU.dict {h:Oq}(d:bU kind a xs h)(hk:∀x∈xs,kind.is h x.1 x.2.1):xs.length<=Os/\(a == sysModules)=false/\∃vs:List (K×Of×Oe),
  Paired (λ(p:K×Of×V) (q:K×Of×Oe)=>p.1=q.1/\p.2.1=q.2.1/\u0 p.2.2 q.2.2) xs vs/\h.DictOfH kind.toHeapKind a vs:=by
 obtain⟨z,y,vs,r,o,es,ep,h1,h2,h3,h4,h5⟩:=d;refine⟨z,y,vs,r,o,es,ep,h1,h2,h3,h4,?_,h5⟩;clear h4 h5 z;induction r with
 | nil=>intro x hx;cases hx
 | @cons p q ps qs hq t ih =>
  intro x hx;rcases IP.1 hx with e | hx
  .subst e;rw[<-hq.1,<-hq.2.1];exact hk p IG
  .exact ih (λx hx=>hk x<|IA _ hx) x hx
def iQ (xs:List (K×Of×V))(k:K):Option V:=(xs.find? λx=>decide (x.1=k)).map (·.2.2)
def iV (xs:List (K×Of×V))(k:K)(b:Of)(v:V):List (K×Of×V):=if (iQ xs k).isSome then xs.map (λx=>if x.1=k then(x.1,x.2.1,v) else x) else xs++[(k,b,v)]
abbrev PV (xs:List (K×Of×V))(vs:List (K×Of×Oe)):Prop:=Paired (λ(p:K×Of×V) (q:K×Of×Oe)=>p.1=q.1/\p.2.1=q.2.1/\u0 p.2.2 q.2.2) xs vs
def PV.val {xs:List (K×Of×V)}{vs:List (K×Of×Oe)}(r:PV xs vs)(k:K):ik (iQ xs k) ((atKey vs k).map (·.2)):=by
 unfold iQ atKey;induction r with
 | nil=>exact True.intro
 | @cons p q ps qs hq t ih =>
  rw[List.find?_cons,List.find?_cons,hq.1];by_cases e:q.1=k
  .rw[Je e];exact hq.2.2
  .rw[Jf e];exact ih
def PV.repl {xs:List (K×Of×V)}{vs:List (K×Of×Oe)}(r:PV xs vs)(k:K){y:V}{u:Oe}(ry:u0 y u):PV (xs.map λx=>if x.1=k then(x.1,x.2.1,y) else x) (vs.map<|putAt k u):=by
 induction r with
 | nil=>exact .nil
 | @cons p q ps qs h t ih =>
  rw[IJ,IJ];refine .cons ?_ ih;obtain⟨h1,h2,h3⟩:=h;unfold putAt;by_cases e:p.1=k
  .rw[IE e,IE<|h1.symm.trans e];exact⟨h1,h2,ry⟩
  .rw[II e,II<|λz=>e<|h1.trans z];exact⟨h1,h2,h3⟩
def PV.put {xs:List (K×Of×V)}{vs:List (K×Of×Oe)}(r:PV xs vs)(k:K){b:Of}{y:V}{u:Oe}(ry:u0 y u):PV (iV xs k b y) (storedH vs k b u):=by
 have e:(iQ xs k).isSome=(atKey vs k).isSome:=by rw[(PV.val r k).isSome_eq,NM]
 unfold iV storedH;rw[e];by_cases q:(atKey vs k).isSome=true
 .rw[IE q,IE q];exact PV.repl r k ry
 .rw[II q,II q];exact Paired.snoc r ⟨rfl,rfl,ry⟩
def sQ (xs:List (K×Of×V))(k:K)(b:Of)(v:V):(iV xs k b v).length<=xs.length+1:=by
 unfold iV;split
 .rw[Iz];omega
 .simp
def bU.obj {H:Hp}{h:Oq}(d:bU kind a xs h):D1 P w H h a (.ext<|bU kind a xs):=by refine⟨d,let ⟨_,_,_,_,o,_,_,e,_⟩:=d;⟨o,e⟩,λh1 h2 d k=>?_⟩;obtain⟨z,y,vs,r,o,es,ep,e,c⟩:=d;exact⟨z,y,vs,r,o,es,ep,k o e,c⟩
end
section
variable {K:Type}[DecidableEq K]{X:Cx}{kind:SubKind X.prog X.w K}{σ:L2.St}{H:Hp}{s:Og}{a b:Of}{v:V}{k:K}{r:Oe}{xs:List (K×Of×V)}{A:Oj}{E:Oe->Og->Prop}
def BC (I:Inv X OM σ H s)(e:H a=some (.ext<|bU kind a xs)):bU kind a xs s.heap:=(show D1 X.prog X.w H s.heap a (.ext<|bU kind a xs) from I.hok a _ e).1
def qy {Q:Oe->Og->Prop}(hu:kind.room A.in1)(I:Inv X OM σ H s)(e:H a=some (.ext<|bU kind a xs))(hk:∀x∈xs,kind.is s.heap x.1 x.2.1)(kb:kind.is s.heap k b)(g:iQ xs k=some v)(h:∀w' s',Inv X OM σ H s'->u0 v w'->Q w' s') :
  Oz (model X.prog X.w) A (getItem (.ref a)<|.ref b) Q E s:=by obtain⟨z,hd,vs,rel,dd⟩:=(BC I e).dict hk;obtain⟨w',hw,rw'⟩:=ik.some_of (v:=v) (o:=(atKey vs k).map (·.2)) (by rw[<-g];exact PV.val rel k);obtain⟨p,hp,hp2⟩:=Ja.1 hw;refine wpAny_getItem_heap hu kb dd hp ?_;rw[hp2];exact h w' _ (I.tok _) rw'
def pM {Q:Unit->Og->Prop}(hu:kind.room A.in1)(I:Inv X OM σ H s)(e:H a=some (.ext<|bU kind a xs))(hk:∀x∈xs,kind.is s.heap x.1 x.2.1)(kb:kind.is s.heap k b)(hl:xs.length<Os)(rv:u0 v r)(h:∀s',Inv X OM σ (upd H a<|.ext<|bU kind a<|iV xs k b v) s'->Q () s') :
  Oz (model X.prog X.w) A (setItem (.ref a) (.ref b) r) Q E s:=by
 obtain⟨z,hd,vs,rel,dd⟩:=(BC I e).dict hk;have hz:vs.length<=Os:=by rw[<-NG rel];exact z
 refine wpAny_setItem_heap (hsz:=hz) hu kb dd λh' dd' hs=>h _ ?_
 obtain⟨q,es,ep,hq,h2,h3,h4,_,h5⟩:=dd';have nd:bU kind a (iV xs k b v) h':=⟨by have:=sQ xs k b v;omega,hd,_,PV.put rel k rv,q,es,ep,hq,h2,h3,h4,h5⟩;exact wG I (by rw[e];exact True.intro) hs ⟨q,hq⟩ nd.obj
end
end
section
structure NKey where
 K:Type
 dec:DecidableEq K
 kind:∀(P:Oh) (w:Oi),SubKind P w K
 hsh:K->Int
 hs:∀P w k,(kind P w).hash k=hsh k
 dp:Nat
 hdp:∀P w,(kind P w).deep=dp
 At:Fg->Hp->K->Of->Prop
 ok:∀{X:Cx} {OM:List (Of×Ou)} {σ:L2.St} {H:Hp} {s:Og} {k:K} {b:Of},Inv X OM σ H s->At X.K H k b->(kind X.prog X.w).is s.heap k b
 keeps:∀{L:Fg} {H H':Hp} {k:K} {b:Of},At L H k b->(∀c xs,SqT L H c xs->SqT L H' c xs)->At L H' k b
 room:∀(P:Oh) (w:Oi) (A:Oj),A.units+dp<OG->(kind P w).room A
instance (κ:NKey):DecidableEq κ.K:=κ.dec
def Bn (P:Oh)(w:Oi):SubKind P w Empty where
 is:=λ_ _ _=>False
 hash:=λk=>k.elim
 draws:=λk=>k.elim
 room:=λ_=>True
 inj:=λh=>h.elim
 keeps:=λh=>h.elim
 pyHash:=λ_ h=>h.elim
 eqBool:=λ_ h=>h.elim
 quiet:=λh=>h.elim
 deep:=0
 quietN:=λ_ h=>h.elim
def yh :NKey where
 K:=Empty
 dec:=inferInstance
 kind:=Bn
 hsh:=λk=>k.elim
 hs:=λ_ _ k=>k.elim
 dp:=0
 hdp:=λ_ _=>rfl
 At:=λ_ _ _ _=>False
 ok:=λ_ h=>h.elim
 keeps:=λh=>h.elim
 room:=λ_ _ _ _=>True.intro
section
variable (κ:NKey)(p:Nat->Bool)
inductive VKeys (L:Fg) (H:Hp):Nat->List (Int ⊕ κ.K)->List V->Prop
 | nil {j:Nat}:VKeys L H j [] []
 | int {j:Nat} {i:Int} {ks:List (Int ⊕ κ.K)} {vs:List V}:p j=false->VKeys L H (j+1) ks vs->VKeys L H j (.inl i::ks) (.int i::vs)
 | bl {j:Nat} {b:Bool} {ks:List (Int ⊕ κ.K)} {vs:List V}:p j=false->VKeys L H (j+1) ks vs->VKeys L H j (.inl (bIn b)::ks) (.bl b::vs)
 | ref {j:Nat} {k:κ.K} {a:Of} {ks:List (Int ⊕ κ.K)} {vs:List V}:p j=true->κ.At L H k a->VKeys L H (j+1) ks vs->VKeys L H j (.inr k::ks) (.ref a::vs)
variable {κ p}
def VKeys.keeps {L:Fg}{H H':Hp}{j:Nat}{ks:List (Int ⊕ κ.K)}{vs:List V}(x:VKeys κ p L H j ks vs)(hk:∀c xs,SqT L H c xs->SqT L H' c xs):VKeys κ p L H' j ks vs:=by
 induction x with
 | nil=>exact .nil
 | int hp _ ih=>exact .int hp ih
 | bl hp _ ih=>exact .bl hp ih
 | ref hp h1 _ ih=>exact .ref hp (κ.keeps h1 hk) ih
def VKeys.items {X:Cx}{σ:L2.St}{H:Hp}{s:Og}(ok:Inv X OM σ H s){j:Nat}{ks:List (Int ⊕ κ.K)}{vs:List V}(x:VKeys κ p X.K H j ks vs):∀{us:List Oe},n5 vs us->ItemsN (oQ X.prog X.w) (κ.kind X.prog X.w) p s.heap j ks us:=by
 induction x with
 | nil=>intro us r;cases r;exact .nil
 | @int j i ks vs hp _ ih =>
  intro us r;cases r with
  | cons r1 r2 =>obtain⟨t,e⟩:=(show ∃t,_=Oe.int i t from r1);subst e;exact .val hp (show W7 i (.int i t)=true by simp[W7])<|ih r2
 | @bl j b ks vs hp _ ih =>
  intro us r;cases r with
  | cons r1 r2 =>cases(show _=Oe.bool b from r1);exact .val hp (show W7 (bIn b) (.bool b)=true by simp[W7])<|ih r2
 | @ref j k a ks vs hp h1 _ ih =>
  intro us r;cases r with
  | cons r1 r2 =>cases(show _=Oe.ref a from r1);exact .ref hp (κ.ok ok h1)<|ih r2
end
def rN (κ:NKey)(p:Nat->Bool)(hd:κ.dp<8):NKey where
 K:=List<|Int ⊕ κ.K
 dec:=inferInstance
 kind:=λP w=>sd (oQ P w) (κ.kind P w) p (by rw[κ.hdp];exact hd)
 hsh:=λks=>reduceHash (Builtin.Tuple.tupleHashOf (ks.map λk=>match k with | .inl i=>hashInt i | .inr k=>κ.hsh k))
 hs:=λP w ks=>by
  show X9 _ _ ks=_;unfold X9;congr 2;refine Lz λk _=>?_
  cases k with
  | inl i=>rfl
  | inr k=>exact κ.hs P w k
 dp:=κ.dp+1
 hdp:=λP w=>by show(κ.kind P w).deep+1=_;rw[κ.hdp]
 At:=λL H ks b=>∃vs,SqT L H b vs/\VKeys κ p L H 0 ks vs
 ok:=λ{X OM σ H s k b} I ⟨vs,e,x⟩=>by obtain⟨its,r,⟨o,h1,h2,n,h3⟩,_⟩:=I.tuple e;exact⟨o,its.toArray,n,h1,h2,h3,by simpa using x.items I r⟩
 keeps:=λ⟨vs,e,x⟩ hk=>⟨vs,hk _ _ e,x.keeps hk⟩
 room:=λP w A hu=>⟨by omega,κ.room P w A.in1 (by show A.units+1 + κ.dp<OG;omega)⟩
def T8 :NKey:=rN yh (λ_=>false) (by decide)
def Z5 :NKey:=rN T8 (λ_=>true) (by decide)
def iN :NKey:=rN Z5 (λj=>j == 0) (by decide)
end
section
def NDi (κ:NKey)(a:Of)(xs:List (κ.K×Of×V)):Oq->Prop:=λh=>xs.length<=Os/\(a == sysModules)=false/\∃vs:List (κ.K×Of×Oe),
 Paired (λ(p:κ.K×Of×V) (q:κ.K×Of×Oe)=>p.1=q.1/\p.2.1=q.2.1/\u0 p.2.2 q.2.2) xs vs /\
 ∃o es ep,h.get? a=some o/\o.ExactDict/\o.data = .dict es ep/\es.toList=vs.map (λq=>(⟨κ.hsh q.1,.ref q.2.1,q.2.2⟩:DictEntry))/\(vs.map (·.1)).Nodup
def mq (κ:NKey)(P:Oh)(w:Oi)(a:Of)(xs:List (κ.K×Of×V)):NDi κ a xs=bU (κ.kind P w) a xs:=by
 funext h;unfold NDi bU;have e:(λ(q:κ.K×Of×Oe)=>(⟨κ.hsh q.1,.ref q.2.1,q.2.2⟩:DictEntry))=entryOfKey (κ.kind P w).toHeapKind:=by funext q;unfold entryOfKey;rw[κ.hs P w]
 rw[e]
def AM (κ:NKey)(L:Fg)(H:Hp)(a:Of)(y:V)(o:Option V):Prop:=∃(xs:List (κ.K×Of×V)) (k:κ.K) (b:Of),H a=some (.ext<|NDi κ a xs)/\(∀x∈xs,κ.At L H x.1 x.2.1)/\y = .ref b /\ κ.At L H k b/\o=iQ xs k
def BO (κ:NKey)(L:Fg)(H:Hp)(a:Of)(y v:V)(H':Hp):Prop:=∃(xs:List (κ.K×Of×V)) (k:κ.K) (b:Of),H a=some (.ext<|NDi κ a xs)/\(∀x∈xs,κ.At L H x.1 x.2.1)/\y = .ref b /\ κ.At L H k b/\xs.length<Os/\H'=upd H a (.ext<|NDi κ a<|iV xs k b v)
def xP (κ:NKey):TE:=λ_ H Q=>∀p,H p=none->(∃h,NDi κ p [] h)->Q (.ref p) (upd H p<|.ext<|NDi κ p [])
def xW (κ:NKey)(L:Fg)(td ty:TE):TE:=λσ H Q=>td σ H λx H1=>ty σ H1 λy H2=>∃a v,x = .ref a/\AM κ L H2 a y (some v)/\Q v H2
def yp (κ:NKey)(L:Fg)(td ty tv:TE):TS:=λD σ H=>tv σ H λv H1=>td σ H1 λx H2=>ty σ H2 λy H3=>∃a H4,x = .ref a/\BO κ L H3 a y v H4/\((∀φ,H4 a=some (.ext φ)->∃h,φ h)->D.nx σ H4)
section
variable {κ:NKey}{X:Cx}{σ:L2.St}{H:Hp}{s:Og}{a:Of}{xs:List (κ.K×Of×V)}{A:Oj}{E:Oe->Og->Prop}
def oh (I:Inv X OM σ H s)(e:H a=some (.ext<|NDi κ a xs)):NDi κ a xs s.heap:=(show D1 X.prog X.w H s.heap a (.ext<|NDi κ a xs) from I.hok a _ e).1
def AC (I:Inv X OM σ H s)(e:H a=some (.ext<|NDi κ a xs)):s.TypeIs (.ref a) "dict" /\ (∀b,Oe.ref a = .ref b->∃ob,s.heap.get? b=some ob/\ob.dict=none)/\(a == sysModules)=false:=by obtain⟨z,hd,vs,r,o,es,ep,h1,h2,_⟩:=oh I e;refine⟨⟨o,h1,h2.1⟩,λb q=>?_,hd⟩;cases q;exact⟨o,h1,h2.2.1⟩
def yo (hu:A.units+9<OG)(hd:κ.dp<=8):(κ.kind X.prog X.w).room A.in1:=κ.room _ _ _ (by show A.units+1 + κ.dp<OG;omega)
def lV {y v:V}{u:Oe}{Q:Oe->Og->Prop}(hu:A.units+9<OG)(hd:κ.dp<=8)(I:Inv X OM σ H s)(g:AM κ X.K H a y (some v))(ry:u0 y u)(h:∀w' s',Inv X OM σ H s'->u0 v w'->Q w' s') :
  Oz (model X.prog X.w) A (getItem (.ref a) u) Q E s:=by obtain⟨xs,k,b,e,hk,rfl,kb,l⟩:=g;cases(show u=Oe.ref b from ry);rw[mq κ X.prog X.w]at e;exact qy (yo hu hd) I e (λx hx=>κ.ok I<|hk x hx) (κ.ok I kb) l.symm h
def lj {y v:V}{u r:Oe}{H':Hp}{Q:Unit->Og->Prop}(hu:A.units+9<OG)(hd:κ.dp<=8)(I:Inv X OM σ H s)(g:BO κ X.K H a y v H')(ry:u0 y u)(rv:u0 v r)(h:∀s',Inv X OM σ H' s'->Q () s') :
  Oz (model X.prog X.w) A (setItem (.ref a) u r) Q E s:=by obtain⟨xs,k,b,e,hk,rfl,kb,hl,rfl⟩:=g;cases(show u=Oe.ref b from ry);rw[mq κ X.prog X.w]at e h;exact pM (yo hu hd) I e (λx hx=>κ.ok I<|hk x hx) (κ.ok I kb) hl rv h
end
section
variable {κ:NKey}{X:Cx}{o i e f value:Oo}{pos pos' tpos apos cpos:Pos}{td ty tv tx:TE}
def wX {σ:L2.St}{H:Hp}{s:Og}(I:Inv X OM σ H s):NDi κ s.heap.objs.size [] (s.heap.push { cls:=.type "dict",data:=.dict #[] }) :=
 ⟨JV _,KD.2<|JC<|IX I.big,[],.nil,_,#[],0,Jc _ rfl,⟨rfl,rfl,rfl⟩,rfl,rfl,List.nodup_nil⟩
def xo :PE X (.Dict [] [] pos) (xP κ):=λOM s σ H Q I h =>
 wpAny_Dict_empty ⟨.ref s.heap.objs.size,_,I.laid (a:=s.heap.objs.size) (o:=.ext<|NDi κ s.heap.objs.size []) (t':=s.toks) (λ_ _ q=>ID _ q) (IT _) (by have d:NDi κ s.heap.objs.size [] (s.heap.push { cls:=.type "dict",data:=.dict #[] }):=⟨JV _,KD.2<|JC<|IX I.big,[],.nil,_,#[],0,Jc _ rfl,⟨rfl,rfl,rfl⟩,rfl,rfl,List.nodup_nil⟩;rw[mq κ X.prog X.w]at d ⊢;exact d.obj),rfl,h _ (I.hok.fresh<|IT _) ⟨_,wX I⟩⟩
def xt (hu:X.A.units+9<OG)(hd:κ.dp<=8)(ho:PE X o td)(hi:PE X i ty)(hs:zN i):PE X (.Subscript o i pos) (xW κ X.K td ty):=by intro OM s σ H Q I h;refine xn PySem.F.slot_dict_getitem.lookup hs (thn (ho OM s σ H _ I h) λu s1 ⟨x,H1,I1,rx,q1⟩=>thn (hi OM s1 σ H1 _ I1 q1) λiv s2 ⟨y,H2,I2,ry,a,v,ex,g,q2⟩=>?_);subst ex;obtain rfl:u=Oe.ref a:=rx;obtain⟨xs,k,b,e,_⟩:=id g;exact⟨(AC I2 e).1,lV hu hd I2 g ry λw' s3 I3 rw'=>⟨v,H2,I3,rw',q2⟩⟩
def vt (hu:X.A.units+9<OG)(hd:κ.dp<=8)(ho:PE X o td)(hi:PE X i ty)(hv:PE X value tv)(hs:OB value (some<|.Subscript o i pos') pos.line X.env=pure false) :
  PS X (.Assign [.Subscript o i pos'] value pos) (yp κ X.K td ty tv):=by intro OM s σ H D I h;refine wpAny_Assign_Subscript (thn (hv OM s σ H _ I h) λr s1 ⟨v,H1,I1,rv,q1⟩=>thn (ho OM s1 σ H1 _ I1 q1) λu s2 ⟨x,H2,I2,rx,q2⟩=>thn (hi OM s2 σ H2 _ I2 q2) λiv s3 ⟨y,H3,I3,ry,a,H4,ex,g,q3⟩=>?_) hs;subst ex;obtain rfl:u=Oe.ref a:=rx;exact lj hu hd I3 g ry rv λs4 I4=>⟨σ,H4,I4,q3 λφ e=>⟨_,(show D1 X.prog X.w H4 s4.heap a (.ext φ) from I4.hok a _ e).1⟩⟩
end
end
end L3
namespace L3
open PySem PySem.Spec PyProof.Rows L2 PySem.W
def dq (h:Oq)(d:Of)(es:Array DictEntry)(ep:Nat):Prop:=∃o,h.get? d=some o/\o.ExactDict/\o.data = .dict es ep
variable {es:Array DictEntry}{ep:Nat}
def dq.at' {h h':Oq}{d:Of}(x:dq h d es ep)(e:∀o,h.get? d=some o->h'.get? d=some o):dq h' d es ep:=let ⟨o,ho,r⟩:=x;⟨o,e _ ho,r⟩
def dq.typeIs {s:Og}{d:Of}(x:dq s.heap d es ep):s.TypeIs (.ref d) "dict":=let ⟨o,ho,hc,_⟩:=x;⟨o,ho,hc.1⟩
section
variable {prog:Oh}{w:Oi}{A:Oj}{E:Oe->Og->Prop}{s:Og}{it d:Of}{i:Nat}
def rA {Q:Oe->Og->Prop}(hd:(d == sysModules)=false)(hm:dq s.heap d es ep)
  (hQ:Q (.ref s.heap.objs.size) { s with heap:=s.heap.push { cls:=.type "dict_keyiterator",data:=.fields #[.ref d,.int 0 0,.int es.size 0,.int ep 0] } }) :
  Oz (model prog w) A (pyIter<|.ref d) Q E s:=by have hT:=hm.typeIs;obtain⟨o,ho,hc,hdat⟩:=hm;refine wpAny_pyIter_slot hT PySem.F.slot_dict_iter<|JT PySem.F.slot_dict_iter hT PySem.F.entry_dict_iter ?_<|PySem.F.args_dict_iter_1 _;unfold Builtin.«dict.__iter__»;refine Iw ?_;unfold Builtin.Dict.dictSlotNone;refine Iw<|wpAny_notOrdered_dict hT<|Iy ?_;show Oz _ _ (Builtin.Dict.showsAll d >>= _) _ _ s;unfold Builtin.Dict.showsAll;rw[II (by rw[hd];exact IZ)];refine Iw<|Iy<|Iw<|wpAny_dictEntries ho hdat<|Iw<|wpAny_dictEpoch ho hdat ?_;refine Iw<|JP<|Iy ⟨_,rfl,"dict_keyiterator",_,⟨_,Jc _ rfl,rfl⟩,Ki.lookup,?_⟩;simpa [rawInt] using hQ
def sU {Q:Option Oe->Og->Prop}(hit:s.heap.IsKeyIter it d i es.size ep)(hm:dq s.heap d es ep)(hlt:i<es.size)
  (hQ:∀h',h'.IsKeyIter it d (i+1) es.size ep->Oq.SameBut it s.heap h'->Q (some es[i].key) { s with heap:=h' }):Oz (model prog w) A (pyNext<|.ref it) Q E s:=by
 obtain⟨o,ho,hc,hd⟩:=id hit;obtain⟨od,hod,hcd,hdd⟩:=hm;unfold pyNext;refine Iw (LB (KC (name:=Str.ofString "__next__") hit.typeIs Ki
  (JT Ki hit.typeIs Mw ?_<|Mo _)))
 refine Iw<|Iy<|Iw<|Iw ?_;first | refine Iw (KS hit.typeIs<|Iy ?_) | refine Iw<|Lu hit.typeIs<|Iy ?_
 refine Iw<|wpAny_fieldsOf ho hd ?_;simp only[show Builtin.Dict_items.ownsTuple "dict_keyiterator" = false by decide,Jk,JI];show Oz _ _ (if (Oe.ref d == Oe.none)=true then _ else _) _ _ s;rw[II<|show ¬((Oe.ref d == Oe.none)=true) from IZ];refine Iw<|Iy<|Iw<|wpAny_dictEntries hod hdd ?_;rw[II<|by simp];refine Iw<|Iy<|Iw<|wpAny_dictEpoch hod hdd ?_;rw[II<|by simp];refine Iy ?_;simp only[show ¬((i:Int)<0) from by omega,JI,Jx,Array.getElem?_eq_getElem hlt];refine Iw ?_;first | refine Iw (KS hit.typeIs<|Iy ?_) | refine Iw<|Lu hit.typeIs<|Iy ?_
 refine Iw<|wpAny_isOneOf_keyiter hit.typeIs ?_;show Oz _ _ (setField (.ref it) 1 (rawInt<|(i:Int)+1) >>= _) _ _ s;refine Iw (Ls ho hd (by simp) ?_);have hit':(s.heap.update it<|Ou.mapFields (·.setIfInBounds 1 (rawInt<|(i:Int)+1))).IsKeyIter it d (i+1) es.size ep :=
  ⟨_,JD _ ho<|Na<|Lf hd _,(Ou.cls_mapFields ..).trans hc,by rw[Lf hd];simp[rawInt]⟩
 refine Iw<|JL ?_;refine Iw<|wpAny_isOneOf_keyiter (s:={ s with heap:=s.heap.update it (Ou.mapFields (·.setIfInBounds 1 (rawInt<|(i:Int)+1))) }) hit'.typeIs ?_;show Oz _ _ (pure es[i].key) _ _ _;exact Iy<|Iy ⟨_,rfl,Iy<|hQ _ hit'<|Ly ..⟩
def wK {Q:Option Oe->Og->Prop}(hh:A.handled=none)(hit:s.heap.IsKeyIter it d es.size es.size ep)(hm:dq s.heap d es ep)
  (hQ:∀h',Oq.ExtBut it s.heap h'->Q none { s with heap:=h' }):Oz (model prog w) A (pyNext<|.ref it) Q E s:=by
 obtain⟨o,ho,hc,hd⟩:=id hit;obtain⟨od,hod,hcd,hdd⟩:=hm;unfold pyNext;refine Iw (LB (KC (name:=Str.ofString "__next__") hit.typeIs Ki
  (JT Ki hit.typeIs Mw ?_<|Mo _)))
 refine Iw<|Iy<|Iw<|Iw ?_;first | refine Iw (KS hit.typeIs<|Iy ?_) | refine Iw<|Lu hit.typeIs<|Iy ?_
 refine Iw<|wpAny_fieldsOf ho hd ?_;simp only[show Builtin.Dict_items.ownsTuple "dict_keyiterator" = false by decide,Jk,JI];show Oz _ _ (if (Oe.ref d == Oe.none)=true then _ else _) _ _ s;rw[II<|show ¬((Oe.ref d == Oe.none)=true) from IZ];refine Iw<|Iy<|Iw<|wpAny_dictEntries hod hdd ?_;rw[II<|by simp];refine Iw<|Iy<|Iw<|wpAny_dictEpoch hod hdd ?_;rw[II<|by simp];refine Iy ?_;simp only[show ¬((es.size:Int)<0) from by omega,JI,Jx,Array.getElem?_eq_none<|IT _];refine Iw ?_;first | refine Iw (KS hit.typeIs<|Iy ?_) | refine Iw<|Lu hit.typeIs<|Iy ?_
 show Oz _ _ (setField (.ref it) 0 .none >>= _) _ _ s;refine Iw (Ls ho hd (by simp) ?_);show Oz _ _ (newExc (.type "StopIteration") [] >>= _) _ _ _;refine Iw ?_;simp only[newExc,newTuple];refine Iw (JP ?_<|by size_fits);refine Iw (m:=firstArgMember _ _) (Nu (a:=Oe.none) (by first | rfl | (simp only[firstArgMember];rfl)) ?_);refine JP ?_ (by size_fits);simp only[raiseNew];refine Iw<|wpAny_handled ?_;rw[show A.in1.handled=none from hh];refine Iw<|Iy<|wpAny_throw ?_;refine Iw<|LY (T:="StopIteration") (b:=true) ⟨_,Jc _ rfl,rfl⟩ isSubtype_stop ?_;exact Iy<|hQ _<|((Ly ..).extBut.push _).push _
def qa (hh:A.handled=none)(I d:Of)(hne:d≠I)(es:Array DictEntry)(ep:Nat) :
  Walks prog w A I [I,d] [I] es.size (λi v=>∃h:i<es.size,v=es[i].key) (λi h=>h.IsKeyIter I d i es.size ep/\dq h d es ep) where
 sub:=λb hb=>by simp at hb;simp[hb]
 frame:=λ_ _ _ st hk=>⟨st.1.at λo e=>hk I (by simp) o e,st.2.at' λo e=>hk d (by simp) o e⟩
 item:=λi s Q E hi st hQ=>sU st.1 st.2 hi λh' hit' hs'=>hQ _ h' s.toks ⟨hi,rfl⟩ ⟨hit',st.2.at' λo e=>hs'.extBut d o hne e⟩ λb o hb e=>hs'.extBut b o (λh=>hb<|by simp[h]) e
 done:=λs Q E st hQ=>wK hh st.1 st.2 λh' he'=>hQ h' s.toks λb o hb e=>he' b o (λh=>hb<|by simp[h]) e
 self:=λ_ _ _ _ st hQ=>wpAny_pyIter_keyiter st.1 hQ
def dq.lt {h:Oq}(x:dq h d es ep):d<h.objs.size:=let ⟨_,ho,_⟩:=x;IF ho
def vX (lo:(d == sysModules)=false):KdlSrc prog w "dict" d d es.size (λi v=>∃h:i<es.size,v=es[i].key) (λh=>dq h d es ep) where
 type:=λ_ hm=>hm.typeIs
 there:=λ_ hm=>⟨hm.lt,hm.lt⟩
 keep:=λ_ _ hm hk=>hm.at' λo e=>hk d (.inl rfl) o e
 notList:=by decide
 notTuple:=by decide
 hint:=λ_ _ _ _ hm hq=>kdl_hint_dict hm.typeIs hq
 iter:=λ_ _ hh hm=>⟨_,_,(λ_ _ hq=>rA lo hm hq),qa hh _ d (IX hm.lt) es ep,⟨⟨_,Jc _ rfl,rfl,rfl⟩,hm.at' λo e=>ID _ e⟩⟩
end
def nc {K:Type}{xs:List (K×Of×V)}{vs:List (K×Of×Oe)}(rel:Paired (λ(p:K×Of×V) (q:K×Of×Oe)=>p.1=q.1/\p.2.1=q.2.1/\L2.u0 p.2.2 q.2.2) xs vs):n5 (xs.map λx=>V.ref x.2.1) (vs.map λq=>Oe.ref q.2.1):=by
 induction rel with
 | nil=>exact .nil
 | @cons a b l1 l2 hab _ ih =>rw[IJ,IJ];exact .cons (by rw[hab.2.1];exact rfl) ih
end L3
namespace L3
open PySem PySem.Spec PyProof.Rows L2
section
def wZ:My->Option Int
 | .int i=>some i
 | .bool b=>some<|bIn b
 | _=>none
def gY:List My->Option (List<|Int ⊕ Empty)
 | []=>some []
 | d::ds=>(wZ d).bind λi=>(gY ds).map (.inl i :: ·)
def aD:List My->Option (List<|Int ⊕ List (Int ⊕ Empty))
 | []=>some []
 | .tuple es::ds=>(gY es).bind λk=>(aD ds).map (.inr k :: ·)
 | _::_=>none
def yi:My->Option T8.K
 | .tuple ds=>gY ds
 | _=>none
def yn:My->Option Z5.K
 | .tuple ds=>aD ds
 | _=>none
def lH:My->Option iN.K
 | .tuple [.tuple ds,.int i]=>(aD ds).map λk=>[.inr k,.inl i]
 | _=>none
section
variable {K:Fg}{H:Hp}
theorem gP:∀{ds:List My} {ks:List (Int ⊕ Empty)} {vs:List V} {j:Nat},gY ds=some ks->c5 K H ds vs->VKeys yh (λ_=>false) K H j ks vs
 | [],ks,vs,j,e,h=>by
  simp only[gY,MH]at e;simp only[c5]at h;subst e h;exact .nil
 | d::ds,ks,vs,j,e,h=>by
  simp only[c5]at h;obtain⟨x,r,rfl,h1,h2⟩:=h;simp only[gY]at e;obtain⟨i,e1,e2⟩:=bS9 e;obtain⟨ks',e3,rfl⟩:=Ja.1 e2;have ih:=gP (j:=j+1) e3 h2;cases d with
  | int n=>simp only[wZ,MH]at e1;subst e1;cases(show x=V.int n from h1);exact .int rfl ih
  | bool b=>simp only[wZ,MH]at e1;subst e1;cases(show x=V.bl b from h1);exact .bl rfl ih
  | _=>simp[wZ]at e1
def kL {d:My}{k:T8.K}{v:V}(e:yi d=some k)(h:c6 K H d v):∃b,v = .ref b/\T8.At K H k b:=by
 cases d with
 | tuple ds =>simp only[c6]at h;obtain⟨a,xs,rfl,h1,h2⟩:=h;exact⟨a,rfl,xs,h1,gP e h2⟩
 | none=>exact nomatch (show(none:Option T8.K)=some k from e)
 | bool _=>exact nomatch (show(none:Option T8.K)=some k from e)
 | int _=>exact nomatch (show(none:Option T8.K)=some k from e)
 | str _=>exact nomatch (show(none:Option T8.K)=some k from e)
 | list _=>exact nomatch (show(none:Option T8.K)=some k from e)
 | dict _=>exact nomatch (show(none:Option T8.K)=some k from e)
theorem gf:∀{ds:List My} {ks:List (Int ⊕ List (Int ⊕ Empty))} {vs:List V} {j:Nat},aD ds=some ks->c5 K H ds vs->VKeys T8 (λ_=>true) K H j ks vs
 | [],ks,vs,j,e,h=>by
  simp only[aD,MH]at e;simp only[c5]at h;subst e h;exact .nil
 | d::ds,ks,vs,j,e,h=>by
  simp only[c5]at h;obtain⟨x,r,rfl,h1,h2⟩:=h;cases d with
  | tuple es =>simp only[aD]at e;obtain⟨k,e1,e2⟩:=bS9 e;obtain⟨ks',e3,rfl⟩:=Ja.1 e2;obtain⟨b,rfl,hb⟩:=kL (d:=.tuple es) e1 h1;exact .ref rfl hb<|gf (j:=j+1) e3 h2
  | _=>simp[aD]at e
def nH {d:My}{k:Z5.K}{v:V}(e:yn d=some k)(h:c6 K H d v):∃b,v = .ref b/\Z5.At K H k b:=by
 cases d with
 | tuple ds =>simp only[c6]at h;obtain⟨a,xs,rfl,h1,h2⟩:=h;exact⟨a,rfl,xs,h1,gf e h2⟩
 | none=>exact nomatch (show(none:Option Z5.K)=some k from e)
 | bool _=>exact nomatch (show(none:Option Z5.K)=some k from e)
 | int _=>exact nomatch (show(none:Option Z5.K)=some k from e)
 | str _=>exact nomatch (show(none:Option Z5.K)=some k from e)
 | list _=>exact nomatch (show(none:Option Z5.K)=some k from e)
 | dict _=>exact nomatch (show(none:Option Z5.K)=some k from e)
def uu {d:My}{k:iN.K}{v:V}(e:lH d=some k)(h:c6 K H d v):∃b,v = .ref b/\iN.At K H k b:=by
 unfold lH at e;split at e
 .rename_i ds i;obtain⟨ks,e1,rfl⟩:=Ja.1 e;simp only[c6,c5]at h;obtain⟨a,xs,rfl,h1,x,r,rfl,h2,y,r2,rfl,h3,rfl⟩:=h;obtain⟨b,rfl,hb⟩:=nH (d:=.tuple ds) e1 (by simp only[c6];exact h2);subst h3;exact⟨a,rfl,_,h1,.ref rfl hb<|.int rfl .nil⟩
 .cases e
end
end
variable {fp:List Of}{H':Hp}{ts:List (Str×Of×Of)}
section
abbrev St :=L2.St
def hid (H:Hp)(B:List Of):Hp:=λb=>if b∈B then none else H b
def l9 {H:Hp}{B:List Of}{b:Of}(h:b ∉ B):hid H B b=H b:=by unfold hid;rw[II h]
def G2 {H:Hp}{B:List Of}{b:Of}(h:b∈B):hid H B b=none:=by unfold hid;rw[IE h]
def g6 {H:Hp}{B:List Of}:k8 (hid H B) H:=λb o e=>by
 by_cases h:b∈B
 .rw[G2 h]at e;cases e
 .rwa [l9 h]at e
def R6 {H:Hp}{B B':List Of}(s:∀b∈B',b∈B):k8 (hid H B) (hid H B'):=λb o e=>by
 by_cases h:b∈B
 .rw[G2 h]at e;cases e
 .rw[l9 h]at e;rw[l9 λz=>h<|s b z];exact e
def Kp (fp:List Of)(H H':Hp):Prop:=∀b o,H b=some o->b ∉ fp->H' b=some o
def Kp.refl {H:Hp}:Kp fp H H:=λ_ _ e _=>e
def Kp.trans {H H1 H2:Hp}(a:Kp fp H H1)(b:Kp fp H1 H2):Kp fp H H2:=λc o e n=>b c o (a c o e n) n
def Kp.same {H:Hp}(s:k8 H H'):Kp fp H H':=λb o e _=>s b o e
def Kp.upd {H:Hp}{p:Of}{o:HO}(hp:H p=none):Kp fp H (upd H p o):=Kp.same<|k8.upd hp
def Kp.hid {B:List Of}{H:Hp}(k:Kp fp H H')(s:∀b∈fp,b∈B):k8 (hid H B) (hid H' B):=λb o e=>by
 by_cases h:b∈B
 .rw[G2 h]at e;cases e
 .rw[l9 h]at e ⊢;exact k b o e λz=>h<|s b z
def ax {H:Hp}{B:List Of}{a:Of}{o:HO}(h:a∈B):hid (upd H a o) B=hid H B:=by
 funext b;by_cases hb:b∈B
 .rw[G2 hb,G2 hb]
 .rw[l9 hb,l9 hb,h8];intro e;subst e;exact hb h
def G1 (K:Fg)(fp B:List Of)(H:Hp):My->V->Prop
 | .tuple ds,v=>∃a xs,v = .ref a/\SqT K (hid H B) a xs/\c5 K (hid H B) ds xs
 | .list ds,v=>∃a xs,v = .ref a/\hid H fp a=some (.lst xs)/\c5 K (hid H B) ds xs
 | .none,v=>v = .non
 | .bool b,v=>v = .bl b
 | .int i,v=>v = .int i
 | .str x,v=>v = .str x
 | .dict _,_=>False
section
variable {K:Fg}{B:List Of}{H:Hp}{d:My}{v:V}
def xE (h:c6 K (hid H B) d v)(s:∀b∈fp,b∈B):G1 K fp B H d v:=by
 cases d with
 | tuple ds =>simp only[c6]at h;obtain⟨a,xs,e,hq,hd⟩:=h;exact⟨a,xs,e,hq,hd⟩
 | list ds =>simp only[c6]at h;obtain⟨a,xs,e,hq,hd⟩:=h;exact⟨a,xs,e,R6 s _ _ hq,hd⟩
 | _=>simpa only[c6,G1] using h
def G1.dat (h:G1 K fp B H d v):c6 K H d v:=by
 cases d with
 | tuple ds =>obtain⟨a,xs,e,hq,hd⟩:=h;simp only[c6];exact⟨a,xs,e,hq.same g6,hd.same g6⟩
 | list ds =>obtain⟨a,xs,e,hq,hd⟩:=h;simp only[c6];exact⟨a,xs,e,g6 _ _ hq,hd.same g6⟩
 | _=>simpa only[c6,G1] using h
def G1.step (h:G1 K fp B H d v)(k:Kp fp H H')(s:∀b∈fp,b∈B):G1 K fp B H' d v:=by
 have sm:=k.hid s;have sf:=k.hid (B:=fp) λ_ z=>z
 cases d with
 | tuple ds =>obtain⟨a,xs,e,hq,hd⟩:=h;exact⟨a,xs,e,hq.same sm,hd.same sm⟩
 | list ds =>obtain⟨a,xs,e,hq,hd⟩:=h;exact⟨a,xs,e,sf _ _ hq,hd.same sm⟩
 | _=>exact h
def G1.tup {ds:List My}(h:G1 K fp B H (.tuple ds) v):c6 K (hid H B) (.tuple ds) v:=by obtain⟨a,xs,e,hq,hd⟩:=h;simp only[c6];exact⟨a,xs,e,hq,hd⟩
def BOk (H:Hp)(B:List Of):Prop:=∀b∈B,∃o,H b=some o
def BOk.nin (h:BOk H B){p:Of}(hp:H p=none):p ∉ B:=λz=>by obtain⟨o,e⟩:=h p z;rw[hp]at e;cases e
def R3 {p:Of}{ds:List My}{xs:List V}(bk:BOk H B)(hp:H p=none)(h:c5 K (hid H B) ds xs):c6 K (hid (upd H p<|.tup xs) B) (.tuple ds) (.ref p):=by have e:k8 (hid H B) (hid (upd H p<|.tup xs) B):=(Kp.upd (fp:=[]) hp).hid (by simp);refine c6.tup ?_<|h.same e;rw[l9<|bk.nin hp];exact i7
def ai {p:Of}{ds:List My}{xs:List V}(bk:BOk H B)(hp:H p=none)(h:c5 K (hid H B) ds xs):c6 K (hid (upd H p<|.lst xs) B) (.list ds) (.ref p):=by have e:k8 (hid H B) (hid (upd H p<|.lst xs) B):=(Kp.upd (fp:=[]) hp).hid (by simp);refine c6.lst ?_<|h.same e;rw[l9<|bk.nin hp];exact i7
end
def NoT (o:HO):Prop:=(∀ps,o ≠ .tbl ps)/\∀φ,o ≠ .ext φ
class Feeds where
 S:Type
 At:Of->Of->Hp->S->Prop
 some1:∀{d c H F},At d c H F->∃o,H d=some o/\NoT o
 some2:∀{d c H F},At d c H F->∃o,H c=some o/\NoT o
 congr:∀{d c H H' F},At d c H F->H' d=H d->H' c=H c->At d c H' F
 lam:List Str
abbrev GF :=Option<|Of×Of
def tabsK (l:List Str)(K:Fg):List (Str×Of×Of):=l.filterMap λx=>(PySem.W.tabIn K x).map λp=>(x,p)
def AJ (x:Str):Str:=x ++ ".<locals>." ++ "<lambda>"
def Q0 (ts:List (Str×Of×Of))(H:Hp):Prop:=∀t∈ts,Bv H t.2.2<|AJ t.1
def Q0.congr {H:Hp}(h:Q0 ts H)(e:∀b,(b∈ts.map (·.2.2)\/∃φ,H b=some (.ext φ))->H' b=H b):Q0 ts H':=λt ht=>by obtain⟨ps,h1,h2,h3⟩:=h t ht;refine⟨ps,(e _<|.inl<|Mg ht).trans h1,h2,λpos cv q=>?_⟩;obtain⟨c,r1,r2⟩:=h3 pos cv q;exact⟨c,r1,(e c<|.inr ⟨_,r2⟩).trans r2⟩
def Q0.but {H:Hp}{d:Of}{o0:HO}(h:Q0 ts H)(hd:H d=some o0)(hn:NoT o0)(kp:∀b o,H b=some o->b≠d->H' b=some o):Q0 ts H':=h.congr λb hb=>by
 obtain⟨o,e,hne⟩:∃o,H b=some o/\b≠d:=by
  rcases hb with hb | ⟨φ,e⟩
  .obtain⟨t,ht,rfl⟩:=Jm.1 hb;obtain⟨ps,e,_⟩:=h t ht;exact⟨_,e,λz=>by rw[z,hd]at e;exact hn.1 ps<|IS e⟩
  .exact⟨_,e,λz=>by rw[z,hd]at e;exact hn.2 φ<|IS e⟩
 rw[e];exact kp b o e hne
section
variable [Feeds]
def tabP (K:Fg):List Of:=(tabsK Feeds.lam K).map (·.2.2)
def m7 (K:Fg):GF->List Of
 | none=>tabP K
 | some (d,c)=>d::c::tabP K
def yR {K:Fg}{G:GF}{b:Of}(h:b∈tabP K):b∈m7 K G:=by
 cases G with
 | none=>exact h
 | some p=>exact IA _<|IA _ h
abbrev FS :=Feeds.S
abbrev M (α:Type):=FS->Option (α×FS)
def Cq (G:GF)(H:Hp)(F:FS):Prop:=match G with
 | none=>True
 | some (d,c)=>Feeds.At d c H F
def FAt (K:Fg)(G:GF)(H:Hp)(F:FS):Prop:=Cq G H F/\Q0 (tabsK Feeds.lam K) H
def FAt.bok {K:Fg}{G:GF}{H:Hp}{F:FS}(h:FAt K G H F):BOk H (m7 K G):=λb hb=>by
 have tb:b∈tabP K->∃o,H b=some o:=λz=>by obtain⟨t,ht,rfl⟩:=Jm.1 z;obtain⟨ps,h1,_⟩:=h.2 t ht;exact⟨_,h1⟩
 cases G with
 | none=>exact tb hb
 | some p =>
  obtain⟨d,c⟩:=p;simp only[m7,IP]at hb;rcases hb with rfl | rfl | hb
  .obtain⟨o,e,_⟩:=Feeds.some1 h.1;exact⟨o,e⟩
  .obtain⟨o,e,_⟩:=Feeds.some2 h.1;exact⟨o,e⟩
  .exact tb hb
def FAt.congr {K:Fg}{G:GF}{H:Hp}{F:FS}(h:FAt K G H F)(e:∀b,(b∈m7 K G\/∃φ,H b=some (.ext φ))->H' b=H b):FAt K G H' F:=by
 refine⟨?_,h.2.congr λb hb=>e b<|hb.imp yR id⟩;cases G with
 | none=>trivial
 | some p =>obtain⟨d,c⟩:=p;exact Feeds.congr h.1 (e d<|.inl<|by simp[m7]) (e c<|.inl<|by simp[m7])
def FAt.same {K:Fg}{G:GF}{H:Hp}{F:FS}(h:FAt K G H F)(s:k8 H H'):FAt K G H' F:=h.congr λb hb=>by
 rcases hb with hb | ⟨φ,e⟩
 .obtain⟨o,e⟩:=h.bok b hb;rw[e];exact s b o e
 .rw[e];exact s b _ e
inductive DV where
 | dat (d:My) | feed | own (ds:List My) | fn (x:Str) | adr (a:Of) | dic (w:Bool) (c:Nat) (ps:List (My×My))
def DV.ow:DV->Bool
 | .own _=>true
 | .dic _ _ _=>true
 | _=>false
def B3:Nat->NKey
 | 0=>Z5
 | 1=>iN
 | _+2=>T8
def P0:(c:Nat)->My->Option (B3 c).K
 | 0=>yn
 | 1=>lH
 | _+2=>yi
def KVs (K:Fg)(H:Hp)(c:Nat):List (My×My)->List ((B3 c).K×Of×V)->Prop
 | [],xs=>xs=[]
 | p::ps,xs=>∃k b v r,xs=(k,b,v)::r/\P0 c p.1=some k/\c6 K H p.1 (.ref b)/\c6 K H p.2 v/\KVs K H c ps r
theorem KVs.same {K:Fg}{H H':Hp}{c:Nat}(s:k8 H H'):∀{ps:List (My×My)} {xs:List ((B3 c).K×Of×V)},KVs K H c ps xs->KVs K H' c ps xs
 | [],_,h=>h
 | _::_,_,⟨k,b,v,r,e,h1,h2,h3,h4⟩=>⟨k,b,v,r,e,h1,h2.same s,h3.same s,h4.same s⟩
abbrev DE :=List<|Option DV
def DVr (K:Fg)(G:GF)(B:List Of)(H:Hp):DV->V->Prop
 | .dat d,v=>c6 K (hid H B) d v
 | .feed,v=>∃d c,G=some (d,c)/\v = .ref d
 | .fn x,v=>∃a,v = .ref a/\PySem.W.nsIn K OA x=some (some<|.ref a)
 | .adr a,v=>v = .ref a
 | .dic _ c ps,v=>∃a xs,v = .ref a/\a∈B/\a ∉ m7 K G/\H a=some (.ext<|NDi (B3 c) a xs)/\(∃h,NDi (B3 c) a xs h)/\KVs K (hid H B) c ps xs
 | .own ds,v=>∃a xs,v = .ref a/\a∈B/\a ∉ m7 K G/\H a=some (.lst xs)/\c5 K (hid H B) ds xs
structure SitE (K:Fg) (G:GF) (B:List Of) (E:DE) (F:FS) (σ:St) (H:Hp):Prop where
 fd:FAt K G H F
 fB:∀b∈m7 K G,b∈B
 bk:BOk H B
 ln:E.length = σ.length
 loc:∀(i:Nat) (x:DV),E[i]? = some (some x)->∃v,σ[i]? = some (some v)/\DVr K G B H x v
section
variable {K:Fg}{G:GF}{B:List Of}{E:DE}{F F':FS}{σ:St}{H:Hp}
def A6 (bk:BOk H B)(k:Kp (m7 K G) H H')(f:FAt K G H' F'):BOk H' B:=λb hb=>by
 by_cases h:b∈m7 K G
 .exact f.bok b h
 .obtain⟨o,e⟩:=bk b hb;exact⟨o,k b o e h⟩
def DVr.step {x:DV}{v:V}(h:DVr K G B H x v)(k:Kp (m7 K G) H H')(fB:∀b∈m7 K G,b∈B):DVr K G B H' x v:=by
 cases x with
 | dat d=>exact c6.same (h:c6 _ _ _ _)<|k.hid fB
 | feed=>exact h
 | fn _=>exact h
 | adr _=>exact h
 | own ds =>obtain⟨a,xs,e,hB,hf,ha,hd⟩:=h;exact⟨a,xs,e,hB,hf,k a _ ha hf,hd.same<|k.hid fB⟩
 | dic w c ps =>obtain⟨a,xs,e,hB,hf,ha,hn,hd⟩:=h;exact⟨a,xs,e,hB,hf,k a _ ha hf,hn,hd.same<|k.hid fB⟩
def SitE.step (I:SitE K G B E F σ H)(k:Kp (m7 K G) H H')(f:FAt K G H' F'):SitE K G B E F' σ H' :=
 ⟨f,I.fB,A6 I.bk k f,I.ln,λi x e=>by obtain⟨v,h1,h2⟩:=I.loc i x e;exact⟨v,h1,h2.step k I.fB⟩⟩
end
end
end
variable {te:TE}{pos:Pos}
section
section
variable [Feeds]
def TEd (K:Fg)(te:TE)(m:DE->M My):Prop:=∀(G:GF) (B:List Of) (E:DE) (F:FS) (σ:St) (H:Hp) (Q:VK) (d:My) (F':FS),SitE K G B E F σ H->m E F=some (d,F') ->
 (∀v H',Kp (m7 K G) H H'->FAt K G H' F'->c6 K (hid H' B) d v->Q v H')->te σ H Q
def TEs (K:Fg)(te:TE)(m:DE->M My):Prop:=∀(G:GF) (B:List Of) (E:DE) (F:FS) (σ:St) (H:Hp) (Q:VK) (d:My) (F':FS),SitE K G B E F σ H->m E F=some (d,F') ->
 (∀v H',Kp (m7 K G) H H'->FAt K G H' F'->G1 K (m7 K G) B H' d v->Q v H')->te σ H Q
def TEd.sh {K:Fg}{m:DE->M My}(h:TEd K te m):TEs K te m:=λG B E F σ H Q d F' I e q=>h G B E F σ H Q d F' I e λv H' k f hd=>q v H' k f<|xE hd I.fB
def TTd (K:Fg)(tt:TT)(m:DE->M Bool):Prop:=∀(G:GF) (B:List Of) (E:DE) (F:FS) (σ:St) (H:Hp) (Q:Bool->Hp->Prop) (b:Bool) (F':FS),SitE K G B E F σ H->m E F=some (b,F') ->
 (∀H',Kp (m7 K G) H H'->FAt K G H' F'->Q b H')->tt σ H Q
def TAd (K:Fg)(ta:TA)(m:DE->M (List My)):Prop:=∀(G:GF) (B:List Of) (E:DE) (F:FS) (σ:St) (H:Hp) (Q:List V->Hp->Prop) (ds:List My) (F':FS),SitE K G B E F σ H->m E F=some (ds,F') ->
 (∀vs H',Kp (m7 K G) H H'->FAt K G H' F'->c5 K (hid H' B) ds vs->Q vs H')->ta σ H Q
def cM (K:Fg)(fp B:List Of)(H:Hp):List My->List V->Prop
 | [],vs=>vs=[]
 | d::ds,vs=>∃v r,vs=v::r/\G1 K fp B H d v/\cM K fp B H ds r
def TAs (K:Fg)(ta:TA)(m:DE->M (List My)):Prop:=∀(G:GF) (B:List Of) (E:DE) (F:FS) (σ:St) (H:Hp) (Q:List V->Hp->Prop) (ds:List My) (F':FS),SitE K G B E F σ H->m E F=some (ds,F') ->
 (∀vs H',Kp (m7 K G) H H'->FAt K G H' F'->cM K (m7 K G) B H' ds vs->Q vs H')->ta σ H Q
structure Ev (K:Fg) (X:Cx) (e:Oo) (te:TE) (m:DE->M My):Prop where
 pe:PE X e te
 ok:TEd K te m
structure Eb (K:Fg) (X:Cx) (e:Oo) (te:TE) (m:DE->M My):Prop where
 pe:PE X e te
 ok:TEs K te m
structure Et (K:Fg) (X:Cx) (e:Oo) (tt:TT) (m:DE->M Bool):Prop where
 pt:PT X e tt
 ok:TTd K tt m
structure Ew (K:Fg) (X:Cx) (e:Oo) (tt:TT) (m:DE->M Bool):Prop where
 pw:PW X e tt
 ok:TTd K tt m
structure Ea (K:Fg) (X:Cx) (es:List Oo) (ta:TA) (m:DE->M (List My)):Prop where
 pa:PA X es ta
 ok:TAd K ta m
structure Es (K:Fg) (X:Cx) (es:List Oo) (ta:TA) (m:DE->M (List My)):Prop where
 pa:PA X es ta
 ok:TAs K ta m
variable {K:Fg}{X:Cx}{a b c e:Oo}{es:List Oo}{ta tb tc:TE}{ma mb mc m:DE->M My}
def Ev.bw (h:Ev K X e te m):Eb K X e te m:=⟨h.pe,h.ok.sh⟩
noncomputable def sC (d:My):DE->M My:=λ_ F=>some (d,F)
def sV (i:Nat):DE->M My:=λE F=>match E[i]? with
 | some (some<|.dat d)=>some (d,F)
 | _=>none
def sW (i:Nat):DE->M My:=λE F=>match E[i]? with
 | some (some<|.dat d)=>some (d,F)
 | some (some<|.own ds)=>some (.list ds,F)
 | _=>none
def vp {d:My}{v:V}(h:∀H,c6 K H d v):TEd K (tC v) (sC d):=λG B E F σ H Q d' F' I e q=>by cases e;exact q v H Kp.refl I.fd<|h _
def f8 {i j}:Ev K X (.Constant (.int i) j pos) (tC<|.int i) (sC<|.int i):=⟨p0,vp λ_=>c6.int⟩
def O3 {x j}:Ev K X (.Constant (.bool x) j pos) (tC<|.bl x) (sC<|.bool x):=⟨BY,vp λ_=>c6.bl⟩
def zc {j}:Ev K X (.Constant .none j pos) (tC .non) (sC .none):=⟨zQ,vp λ_=>c6.non⟩
def M6 {x j}:Ev K X (.Constant (.str x) j pos) (tC<|.str x) (sC<|.str x):=⟨mD,vp λ_=>c6.st⟩
def Bu (i:Nat):TEd K (Q8 i) (sV i):=λG B E F σ H Q d F' I e q=>by
 unfold sV at e;split at e
 .rename_i x hx;cases e;obtain⟨v,h1,h2⟩:=I.loc i _ hx;exact⟨v,h1,q v H Kp.refl I.fd h2⟩
 .cases e
def Br (i:Nat):TEs K (Q8 i) (sW i):=λG B E F σ H Q d F' I e q=>by
 unfold sW at e;split at e
 .rename_i x hx;cases e;obtain⟨v,h1,h2⟩:=I.loc i _ hx;exact⟨v,h1,q v H Kp.refl I.fd<|xE h2 I.fB⟩
 .rename_i x hx;cases e;obtain⟨v,h1,h2⟩:=I.loc i _ hx;refine⟨v,h1,q v H Kp.refl I.fd ?_⟩;obtain⟨p,xs,rfl,hB,hf,hp,hd⟩:=h2;exact⟨p,xs,rfl,by rw[l9 hf];exact hp,hd⟩
 .cases e
def i5 (i:Nat){x:Str}(hN:X.N[i]? = some x:=by rfl)(hv:Vis X.env.scope x:=by first | exact Or.inl rfl | exact Or.inr (Or.inl rfl) | exact Or.inr<|Or.inr rfl)(hd:(x == ("__debug__":Str))=false:=by decide)
  (hcd:(x == ("__classdict__":Str))=false:=by decide):Ev K X (.Name x pos) (Q8 i) (sV i):=⟨G5 hN hv hd hcd,Bu i⟩
def j4 (i:Nat){x:Str}(hN:X.N[i]? = some x:=by rfl)(hv:Vis X.env.scope x:=by first | exact Or.inl rfl | exact Or.inr (Or.inl rfl) | exact Or.inr<|Or.inr rfl)(hd:(x == ("__debug__":Str))=false:=by decide)
  (hcd:(x == ("__classdict__":Str))=false:=by decide):Eb K X (.Name x pos) (Q8 i) (sW i):=⟨G5 hN hv hd hcd,Br i⟩
def rD1 (K:Fg)(f:My->Option My):V->Hp->VK->Prop:=λx H Q=>∃fp B d r,BOk H B/\G1 K fp B H d x/\f d=some r/\∀v H',k8 H H'->c6 K (hid H' B) r v->Q v H'
def rD2 (K:Fg)(f:My->My->Option My):R2:=λx y H Q=>∃fp B d e r,BOk H B/\G1 K fp B H d x/\G1 K fp B H e y/\f d e=some r/\∀v H',k8 H H'->c6 K (hid H' B) r v->Q v H'
def rDN (K:Fg)(f:List My->Option My):List V->Hp->VK->Prop:=λxs H Q=>∃fp B ds r,BOk H B/\cM K fp B H ds xs/\f ds=some r/\∀v H',k8 H H'->c6 K (hid H' B) r v->Q v H'
def s1 (f:My->Option My)(a:DE->M My):DE->M My:=λE F=>(a E F).bind λp=>(f p.1).bind λz=>some (z,p.2)
def s2 (f:My->My->Option My)(a b:DE->M My):DE->M My:=λE F=>(a E F).bind λp=>(b E p.2).bind λq=>(f p.1 q.1).bind λz=>some (z,q.2)
def sN (f:List My->Option My)(a:DE->M (List My)):DE->M My:=λE F=>(a E F).bind λp=>(f p.1).bind λz=>some (z,p.2)
def Bc {f:My->Option My}(ha:TEs K ta ma):TEd K (tUn (rD1 K f) ta) (s1 f ma):=λG B E F σ H Q d F' I e q=>by obtain⟨⟨x,F1⟩,e1,e⟩:=bS9 e;obtain⟨z,e2,e⟩:=bS9 e;cases e;refine ha G B E F σ H _ x F1 I e1 λv H1 k1 f1 h1=>⟨m7 K G,B,x,_,A6 I.bk k1 f1,h1,e2,λw H2 s hw=>q w H2 (k1.trans<|Kp.same s) (f1.same s) hw⟩
def nN {f:My->My->Option My}(ha:TEs K ta ma)(hb:TEs K tb mb):TEd K (tOp (rD2 K f) ta tb) (s2 f ma mb):=λG B E F σ H Q d F' I e q=>by
 obtain⟨⟨x,F1⟩,e1,e⟩:=bS9 e;obtain⟨⟨y,F2⟩,e2,e⟩:=bS9 e;obtain⟨z,e3,e⟩:=bS9 e;cases e;refine ha G B E F σ H _ x F1 I e1 λv H1 k1 f1 h1=>?_
 refine hb G B E F1 σ H1 _ y F2 (I.step k1 f1) e2 λw H2 k2 f2 h2=>⟨m7 K G,B,x,y,_,A6 I.bk (k1.trans k2) f2,h1.step k2 I.fB,h2,e3,λu H3 s hu=>q u H3 ((k1.trans k2).trans<|Kp.same s) (f2.same s) hu⟩
def sX {f:List My->Option My}{t:TA}{ms:DE->M (List My)}(ha:TAs K t ms):TEd K (tCB (rDN K f) t) (sN f ms):=λG B E F σ H Q d F' I e q=>by obtain⟨⟨x,F1⟩,e1,e⟩:=bS9 e;obtain⟨z,e2,e⟩:=bS9 e;cases e;exact ha G B E F σ H _ x F1 I e1 λvs H1 k1 f1 h1=>⟨m7 K G,B,x,_,A6 I.bk k1 f1,h1,e2,λw H2 s hw=>q w H2 (k1.trans<|Kp.same s) (f1.same s) hw⟩
def i4 {op:Operator}{f:My->My->Option My}(ho:OpR X (binaryOp op) (rD2 K f))(ha:Eb K X a ta ma)(hb:Eb K X b tb mb):Ev K X (.BinOp a op b pos) (tOp (rD2 K f) ta tb) (s2 f ma mb):=⟨C3 ho ha.pe hb.pe,nN ha.ok hb.ok⟩
def yq {op:UnaryOp}{f:My->Option My}(ho:UnR X (unaryOp op) (rD1 K f))(ha:Eb K X a ta ma):Ev K X (.UnaryOp op a pos) (tUn (rD1 K f) ta) (s1 f ma):=⟨yc ho ha.pe,Bc ha.ok⟩
def cK {op:CmpOp}{f:My->My->Option My}(ho:OpR X (compareOp op) (rD2 K f))(ha:Eb K X a ta ma)(hb:Eb K X b tb mb)(hm:behindInMarks op b=false:=by first | exact cB _ | rfl):Ev K X (.Compare a [op] [b] pos) (tOp (rD2 K f) ta tb) (s2 f ma mb):=⟨vf ho ha.pe hb.pe hm,nN ha.ok hb.ok⟩
def W6 {f:My->My->Option My}(hr:IxR X (rD2 K f))(ha:Eb K X a ta ma)(hb:Eb K X b tb mb)(hs:oC b:=by intro _ _;rfl):Ev K X (.Subscript a b pos) (tOp (rD2 K f) ta tb) (s2 f ma mb):=⟨aA hr ha.pe hb.pe hs,nN ha.ok hb.ok⟩
def l7 {f:List My->Option My}{id:String}{x:Str}{p:Pos}{t:TA}{ms:DE->M (List My)}(hc:A3 X (.builtin id) (rDN K f))(hm:X.mg x=none)(hv:OD x=some (.builtin id))(ha:Es K X (e::es) t ms)(hg:Gl X x:=by rfl)(hn:x ≠ "__name__":=by decide)(hdb:(x == ("__debug__":Str))=false:=by decide)
  (he:Ot (e::es) X.env=(false,eval e X.env)::Ot es X.env:=by rfl) (hpl:(Ox pos<|Ot es X.env).any (·.1)=false:=by rfl):Ev K X (.Call (.Name x p) (e::es) [] pos) (tCB (rDN K f) t) (sN f ms):=⟨L7 hc hg hm hv ha.pa hn hdb he hpl,sX ha.ok⟩
def N7 {f:List My->Option My}{T:String}{x:Str}{p:Pos}{t:TA}{ms:DE->M (List My)}(hc:A3 X (.type T) (rDN K f))(hm:X.mg x=none)(hv:OD x=some (.type T))(ha:Es K X (e::es) t ms)(hg:Gl X x:=by rfl)(hn:x ≠ "__name__":=by decide)(hdb:(x == ("__debug__":Str))=false:=by decide)
  (he:Ot (e::es) X.env=(false,eval e X.env)::Ot es X.env:=by rfl) (hpl:(Ox pos<|Ot es X.env).any (·.1)=false:=by rfl):Ev K X (.Call (.Name x p) (e::es) [] pos) (tCB (rDN K f) t) (sN f ms):=⟨gG hc hg hm hv ha.pa hn hdb he hpl,sX ha.ok⟩
def j9 :DE->M (List My):=λ_ F=>some ([],F)
def d5 (a:DE->M My)(r:DE->M (List My)):DE->M (List My):=λE F=>(a E F).bind λp=>(r E p.2).bind λq=>some (p.1::q.1,q.2)
def j7 :Ea K X [] P1 j9:=⟨A8,λG B E F σ H Q ds F' I e q=>by cases e;exact q [] H Kp.refl I.fd c5.nil⟩
def d8 {t:TA}{ms:DE->M (List My)}(ha:Ev K X e te m)(hr:Ea K X es t ms)(hs:Ot (e::es) X.env=(false,eval e X.env)::Ot es X.env:=by rfl):Ea K X (e::es) (z8 te t) (d5 m ms) :=
 ⟨l8 ha.pe hr.pa hs,λG B E F σ H Q ds F' I e q=>by
  obtain⟨⟨x,F1⟩,e1,e⟩:=bS9 e;obtain⟨⟨ys,F2⟩,e2,e⟩:=bS9 e;cases e;walk_at "ke"
  refine hr.ok G B E F1 σ H1 _ ys F2 (I.step k1 f1) e2 λvs H2 k2 f2 h2=>q _ H2 (k1.trans k2) f2<|.cons (h1.same<|k2.hid I.fB) h2⟩
def n6 :Es K X [] P1 j9:=⟨A8,λG B E F σ H Q ds F' I e q=>by cases e;exact q [] H Kp.refl I.fd rfl⟩
def j3 {t:TA}{ms:DE->M (List My)}(ha:Eb K X e te m)(hr:Es K X es t ms)(hs:Ot (e::es) X.env=(false,eval e X.env)::Ot es X.env:=by rfl):Es K X (e::es) (z8 te t) (d5 m ms) :=
 ⟨l8 ha.pe hr.pa hs,λG B E F σ H Q ds F' I e q=>by
  obtain⟨⟨x,F1⟩,e1,e⟩:=bS9 e;obtain⟨⟨ys,F2⟩,e2,e⟩:=bS9 e;cases e;walk_at "ke"
  refine hr.ok G B E F1 σ H1 _ ys F2 (I.step k1 f1) e2 λvs H2 k2 f2 h2=>q _ H2 (k1.trans k2) f2 ⟨v,vs,rfl,h1.step k2 I.fB,h2⟩⟩
def K8 (a:DE->M (List My)):DE->M My:=λE F=>(a E F).bind λp=>if p.1.length<=Os then some (.tuple p.1,p.2) else none
def lT (a:DE->M (List My)):DE->M My:=λE F=>(a E F).bind λp=>if p.1.length<=Os then some (.list p.1,p.2) else none
def A0 {k}{t:TA}{ms:DE->M (List My)}(h:Ea K X es t ms):Ev K X (.Tuple es k pos) (mK t) (K8 ms):=⟨eD h.pa,λG B E F σ H Q d F' I e q=>by
 obtain⟨⟨x,F1⟩,e1,e⟩:=bS9 e;split at e
 .rename_i hl;cases e;refine h.ok G B E F σ H _ x F1 I e1 λvs H1 k1 f1 h1=>⟨by rw[h1.length];exact hl,λp hp=>q _ _ (k1.trans<|Kp.upd hp) (f1.same<|k8.upd hp)<|R3 (A6 I.bk k1 f1) hp h1⟩
 .cases e⟩
def lz {t:TA}{ms:DE->M (List My)}(h:Ea K X es t ms):Ev K X (.List es pos) (vK t) (lT ms):=⟨jl h.pa,λG B E F σ H Q d F' I e q=>by
 obtain⟨⟨x,F1⟩,e1,e⟩:=bS9 e;split at e
 .rename_i hl;cases e;refine h.ok G B E F σ H _ x F1 I e1 λvs H1 k1 f1 h1=>⟨by rw[h1.length];exact hl,λp hp=>q _ _ (k1.trans<|Kp.upd hp) (f1.same<|k8.upd hp)<|ai (A6 I.bk k1 f1) hp h1⟩
 .cases e⟩
def T4:My->Option Bool
 | .bool b=>some b
 | _=>none
def N5 {d:My}{b:Bool}(h:T4 d=some b):d = .bool b:=by cases d <;> simp[T4]at h;rw[h]
def pR (a b:DE->M My):DE->M My:=λE F=>(a E F).bind λp=>(T4 p.1).bind λc=>if c=true then b E p.2 else some (.bool false,p.2)
def uD (a:DE->M My):DE->M My:=λE F=>(a E F).bind λp=>(T4 p.1).bind λc=>some (.bool (!c),p.2)
def sI {op}(h:Ev K X a te m):Ev K X (.BoolOp op [a] pos) te m:=⟨Ae h.pe,h.ok⟩
def um {rest:List Oo}(ha:Ev K X a ta ma)(hb:Ev K X (.BoolOp .And (b::rest) pos) tb mb):Ev K X (.BoolOp .And (a::b::rest) pos) (yf ta tb) (pR ma mb):=⟨yJ ha.pe hb.pe,λG B E F σ H Q d F' I e q=>by
 obtain⟨⟨x,F1⟩,e1,e⟩:=bS9 e;obtain⟨c,e2,e⟩:=bS9 e;walk_at "ke"
 have:=N5 e2;simp only at this;subst this;simp only[c6]at h1;refine⟨c,h1,?_⟩;cases c with
 | true=>exact hb.ok G B E F1 σ H1 _ d F' (I.step k1 f1) e λw H2 k2 f2 h2=>q w H2 (k1.trans k2) f2 h2
 | false=>cases e;exact q _ H1 k1 f1 c6.bl⟩
def zb (ha:Ev K X a ta ma):Ev K X (.UnaryOp .Not a pos) (xS ta) (uD ma):=⟨Ak ha.pe,λG B E F σ H Q d F' I e q=>by
 obtain⟨⟨x,F1⟩,e1,e⟩:=bS9 e;obtain⟨c,e2,e⟩:=bS9 e;cases e;walk_at "ke"
 have:=N5 e2;simp only at this;subst this;simp only[c6]at h1;exact⟨_,h1,q _ H1 k1 f1 c6.bl⟩⟩
def sIf (c:DE->M Bool)(a b:DE->M My):DE->M My:=λE F=>(c E F).bind λp=>if p.1=true then a E p.2 else b E p.2
def sD {tt:TT}{mt:DE->M Bool}(hc:Et K X c tt mt)(ha:Ev K X a ta ma)(hb:Ev K X b tb mb):Ev K X (.IfExp c a b pos) (tIf tt ta tb) (sIf mt ma mb):=⟨kf hc.pt ha.pe hb.pe,λG B E F σ H Q d F' I e q=>by
 obtain⟨⟨x,F1⟩,e1,e⟩:=bS9 e;refine hc.ok G B E F σ H _ x F1 I e1 λH1 k1 f1=>?_
 cases x with
 | true=>exact ha.ok G B E F1 σ H1 _ d F' (I.step k1 f1) e λw H2 k2 f2 h2=>q w H2 (k1.trans k2) f2 h2
 | false=>exact hb.ok G B E F1 σ H1 _ d F' (I.step k1 f1) e λw H2 k2 f2 h2=>q w H2 (k1.trans k2) f2 h2⟩
variable {tA tB:TT}{na nb:DE->M Bool}
def uB (a:DE->M My):DE->M Bool:=λE F=>(a E F).bind λp=>(T4 p.1).bind λc=>some (c,p.2)
def uOr (a b:DE->M Bool):DE->M Bool:=λE F=>(a E F).bind λp=>if p.1=true then some (true,p.2) else b E p.2
def fj (a:DE->M Bool):DE->M Bool:=λE F=>(a E F).bind λp=>some (!p.1,p.2)
def x8 {op:CmpOp}{f:My->My->Option My}(ho:OpR X (compareOp op) (rD2 K f))(ha:Eb K X a ta ma)(hb:Eb K X b tb mb)(hm:behindInMarks op b=false:=by first | exact cB _ | rfl):Et K X (.Compare a [op] [b] pos) (oq<|tOp (rD2 K f) ta tb) (uB<|s2 f ma mb) :=
 ⟨bu ho ha.pe hb.pe hm,λG B E F σ H Q d F' I e q=>by
  obtain⟨⟨x,F1⟩,e1,e⟩:=bS9 e;obtain⟨c,e2,e⟩:=bS9 e;cases e;refine nN ha.ok hb.ok G B E F σ H _ x F1 I e1 λv H1 k1 f1 h1=>?_
  have:=N5 e2;simp only at this;subst this;simp only[c6]at h1;exact⟨_,h1,q H1 k1 f1⟩⟩
def eR (ha:Et K X a tA na):Ew K X (.BoolOp .Or [a] pos) tA na:=⟨Aj ha.pt,ha.ok⟩
def dP {rest:List Oo}(ha:Et K X a tA na)(hb:Ew K X (.BoolOp .Or (b::rest) pos) tB nb):Ew K X (.BoolOp .Or (a::b::rest) pos) (tOr tA tB) (uOr na nb):=⟨Cj ha.pt hb.pw,λG B E F σ H Q d F' I e q=>by
 obtain⟨⟨x,F1⟩,e1,e⟩:=bS9 e;refine ha.ok G B E F σ H _ x F1 I e1 λH1 k1 f1=>?_
 cases x with
 | false=>exact hb.ok G B E F1 σ H1 _ d F' (I.step k1 f1) e λH2 k2 f2=>q H2 (k1.trans k2) f2
 | true=>cases e;exact q H1 k1 f1⟩
def Ew.t (h:Ew K X a tA na):Et K X a tA na:=⟨h.pw.pt,h.ok⟩
def Y3 (ha:Et K X a tA na):Et K X (.UnaryOp .Not a pos) (AA tA) (fj na):=⟨tT ha.pt,λG B E F σ H Q d F' I e q=>by obtain⟨⟨x,F1⟩,e1,e⟩:=bS9 e;cases e;exact ha.ok G B E F σ H _ x F1 I e1 λH1 k1 f1=>q H1 k1 f1⟩
def vV:My->Option Bool
 | .none=>some false
 | .bool b=>some b
 | .int i=>some<|i != 0
 | .str x=>if x.length<=Os then some ((x.length:Int) != 0) else none
 | .tuple ds=>some (!ds.isEmpty)
 | .list ds=>some (!ds.isEmpty)
 | .dict _=>none
def uT (a:DE->M My):DE->M Bool:=λE F=>(a E F).bind λp=>(vV p.1).bind λc=>some (c,p.2)
def aY {H:Hp}{ds:List My}{xs:List V}(h:c5 K H ds xs):xs.isEmpty=ds.isEmpty:=by
 cases ds with
 | nil=>simp only[c5]at h;subst h;rfl
 | cons d r=>simp only[c5]at h;obtain⟨x,r,rfl,_⟩:=h;rfl
def yY {B:List Of}{H:Hp}{d:My}{v:V}{c:Bool}(h:G1 K fp B H d v)(e:vV d=some c):qE K v H c:=by
 cases d with
 | none=>cases h;cases e;rfl
 | bool b=>cases h;cases e;rfl
 | int i=>cases h;cases e;rfl
 | str x =>
  cases h;simp only[vV]at e;split at e
  .rename_i hl;cases e;exact⟨hl,rfl⟩
  .cases e
 | tuple ds =>obtain⟨p,xs,rfl,hq,hd⟩:=h;cases e;exact .inr (.inl ⟨xs,hq.same g6,by rw[aY hd]⟩)
 | list ds =>obtain⟨p,xs,rfl,hq,hd⟩:=h;cases e;exact .inl ⟨xs,SqL.of<|g6 _ _ hq,by rw[aY hd]⟩
 | dict OQ=>exact(show False from h).elim
def W0 (ha:Eb K X a ta ma)(hK:X.K=K:=by rfl)(he:∀whole,isTrue a X.env whole=(do let v <-whole;standAt a.pos;holding [v] (truthy v)):=by intro _;rfl) :
  Et K X a (λσ H Q=>ta σ H λx H'=>∃k,qE K x H' k/\Q k H') (uT ma):=⟨pO hK ha.pe he,λG B E F σ H Q d F' I e q=>by obtain⟨⟨x,F1⟩,e1,e⟩:=bS9 e;obtain⟨c,e2,e⟩:=bS9 e;cases e;exact ha.ok G B E F σ H _ x F1 I e1 λv H1 k1 f1 h1=>⟨_,yY h1 e2,q H1 k1 f1⟩⟩
end
end
variable {C:Int->Int->Prop}
section
section
variable {K:Fg}{X:Cx}
def aZ {B:List Of}{H:Hp}{ds:List My}{d:My}{vs:List V}(h:cM K fp B H ds vs)(e:ds=[d]):∃v,vs=[v]/\G1 K fp B H d v:=by subst e;obtain⟨v,r,rfl,h1,h2⟩:=h;cases h2;exact⟨v,rfl,h1⟩
def BG {B:List Of}{H:Hp}{ds:List My}{d e:My}{vs:List V}(h:cM K fp B H ds vs)(eq:ds=[d,e]):∃v w,vs=[v,w]/\G1 K fp B H d v/\G1 K fp B H e w:=by subst eq;obtain⟨v,r,rfl,h1,w,r2,rfl,h2,h3⟩:=h;cases h3;exact⟨v,w,rfl,h1,h2⟩
def i2 (C:Int->Int->Prop)[∀i j,Decidable<|C i j](g:Int->Int->My):My->My->Option My
 | .int i,.int j=>if C i j then some (g i j) else none
 | _,_=>none
def nu [∀i j,Decidable<|C i j]{g:Int->Int->My}{d e r:My}(h:i2 C g d e=some r):∃i j,d = .int i/\e = .int j/\C i j/\r=g i j:=by
 cases d <;> cases e <;> simp only[i2]at h <;> try cases h
 split at h
 .rename_i hc;cases h;exact⟨_,_,rfl,rfl,hc,rfl⟩
 .cases h
def xR {f:Oe->Oe->Sem Oe}[∀i j,Decidable<|C i j]{g:Int->Int->V}{gd:Int->Int->My}(ho:OpR X f (rI C g))(hg:∀H i j,c6 K H (gd i j)<|g i j):OpR X f (rD2 K<|i2 C gd):=by intro OM s σ H x y v u Q I rx ry h;obtain⟨fp,B,d,e,r,bk,h1,h2,hf,q⟩:=h;obtain⟨i,j,rfl,rfl,hc,rfl⟩:=nu hf;cases h1;cases h2;exact ho OM s σ H _ _ v u Q I rx ry ⟨i,j,rfl,rfl,hc,q _ H (k8.refl H)<|hg _ i j⟩
def iZ {f:Oe->Oe->Sem Oe}{g:Int->Int->V}{gd:Int->Int->My}(ho:OpR X f (rI0 g))(hg:∀H i j,c6 K H (gd i j)<|g i j):OpR X f (rD2 K<|i2 (λ_ _=>True) gd):=by intro OM s σ H x y v u Q I rx ry h;obtain⟨fp,B,d,e,r,bk,h1,h2,hf,q⟩:=h;obtain⟨i,j,rfl,rfl,hc,rfl⟩:=nu hf;cases h1;cases h2;exact ho OM s σ H _ _ v u Q I rx ry ⟨i,j,rfl,rfl,q _ H (k8.refl H)<|hg _ i j⟩
abbrev fS :=i2 (λ_ _=>True) λi j=>.int<|i-j
def Y7 :OpR X (binaryOp .Sub) (rD2 K fS):=iZ yL λ_ _ _=>c6.int
instance:∀i j,Decidable (vL i j):=λi j=>inferInstanceAs<|Decidable<|_/\_/\_
instance:∀i j,Decidable (ux i j):=λi j=>inferInstanceAs<|Decidable<|(_/\_)\/(_/\_)
abbrev wd :=i2 (λ_ j=>0<j) λi j=>.int<|i % j
def uz :OpR X (binaryOp .Mod) (rD2 K wd):=xR W3 λ_ _ _=>c6.int
def qP (i j:Int):Prop:=j≠0/\j.natAbs<2 ^ 9000
instance {i j:Int}:Decidable (qP i j):=inferInstanceAs<|Decidable<|_/\_
@[irreducible] def R1:Nat:=2 ^ 400000
def nJ :R1=2 ^ 400000:=by unfold R1;rfl
def dM {n:Nat}(h:n<=400000):2 ^ n<=R1:=by rw[nJ];exact Jq (by decide) h
def Big (i j:Int):Prop:=ux i j\/(i.natAbs<R1/\j.natAbs<R1)
instance {i j:Int}:Decidable (Big i j):=inferInstanceAs<|Decidable<|_\/_
def ot {n:Nat}{i:Int}(h:i.natAbs<2 ^ n):Builtin.Int.intBits i<=n:=by
 unfold Builtin.Int.intBits;split
 .exact JV _
 .rename_i h0;have h0:i.natAbs≠0:=λz=>h0 (by simpa using z)
  exact(Ob h0).2 h
def Big.ok {i j:Int}(h:Big i j):IntMulOk i j:=by
 rcases h with h | ⟨h1,h2⟩
 .exact h.ok
 .unfold IntMulOk;have e:Builtin.Int.intTooBig ((Builtin.Int.intBits i:Int)+Builtin.Int.intBits j)=false:=by
   unfold Builtin.Int.intTooBig;rw[nJ]at h1 h2;have a:=ot h1;have b:=ot h2;have c:(bitsLine:Nat)=134217728:=by decide
   refine Jf ?_;rw[c];omega
  rw[e,Bool.and_false];exact IZ
def xa :OpR X (binaryOp .Mult) (rI Big λi j=>.int<|i*j):=opI λ_ _ _ _ _ _ _ hc q=>mul_int q hc.ok
def tX :OpR X (binaryOp .FloorDiv) (rI qP λi j=>.int<|i.fdiv j):=opI λi j _ _ _ _ _ hc q=>by
 have h0:j.natAbs≠0:=λz=>hc.1<|Int.natAbs_eq_zero.1 z
 exact floordiv_int hc.1 q<|.inl<|PyProof.noPylong_of_log2<|(Ob h0).2 hc.2
abbrev dS :=i2 qP λi j=>.int<|i.fdiv j
def dJ :OpR X (binaryOp .FloorDiv) (rD2 K dS):=xR tX λ_ _ _=>c6.int
abbrev ltD :=i2 (λ_ _=>True) λi j=>.bool<|decide (i<j)
abbrev leD :=i2 (λ_ _=>True) λi j=>.bool<|decide (i<=j)
abbrev gtD :=i2 (λ_ _=>True) λi j=>.bool<|decide (j<i)
def fG :OpR X (compareOp .Lt) (rD2 K ltD):=iZ xQ λ_ _ _=>c6.bl
def qK :OpR X (compareOp .LtE) (rD2 K leD):=iZ Cb λ_ _ _=>c6.bl
def fF :OpR X (compareOp .Gt) (rD2 K gtD):=iZ uC λ_ _ _=>c6.bl
def K0:My->My->Option My
 | .int i,.int j=>some<|.int<|i+j
 | .str x,.str y=>if x.length+y.length<=Os then some (.str<|x++y) else none
 | .tuple xs,.tuple ys=>if xs.length+ys.length<=Os then some (.tuple<|xs++ys) else none
 | .list xs,.list ys=>if xs.length+ys.length<=Os then some (.list<|xs++ys) else none
 | _,_=>none
def c5.nil_of {H:Hp}{ds:List My}{xs:List V}(h:c5 K H ds xs)(e:xs=[]):ds=[]:=by subst e;exact KU.1 (by rw[<-h.length];rfl)
def A5 (hK:X.K=K):OpR X (binaryOp .Add) (rD2 K K0):=by
 walk_at "kd";cases d <;> cases e <;> simp only[K0]at hf <;> try cases hf
 .cases h1;cases h2;exact aK OM s σ H _ _ v u Q I rx ry ⟨_,_,rfl,rfl,q _ H (k8.refl H) c6.int⟩
 .cases h1;cases h2;split at hf
  .rename_i hl;cases hf;exact lE OM s σ H _ _ v u Q I rx ry ⟨_,_,rfl,rfl,hl,q _ H (k8.refl H) c6.st⟩
  .cases hf
 .obtain⟨a,xs,rfl,ha,hd⟩:=h1;obtain⟨b,ys,rfl,hb,he⟩:=h2;split at hf
  .rename_i hl;cases hf;refine yZ OM s σ H _ _ v u Q I rx ry ⟨a,b,xs,ys,rfl,rfl,g6 _ _ ha,g6 _ _ hb,by rw[hd.length,he.length];exact hl,λp hp=>q _ _ (k8.upd hp)<|ai bk hp<|c5.append he hd⟩
  .cases hf
 .obtain⟨a,xs,rfl,ha,hd⟩:=h1;obtain⟨b,ys,rfl,hb,he⟩:=h2;split at hf
  .rename_i hl;cases hf;refine wu hK OM s σ H _ _ v u Q I rx ry ⟨a,b,xs,ys,rfl,rfl,ha.same g6,hb.same g6,by rw[hd.length,he.length];exact hl,λz=>q _ H (k8.refl H) ?_,λz=>q _ H (k8.refl H) ?_,λp hp=>q _ _ (k8.upd hp)<|R3 bk hp<|c5.append he hd⟩
   .cases c5.nil_of hd z;simp only[c6,Jo];exact⟨b,ys,rfl,hb,he⟩
   .cases c5.nil_of he z;simp only[c6,Kb];exact⟨a,xs,rfl,ha,hd⟩
  .cases hf
def zF:My->My->Option My
 | .int i,.int j=>if Big i j then some (.int<|i*j) else none
 | .list xs,.int k=>if -(2 ^ 63)<=k/\k<2 ^ 63/\xs.length*k.toNat<=Os then some (.list (List.replicate k.toNat xs).flatten) else none
 | _,_=>none
theorem c5.rep {H:Hp}{ds:List My}{xs:List V}(h:c5 K H ds xs):∀n,c5 K H (List.replicate n ds).flatten (List.replicate n xs).flatten
 | 0=>c5.nil
 | n+1=>by rw[JE,JE,Kr,Kr];exact c5.append (c5.rep h n) h
def zW :OpR X (binaryOp .Mult) (rD2 K zF):=by
 walk_at "kd";cases d <;> cases e <;> simp only[zF]at hf <;> try cases hf
 .cases h1;cases h2;split at hf
  .rename_i hc;cases hf;exact xa OM s σ H _ _ v u Q I rx ry ⟨_,_,rfl,rfl,hc,q _ H (k8.refl H) c6.int⟩
  .cases hf
 .obtain⟨a,xs,rfl,ha,hd⟩:=h1;cases h2;split at hf
  .rename_i hc;cases hf;exact qC OM s σ H _ _ v u Q I rx ry ⟨a,_,xs,rfl,rfl,g6 _ _ ha,hc.1,hc.2.1,by rw[hd.length];exact hc.2.2,λp hp=>q _ _ (k8.upd hp)<|ai bk hp<|c5.rep hd _⟩
  .cases hf
open PySem.SeqAt in
def eqD (neg:Bool):My->My->Option My
 | .str x,.str y=>some (.bool<|if neg then !decide (x=y) else decide (x=y))
 | d,e=>if shaped d=true/\shaped e=true then some (.bool<|if neg then !PyData.eqv d e else My.eqv d e) else none
def fm (hK:X.K=K)(hu:X.A.units+64<OG):OpR X (compareOp .Eq) (rD2 K<|eqD false):=by
 subst hK;walk_at "kd";unfold eqD at hf;split at hf
 .cases hf;cases h1;cases h2;have z:=q _ H (k8.refl H) c6.bl;rename_i a b;have e:decide (V.str a=V.str b)=decide (a=b):=by simp
  exact Bl OM s σ H _ _ v u Q I rx ry ⟨rfl,by rw[e];exact z⟩
 .split at hf
  .rename_i hs;cases hf;obtain⟨as,ra⟩:=G8 I _ x v h1.dat rx;obtain⟨bs,rb⟩:=G8 I _ y u h2.dat ry;exact eq_dataH ra rb hs.1 hs.2 hu ⟨.bl _,H,I,rfl,q _ H (k8.refl H) c6.bl⟩
  .cases hf
def bP (hK:X.K=K)(hu:X.A.units+64<OG):OpR X (compareOp .NotEq) (rD2 K<|eqD true):=by
 subst hK;walk_at "kd";unfold eqD at hf;split at hf
 .cases hf;cases h1;cases h2;have z:=q _ H (k8.refl H) c6.bl;rename_i a b;have e:decide (V.str a=V.str b)=decide (a=b):=by simp
  exact BZ OM s σ H _ _ v u Q I rx ry ⟨rfl,by rw[e];exact z⟩
 .split at hf
  .rename_i hs;cases hf;obtain⟨as,ra⟩:=G8 I _ x v h1.dat rx;obtain⟨bs,rb⟩:=G8 I _ y u h2.dat ry;exact ne_dataH ra rb hs.1 hs.2 hu ⟨.bl _,H,I,rfl,q _ H (k8.refl H) c6.bl⟩
  .cases hf
open PySem.SeqAt in
def inD (neg:Bool):My->My->Option My
 | d,.list xs=>if shaped (.list xs)=true/\shaped d=true then some (.bool<|if neg then !(xs.any λy=>My.eqv y d) else xs.any λy=>My.eqv y d) else none
 | d,.tuple xs=>if shaped (.tuple xs)=true/\shaped d=true then some (.bool<|if neg then !(xs.any λy=>My.eqv y d) else xs.any λy=>My.eqv y d) else none
 | _,_=>none
def xF (hK:X.K=K)(hu:X.A.units+65<OG):OpR X (compareOp .In) (rD2 K<|inD false):=by
 subst hK;walk_at "kd";obtain⟨as,ra⟩:=G8 I _ x v h1.dat rx;obtain⟨bs,rb⟩:=G8 I _ y u h2.dat ry;cases e <;> simp only[inD]at hf <;> try cases hf
 .split at hf
  .rename_i hs;cases hf;exact PySem.SeqAt.in_list_reads rb ra (by have:=KZ hs.1;simpa only[My.canLay0] using this) (KZ hs.2) (room_in_shaped hs.2 hu) ⟨.bl _,H,I,rfl,q _ H (k8.refl H) c6.bl⟩
  .cases hf
 .split at hf
  .rename_i hs;cases hf;exact PySem.SeqAt.in_tuple_reads rb ra (by have:=KZ hs.1;simpa only[My.canLay0] using this) (KZ hs.2) (room_in_shaped hs.2 hu) ⟨.bl _,H,I,rfl,q _ H (k8.refl H) c6.bl⟩
  .cases hf
end
end
variable {p2:Pos}
section
section
variable {K:Fg}{X:Cx}
def c5.at {H:Hp}{ds:List My}{xs:List V}{i:Int}{d:My}(h:c5 K H ds xs)(e:atI ds i=some d):∃v,atI xs i=some v/\c6 K H d v:=by
 unfold atI at e ⊢;rw[h.length];cases q:ixN ds.length i with
 | none=>rw[q]at e;cases e
 | some j =>
  rw[q]at e;have e:ds[j]? = some d:=e;obtain⟨hj,_⟩:=IH.1 e;have hx:xs[j]? = some (xs[j]'(by rw[h.length];exact hj)):=by simp
  obtain⟨d',h1,h2⟩:=h.get hx;rw[e]at h1;cases h1;exact⟨_,hx,h2⟩
def ixD:My->My->Option My
 | .list ds,.int i=>atI ds i
 | .tuple ds,.int i=>atI ds i
 | .str x,.int i=>if x.length<=Os then(atI x.cps.toList i).map λc=>.str ⟨#[c]⟩ else none
 | _,_=>none
def W8 (hK:X.K=K):IxR X (rD2 K ixD):=by
 intro value slice OM s σ H x y v u Q I rx ry h hs;obtain⟨fp,B,d,e,r,bk,h1,h2,hf,q⟩:=h;cases d <;> cases e <;> simp only[ixD]at hf <;> try cases hf
 .cases h1;cases h2;split at hf
  .rename_i hl;obtain⟨c,e1,rfl⟩:=Ja.1 hf;exact zH value slice OM s σ H _ _ v u Q I rx ry ⟨_,_,c,rfl,rfl,hl,e1,q _ H (k8.refl H) c6.st⟩ hs
  .cases hf
 .obtain⟨a,xs,rfl,ha,hd⟩:=h1;cases h2;obtain⟨w,e1,e2⟩:=c5.at hd hf;exact rX hK value slice OM s σ H _ _ v u Q I rx ry ⟨a,xs,_,w,rfl,rfl,SqL.of<|g6 _ _ ha,e1,q w H (k8.refl H) e2⟩ hs
 .obtain⟨a,xs,rfl,ha,hd⟩:=h1;cases h2;obtain⟨w,e1,e2⟩:=c5.at hd hf;exact xv hK value slice OM s σ H _ _ v u Q I rx ry ⟨a,xs,_,w,rfl,rfl,ha.same g6,e1,q w H (k8.refl H) e2⟩ hs
end
section
variable [Feeds]{K:Fg}{X:Cx}{e:Oo}{m:DE->M My}
def fk:My->Option Int
 | .int i=>some i
 | _=>none
def aL {d:My}{i:Int}(h:fk d=some i):d = .int i:=by cases d <;> simp[fk]at h;rw[h]
end
section
variable {K:Fg}{X:Cx}
def ig:List My->Option My
 | [.list ds]=>some<|.int ds.length
 | [.tuple ds]=>some<|.int ds.length
 | [.str x]=>if x.length<=Os then some (.int x.length) else none
 | _=>none
def bX (hK:X.K=K):A3 X (.builtin "len") (rDN K ig):=by
 walk_at "kc";unfold ig at hf;walk_at "kh"
 .obtain⟨v,rfl,a,xs,rfl,ha,hd⟩:=aZ h1 rfl;have:=q _ H (k8.refl H) c6.int;rw[<-hd.length]at this;exact aC hK OM s σ H _ us Q I r ⟨a,xs,rfl,.inl<|SqL.of<|g6 _ _ ha,this⟩
 .obtain⟨v,rfl,a,xs,rfl,ha,hd⟩:=aZ h1 rfl;have:=q _ H (k8.refl H) c6.int;rw[<-hd.length]at this;exact aC hK OM s σ H _ us Q I r ⟨a,xs,rfl,.inr<|ha.same g6,this⟩
 .rename_i x0;obtain⟨v,rfl,hv⟩:=aZ h1 rfl;have hv:v = .str x0:=hv;subst hv;split at hf
  .rename_i hl;cases hf;exact iW OM s σ H _ us Q I r ⟨_,rfl,hl,q _ H (k8.refl H) c6.int⟩
  .cases hf
def T7:List My->Option My
 | [.list ds]=>some<|.tuple ds
 | [.tuple ds]=>some<|.tuple ds
 | _=>none
def Q3 (hK:X.K=K):A3 X (.type "tuple") (rDN K T7):=by
 walk_at "kc";unfold T7 at hf;walk_at "kh"
 .obtain⟨v,rfl,a,xs,rfl,ha,hd⟩:=aZ h1 rfl;exact Y1 hK OM s σ H _ us Q I r ⟨a,xs,rfl,.inl ⟨SqL.of<|g6 _ _ ha,λl hl=>q _ _ (k8.upd hl)<|R3 bk hl hd⟩⟩
 .obtain⟨v,rfl,hv⟩:=aZ h1 rfl;have hv':=hv.tup;obtain⟨a,xs,rfl,ha,hd⟩:=hv;exact Y1 hK OM s σ H _ us Q I r ⟨a,xs,rfl,.inr ⟨ha.same g6,q _ H (k8.refl H) hv'⟩⟩
def T3:List My->Option (List Int)
 | []=>some []
 | .int i::r=>(T3 r).map (i :: ·)
 | _=>none
theorem J5:∀{ds:List My} {ns:List Int},T3 ds=some ns->ds=ns.map .int
 | [],ns,h=>by cases h;rfl
 | d::r,ns,h=>by
  cases d <;> simp only[T3]at h <;> try cases h
  obtain⟨m,e,rfl⟩:=Ja.1 h;rw[J5 e];rfl
theorem cm {H:Hp}:∀{ns:List Int} {xs:List V},c5 K H (ns.map .int) xs->xs=ns.map V.int
 | [],xs,h=>by simpa only[JG,c5] using h
 | n::ns,xs,h=>by simp only[IJ,c5]at h;obtain⟨x,r,rfl,h1,h2⟩:=h;simp only[c6]at h1;rw[h1,cm h2];rfl
def Z4 (d:My):Bool:=d.showable && !d.hasDict&&decide (d.depth<=50)&&decide (d.shown.length<=16000000)
end
end
section
section
variable {K:Fg}{X:Cx}
def kP {d:My}(h:Z4 d=true):Shw d 50 16000000:=by unfold Z4 at h;simp only[LR,Lo,Bool.not_eq_true']at h;exact⟨h.1.1.1,h.1.1.2,h.1.2,h.2⟩
def bF:List My->Option My
 | [d]=>if Z4 d=true then some (.str d.shown) else none
 | _=>none
def Z9 (hK:X.K=K)(hg:X.A.guards=some [])(hu:X.A.units+64<OG):A3 X (.builtin "repr") (rDN K bF):=by
 walk_at "kc";unfold bF at hf;walk_at "kh"
 rename_i d;split at hf
 .rename_i ho;cases hf;obtain⟨v,rfl,hv⟩:=aZ h1 rfl;have sh:=kP ho;have qq:=q _ H (k8.refl H) c6.st;cases d with
  | tuple ds =>have hd:=hv.dat;obtain⟨a,xs,rfl,ha,_⟩:=hv;exact fA hK hg hu OM s σ H _ us Q I r ⟨a,_,rfl,hd,sh,qq⟩
  | list ds =>have hd:=hv.dat;obtain⟨a,xs,rfl,ha,_⟩:=hv;exact fA hK hg hu OM s σ H _ us Q I r ⟨a,_,rfl,hd,sh,qq⟩
  | none =>cases(show v = .non from hv);obtain⟨u,rfl,rfl⟩:=L8 r;exact PySem.P.repr_of_none ⟨.str _,H,I.tok _,⟨_,rfl⟩,by simpa only[My.shown] using qq⟩
  | bool b =>cases(show v = .bl b from hv);obtain⟨u,rfl,rfl⟩:=L8 r;exact PySem.P.repr_of_bool ⟨.str _,H,I.tok _,⟨_,rfl⟩,by simpa only[My.shown] using qq⟩
  | int i =>
   cases(show v = .int i from hv);obtain⟨u,rfl,t,rfl⟩:=L8 r;have hl:i.natAbs.log2<1920:=by have:=sh.sh;simpa only[My.showable,Lo] using this
   exact PySem.P.repr_of_int hl ⟨.str _,H,I.tok _,⟨_,rfl⟩,by simpa only[My.shown] using qq⟩
  | str x =>
   cases(show v = .str x from hv);obtain⟨u,rfl,t,rfl⟩:=L8 r;have hl:(reprText x).length<=Os:=by have:=sh.ln;simp only[My.shown]at this;exact IV this (by rw[Jr];decide)
   exact PySem.P.repr_of_str ⟨.str _,H,I.tok _,⟨_,rfl⟩,by simpa only[My.shown] using qq⟩ hl
  | dict b=>exact(show False from hv).elim
 .cases hf
def vz:List My->Option My
 | [.int i]=>some<|.int i
 | [.bool b]=>some (.int<|if b then 1 else 0)
 | _=>none
def AB :A3 X (.type "int") (rDN K vz):=by
 walk_at "kc";unfold vz at hf;walk_at "kh"
 .rename_i i;obtain⟨v,rfl,hv⟩:=aZ h1 rfl;cases(show v = .int i from hv);exact gx OM s σ H _ us Q I r<|.inl ⟨i,rfl,q _ H (k8.refl H) c6.int⟩
 .rename_i b;obtain⟨v,rfl,hv⟩:=aZ h1 rfl;cases(show v = .bl b from hv);exact gx OM s σ H _ us Q I r<|.inr ⟨b,rfl,q _ H (k8.refl H) c6.int⟩
def pD:List My->Option My
 | [.int i]=>some (.int<|if i<0 then -i else i)
 | _=>none
def mV :A3 X (.builtin "abs") (rDN K pD):=by
 walk_at "kc";unfold pD at hf;walk_at "kh"
 rename_i i;obtain⟨v,rfl,hv⟩:=aZ h1 rfl;cases(show v = .int i from hv);exact uo OM s σ H _ us Q I r ⟨i,rfl,q _ H (k8.refl H) c6.int⟩
def jx:List Int->Int
 | []=>0
 | [a]=>a
 | a::b::r=>min a<|jx (b::r)
theorem jB:∀{ns:List Int},ns≠[]->jx ns∈ns/\∀n∈ns,jx ns<=n
 | [],h=>absurd rfl h
 | [a],_=>⟨by simp[jx],by simp[jx]⟩
 | a::b::r,_=>by
  obtain⟨h1,h2⟩:=jB (ns:=b::r) (by simp);rw[jx];constructor
  .by_cases h:a<=jx (b::r)
   .rw[Int.min_eq_left h];simp
   .rw[Int.min_eq_right<|by omega];exact IA _ h1
  .intro n hn;rcases IP.1 hn with rfl | hn
   .exact Int.min_le_left _ _
   .exact Int.le_trans (Int.min_le_right _ _)<|h2 n hn
def vE:List My->Option My
 | [.tuple ds]=>(T3 ds).bind λns=>if ns=[] then none else some (.int<|jx ns)
 | [.int i,.int j]=>some (.int<|if j<i then j else i)
 | _=>none
def zy (hK:X.K=K)(hc:X.calm=true):A3 X (.builtin "min") (rDN K vE):=by
 walk_at "kc";unfold vE at hf;walk_at "kh"
 .obtain⟨ns,e,hf⟩:=bS9 hf;split at hf
  .cases hf
  .rename_i hne;cases hf;cases J5 e;obtain⟨v,rfl,a,xs,rfl,ha,hd⟩:=aZ h1 rfl;cases cm hd;refine pY hK hc OM s σ H _ us Q I r ⟨a,ns,rfl,ha.same g6,hne,λm hm hle=>?_⟩;obtain⟨m1,m2⟩:=jB hne;have:m=jx ns:=by have:=hle _ m1;have:=m2 _ hm;omega
   rw[this];exact q _ H (k8.refl H) c6.int
 .rename_i i j;obtain⟨v,w,rfl,hv,hw⟩:=BG h1 rfl;cases(show v = .int i from hv);cases(show w = .int j from hw);exact qi hc OM s σ H _ us Q I r ⟨i,j,rfl,q _ H (k8.refl H) c6.int⟩
def wJ:My->Option My
 | .int i=>some<|.int (-i)
 | _=>none
def tM :UnR X (unaryOp .USub) (rD1 K wJ):=by
 intro OM s σ H x v Q I rx h;obtain⟨fp,B,d,r,bk,h1,hf,q⟩:=h;cases d <;> simp only[wJ]at hf <;> try cases hf
 rename_i i;cases(show x = .int i from h1);exact uq OM s σ H _ v Q I rx ⟨i,rfl,q _ H (k8.refl H) c6.int⟩
end
section
variable [Feeds]{K:Fg}{X:Cx}{e:Oo}{m:DE->M My}{p p3:Pos}
def bM (T:String):My->Option My:=λd=>some<|.bool<|isT (tyD d) T
def AO (K:Fg)(T:String)(te:TE):TE:=tCB (yr K)<|z8 te<|z8 (tC<|.ty T) P1
def bK (T:String){x:Str}(he:Eb K X e te m)(hT:T∈["bool","int","str","list","tuple"])(hm:X.mg "isinstance" = none)(hmx:X.mg x=none)(hv:OD x=some (.type T))(hg:Gl X "isinstance":=by rfl)(hgx:Gl X x:=by rfl)(hK:X.K=K:=by rfl)(hn:x ≠ "__name__":=by decide)(hd:(x == ("__debug__":Str))=false:=by decide)
  (hs:Ot [e,.Name x p2] X.env=(false,eval e X.env)::Ot [.Name x p2] X.env:=by rfl) (hs2:Ot [.Name x p2] X.env=(false,eval (.Name x p2) X.env)::Ot [] X.env:=by rfl) (hpl:(Ox pos<|Ot [.Name x p2] X.env).any (·.1)=false:=by rfl) :
  Ev K X (.Call (.Name "isinstance" p) [e,.Name x p2] [] pos) (AO K T te) (s1 (bM T) m) :=
 ⟨L7 (qr hK) hg hm PyProof.Rows.boot_isinstance (l8 he.pe (l8 (nV (v:=.ty T) hgx hmx hv rfl hn hd) A8 hs2) hs) (by decide) (by decide) hs hpl,λG B E F σ H Q d F' I e q=>by obtain⟨⟨y,F1⟩,e1,e⟩:=bS9 e;obtain⟨z,e2,e⟩:=bS9 e;cases e;cases e2;exact he.ok G B E F σ H _ y F1 I e1 λv H1 k1 f1 h1=>⟨v,T,y,rfl,h1.dat,hT,q _ H1 k1 f1 c6.bl⟩⟩
end
section
variable {K:Fg}{X:Cx}
end
end
section
section
variable [Feeds]{K:Fg}{X:Cx}{e:Oo}{m:DE->M My}{p p3:Pos}
end
end
end L3
namespace L3
open PySem PySem.Spec L2
def cf:fillsNumberSlot (.type "tuple") "mul" = pure false :=
 fillsNumberSlot_seq (id:="tuple.__mul__") (r:=some<|.builtin "tuple.__rmul__") LZ.lookup (by decide +kernel) F.slot_tuple_rmul.lookup (by decide +kernel)
def iE:seqRepeat? (.type "tuple")=pure (some<|.builtin "tuple.__mul__"):=by unfold seqRepeat?;rw[seqSlot_of (T:="tuple") (name:="__mul__") (id:="tuple.__mul__") LZ.lookup (by decide +kernel),seqSlot_of (T:="tuple") (name:="__rmul__") (id:="tuple.__rmul__") F.slot_tuple_rmul.lookup<|by decide +kernel];rfl
def eY (a:Int)(t:Tok)(l:Of)(items:Array Oe)(n:Nat)(dd:Option Of)(sl:Array (Option Oe)) :
  Meets (Builtin.«int.__rmul__» ⟨[.int a t,.ref l],[]⟩) (λ_ R s=>s.heap.get? l=some { cls:=.type "tuple",dict:=dd,data:=.seq items n,slots:=sl }/\R (.ok<|.ret Oe.notImplemented) s) :=
 .of_wp λprog w A R s h=>by obtain⟨hp,g,d,tk,os⟩:=s;obtain⟨hl,h⟩:=h;wp_walk;exact⟨_,rfl,h⟩
def mU (l:Of)(items:Array Oe)(n:Nat)(dd:Option Of)(sl:Array (Option Oe))(k:Int)(u:Tok)(hc0:(decide (k < -(2 ^ 63))||decide (k >= 2 ^ 63))=false)(hc1:(items.isEmpty||k == 1)=true) :
  Meets (Builtin.«tuple.__mul__» ⟨[.ref l,.int k u],[]⟩) (λ_ R s=>s.heap.get? l=some { cls:=.type "tuple",dict:=dd,data:=.seq items n,slots:=sl }/\R (.ok<|.ret<|.ref l) s) :=
 .of_wp λprog w A R s h=>by obtain⟨hp,g,d,tk,os⟩:=s;obtain⟨hl,h⟩:=h;have f1:=AutoSeq1.idx_int;have f2:=Lv;have f3:=MO;have f4:=MD;have f5:=ME;wp_walk;refine Nk (by rw[hc0];rfl) ?_;wp_walk;exact⟨_,rfl,h⟩
def kW (l:Of)(items:Array Oe)(n:Nat)(dd:Option Of)(sl:Array (Option Oe))(k:Int)(u:Tok)(hc0:(decide (k < -(2 ^ 63))||decide (k >= 2 ^ 63))=false)(hc1:(items.isEmpty||k == 1)=false)(hc2:(decide (k<=0)||items.isEmpty)=true) :
  Meets (Builtin.«tuple.__mul__» ⟨[.ref l,.int k u],[]⟩) (λ_ R s=>s.heap.get? l=some { cls:=.type "tuple",dict:=dd,data:=.seq items n,slots:=sl }/\R (.ok<|.ret<|.ref s.heap.objs.size) { s with heap:=s.heap.push { cls:=.type "tuple",data:=.seq #[] } }) :=
 .of_wp λprog w A R s h=>by obtain⟨hp,g,d,tk,os⟩:=s;obtain⟨hl,h⟩:=h;have f1:=AutoSeq1.idx_int;have f2:=Lv;have f3:=MO;have f4:=MD;have f5:=ME;wp_walk;refine Nk (by rw[hc0];rfl) ?_;wp_walk;exact⟨_,rfl,h⟩
def lA (l:Of)(items:Array Oe)(n:Nat)(dd:Option Of)(sl:Array (Option Oe))(k:Int)(u:Tok)(hc0:(decide (k < -(2 ^ 63))||decide (k >= 2 ^ 63))=false)(hc1:(items.isEmpty||k == 1)=false)(hc2:(decide (k<=0)||items.isEmpty)=false)(hc3:decide ((items.size:Int)*k > (2 ^ 63-1) / 8)=false)(hc4:Builtin.Tuple.tupleTooMany ((items.size:Int)*k)=false)
  (hsz:(List.foldl (λx1 x2=>x1++x2) #[] (List.replicate k.toNat items)).size<=Os) :
  Meets (Builtin.«tuple.__mul__» ⟨[.ref l,.int k u],[]⟩) (λ_ R s=>s.heap.get? l=some { cls:=.type "tuple",dict:=dd,data:=.seq items n,slots:=sl }/\R (.ok<|.ret<|.ref s.heap.objs.size) { s with heap:=s.heap.push { cls:=.type "tuple",data:=.seq (List.foldl (λx1 x2=>x1++x2) #[] (List.replicate k.toNat items)) } }) :=
 .of_wp λprog w A R s h=>by obtain⟨hp,g,d,tk,os⟩:=s;obtain⟨hl,h⟩:=h;have f1:=AutoSeq1.idx_int;have f2:=Lv;have f3:=MO;have f4:=MD;have f5:=ME;wp_walk;refine Nk (by rw[hc0];rfl) ?_;wp_walk;refine Nk hc3 ?_;wp_walk;exact⟨_,rfl,h⟩
section
open PyProof.Rows
variable {K:Fg}{X:Cx}
def m5:My->My->Option My
 | .tuple xs,.int k=>if -(2 ^ 63)<=k/\k<2 ^ 63/\xs.length*k.toNat<=Os then some (.tuple (List.replicate k.toNat xs).flatten) else none
 | d,e=>zF d e
def wV (hK:X.K=K):OpR X (binaryOp .Mult) (λx y H Q=>∃l k xs,x = .ref l/\y = .int k/\SqT K H l xs /\ -(2 ^ 63)<=k/\k<2 ^ 63/\xs.length*k.toNat<=Os /\
  ((List.replicate k.toNat xs).flatten=xs->Q (.ref l) H)/\∀p,H p=none->Q (.ref p) (upd H p<|.tup (List.replicate k.toNat xs).flatten)):=by
 subst hK;intro OM s σ H x y v u Q I rx ry h;obtain⟨l,k,xs,rfl,rfl,hq,h1,h2,hz,q0,q1⟩:=h;cases rx;obtain⟨t,rfl⟩:=ry;obtain⟨its,r,p,hl⟩:=I.tuple hq;have hlen:=r.length;obtain⟨⟨cls,dd,data,sl⟩,ho,hc,n,hd⟩:=id p;simp only at hc hd;subst hc hd;have hc0:(decide (k < -(2 ^ 63))||decide (k >= 2 ^ 63))=false:=by rw[Jf (by omega),Jf<|by omega];rfl
 have e1:s.TypeIs (.ref l) "tuple":=⟨_,ho,rfl⟩;refine wpAny_binaryOp_repeat_ref (T:="tuple") (U:="int") (by decide) e1 (λs'=>typeIs_int s' k t) cf F.fills_int_mul Ng iE F.slot_int_index.lookup
  (Lp Ng (typeIs_int s k t) F.entry_int_rmul (F.args_int_rmul_2 _ _) (eY k t l its.toArray n dd sl) ⟨ho,rfl,e1,?_⟩)
 by_cases c1:(its.toArray.isEmpty||k == 1)=true
 .refine Lp LZ e1 F.entry_tuple_mul (NA _ _) (mU l its.toArray n dd sl k t hc0 c1) ⟨ho,⟨.ref l,H,I,rfl,q0 ?_⟩⟩;simp only[Bool.or_eq_true,beq_iff_eq]at c1;rcases c1 with c1 | c1
  .have:xs=[]:=by
    cases r with
    | nil=>rfl
    | cons a b=>simp at c1
   subst this;simp
  .subst c1;simp
 .have c1:(its.toArray.isEmpty||k == 1)=false:=by simpa using c1
  by_cases c2:(decide (k<=0)||its.toArray.isEmpty)=true
  .refine Lp LZ e1 F.entry_tuple_mul (NA _ _) (kW l its.toArray n dd sl k t hc0 c1 c2) ⟨ho,?_⟩;have ez:(List.replicate k.toNat xs).flatten=[]:=by
    rw[Bool.or_eq_false_iff]at c1;rw[c1.1,Bool.or_false]at c2;have:k.toNat=0:=by have:=Jg c2;omega
    rw[this];rfl
   have z:=q1 _ I.fresh;rw[ez]at z;exact⟨.ref _,_,I.laid (t':=s.toks) (o:=.tup []) (λb ob q=>ID _ q) (IT _) ⟨JV _,[],.nil,IsTup.new _ _⟩,rfl,z⟩
  .have c2:(decide (k<=0)||its.toArray.isEmpty)=false:=by simpa using c2
   have hk0:0<k:=by rw[Bool.or_eq_false_iff]at c2;have:=JQ c2.1;omega
   have hm:(its.toArray.size:Int)*k<=Os:=by obtain⟨j,rfl⟩:∃j:Nat,k=j:=⟨k.toNat,by omega⟩;rw[IW,<-hlen];simp only[Jx]at hz;exact_mod_cast hz
   have hfold:List.foldl (λx1 x2=>x1++x2) #[] (List.replicate k.toNat its.toArray)=(List.replicate k.toNat its).flatten.toArray:=by have:=cj its k.toNat [];rw[Jo]at this;exact this
   have hsl:(Os:Int)<=(2 ^ 63-1) / 8:=by rw[Jr];decide
   refine Lp LZ e1 F.entry_tuple_mul (NA _ _) (lA l its.toArray n dd sl k t hc0 c1 c2 (Jf<|by omega) (Jf<|by omega) ?_) ⟨ho,?_⟩
   .rw[hfold,IW,il,<-hlen,NP];exact hz
   .rw[hfold];exact⟨.ref _,_,I.laid (t':=s.toks) (o:=.tup (List.replicate k.toNat xs).flatten) (λb ob q=>ID _ q) (IT _) ⟨by rw[il,NP];exact hz,_,r.rep k.toNat,IsTup.new _ _⟩,rfl,q1 _ I.fresh⟩
def j0 (hK:X.K=K):OpR X (binaryOp .Mult) (rD2 K m5):=by
 walk_at "kd";unfold m5 at hf;split at hf
 .rename_i ds k;obtain⟨a,xs,rfl,ha,hd⟩:=h1;cases(show y = .int k from h2);split at hf
  .rename_i hc;cases hf;refine wV hK OM s σ H _ _ v u Q I rx ry ⟨a,k,xs,rfl,rfl,ha.same g6,hc.1,hc.2.1,by rw[hd.length];exact hc.2.2,λe=>q _ H (k8.refl H) ?_,λp hp=>q _ _ (k8.upd hp)<|R3 bk hp<|c5.rep hd _⟩;have:=c5.rep hd k.toNat;rw[e]at this;simp only[c6];exact⟨a,xs,rfl,ha,this⟩
  .cases hf
 .exact zW OM s σ H x y v u Q I rx ry ⟨fp,B,d,e,r,bk,h1,h2,hf,q⟩
end
end L3
namespace L3
open PySem PySem.Spec PyProof.Rows L2
variable {wi:TI}{iter tg:Oo}{te:TE}{pos:Pos}{es:List Oo}{br:List My->DE->Option DE}{o:HO}
section
section
variable [Feeds]
def cA (K:Fg)(P:Hp->List Of->Prop)(J:It)(items:List My):Prop:=∀H B,P H B ->
 (∀i d,items[i]? = some d->J.go i H/\∀x H2,J.yld i H x H2->k8 H H2/\(BOk H B->c6 K (hid H2 B) d x))/\J.stop items.length H
def TId (K:Fg)(wi:TI)(mi:DE->M (List My)):Prop:=∀(G:GF) (B:List Of) (E:DE) (F:FS) (σ:St) (H:Hp) (R:It->Hp->Prop) (ds:List My) (F':FS),SitE K G B E F σ H->mi E F=some (ds,F') ->
 (∀J H',Kp (m7 K G) H H'->FAt K G H' F'->cA K (λH2 B2=>k8 (hid H' B)<|hid H2 B2) J ds->R J H')->wi σ H R
def TIs (K:Fg)(wi:TI)(mi:DE->M (List My)):Prop:=∀(G:GF) (B:List Of) (E:DE) (F:FS) (σ:St) (H:Hp) (R:It->Hp->Prop) (ds:List My) (F':FS),SitE K G B E F σ H->mi E F=some (ds,F') ->
 (∀J H',Kp (m7 K G) H H'->FAt K G H' F'->cA K (λH2 B2=>Kp (m7 K G) H' H2/\k8 (hid H' B) (hid H2 B2)) J ds->R J H')->wi σ H R
def TId.sh {K:Fg}{mi:DE->M (List My)}(h:TId K wi mi):TIs K wi mi:=λG B E F σ H R ds F' I e q=>h G B E F σ H R ds F' I e λJ H' k f ok=>q J H' k f λH2 B2 kp=>ok H2 B2 kp.2
structure Ei (K:Fg) (X:Cx) (tg iter:Oo) (wi:TI) (mi:DE->M (List My)):Prop where
 pi:PI X tg iter wi
 ok:TId K wi mi
structure Eib (K:Fg) (X:Cx) (tg iter:Oo) (wi:TI) (mi:DE->M (List My)):Prop where
 pi:PI X tg iter wi
 ok:TIs K wi mi
variable {K:Fg}{X:Cx}{e:Oo}{m:DE->M My}{p:Pos}
def Ei.bw {mi:DE->M (List My)}(h:Ei K X tg iter wi mi):Eib K X tg iter wi mi:=⟨h.pi,h.ok.sh⟩
def Ai (K:Fg)(tl:TE):TI:=λσ H R=>tl σ H λx H1=>∃a,x = .ref a/\(((∃xs,SqL K H1 a xs)/\R (Itl K a) H1)\/((∃xs,SqT K H1 a xs)/\R (Itt K a) H1))
def uL {l:Oo}{tl:TE}(hK:X.K=K)(hl:PE X l tl):PI X tg l (Ai K tl):=by
 subst hK;intro OM s σ H R I h;refine thn (hl OM s σ H _ I h) λv s1 ⟨x,H1,I1,r1,q1⟩=>?_
 obtain⟨a,e,q⟩:=q1;subst e;cases r1;rcases q with ⟨⟨xs,hq⟩,q⟩ | ⟨⟨xs,hq⟩,q⟩
 .obtain⟨its,rv,p,hz⟩:=I1.list hq;refine wpAny_pyIter_list p.isList ?_;refine⟨s1.heap.objs.size,[s1.heap.objs.size],_,_,H1,rfl,I1.kept (t':=s1.toks) λb o e=>ID _ e,pf a _,⟨_,Jc _ rfl,rfl,rfl⟩,λb hb=>?_,q⟩;have e:b=s1.heap.objs.size:=by simpa using hb
  subst e;exact I1.fpOk (IT _)<|I1.hok.fresh<|IT _
 .obtain⟨its,rv,p,hz⟩:=I1.tuple hq;refine Le (show s1.heap.IsTuple a its.toArray from p) ?_;refine⟨s1.heap.objs.size,[s1.heap.objs.size],_,_,H1,rfl,I1.kept (t':=s1.toks) λb o e=>ID _ e,lr a _,⟨_,Jc _ rfl,rfl,rfl⟩,λb hb=>?_,q⟩;have e:b=s1.heap.objs.size:=by simpa using hb
  subst e;exact I1.fpOk (IT _)<|I1.hok.fresh<|IT _
def cR:My->Option (List My)
 | .list ds=>some ds
 | .tuple ds=>some ds
 | _=>none
def C9 (a:DE->M My):DE->M (List My):=λE F=>(a E F).bind λp=>(cR p.1).bind λds=>some (ds,p.2)
def c5.item {H:Hp}{ds:List My}{xs:List V}{i:Nat}{d:My}(h:c5 K H ds xs)(e:ds[i]? = some d):∃v,xs[i]? = some v/\c6 K H d v:=by
 obtain⟨hj,_⟩:=IH.1 e;have hx:xs[i]? = some (xs[i]'(by rw[h.length];exact hj)):=by simp
 obtain⟨d',h1,h2⟩:=h.get hx;rw[e]at h1;cases h1;exact⟨_,hx,h2⟩
def nA {P:Hp->List Of->Prop}{a:Of}{ds:List My}{xs:List V}(h:∀H B,P H B->H a=some (.lst xs)/\c5 K (hid H B) ds xs):cA K P (Itl K a) ds:=λH B hp=>by obtain⟨h1,h2⟩:=h H B hp;refine⟨λi d e=>?_,⟨xs,SqL.of h1,by rw[h2.length];exact IT _⟩⟩;obtain⟨v,e1,e2⟩:=c5.item h2 e;refine⟨⟨xs,v,SqL.of h1,e1⟩,λx H2 y=>?_⟩;obtain⟨rfl,y⟩:=y;have:=y xs<|SqL.of h1;rw[e1]at this;cases this;exact⟨k8.refl _,λ_=>e2⟩
def uA {P:Hp->List Of->Prop}{a:Of}{ds:List My}{xs:List V}(h:∀H B,P H B->SqT K H a xs/\c5 K (hid H B) ds xs):cA K P (Itt K a) ds:=λH B hp=>by obtain⟨h1,h2⟩:=h H B hp;refine⟨λi d e=>?_,⟨xs,h1,by rw[h2.length];exact IT _⟩⟩;obtain⟨v,e1,e2⟩:=c5.item h2 e;refine⟨⟨xs,v,h1,e1⟩,λx H2 y=>?_⟩;obtain⟨rfl,y⟩:=y;have:=y xs h1;rw[e1]at this;cases this;exact⟨k8.refl _,λ_=>e2⟩
def T2 (h:Ev K X e te m)(hK:X.K=K:=by rfl):Ei K X tg e (Ai K te) (C9 m):=⟨uL hK h.pe,λG B E F σ H R ds F' I e q=>by
 obtain⟨⟨y,F1⟩,e1,e⟩:=bS9 e;obtain⟨z,e2,e⟩:=bS9 e;cases e;refine h.ok G B E F σ H _ y F1 I e1 λv H1 k1 f1 h1=>?_
 cases y with
 | list ys =>cases e2;simp only[c6]at h1;obtain⟨a,xs,rfl,ha,hd⟩:=h1;refine⟨a,rfl,.inl ⟨⟨xs,SqL.of<|g6 _ _ ha⟩,q _ H1 k1 f1<|nA λH2 B2 s=>⟨g6 _ _<|s _ _ ha,hd.same s⟩⟩⟩
 | tuple ys =>cases e2;simp only[c6]at h1;obtain⟨a,xs,rfl,ha,hd⟩:=h1;refine⟨a,rfl,.inr ⟨⟨xs,ha.same g6⟩,q _ H1 k1 f1<|uA λH2 B2 s=>⟨(ha.same s).same g6,hd.same s⟩⟩⟩
 | _=>cases e2⟩
def w8 (h:Eb K X e te m)(hK:X.K=K:=by rfl):Eib K X tg e (Ai K te) (C9 m):=⟨uL hK h.pe,λG B E F σ H R ds F' I e q=>by
 obtain⟨⟨y,F1⟩,e1,e⟩:=bS9 e;obtain⟨z,e2,e⟩:=bS9 e;cases e;refine h.ok G B E F σ H _ y F1 I e1 λv H1 k1 f1 h1=>?_
 cases y with
 | list ys =>cases e2;obtain⟨a,xs,rfl,ha,hd⟩:=h1;refine⟨a,rfl,.inl ⟨⟨xs,SqL.of<|g6 _ _ ha⟩,q _ H1 k1 f1<|nA λH2 B2 k=>⟨g6 _ _<|k.1.hid (B:=m7 K G) (λ_ z=>z) _ _ ha,hd.same k.2⟩⟩⟩
 | tuple ys =>cases e2;obtain⟨a,xs,rfl,ha,hd⟩:=h1;refine⟨a,rfl,.inr ⟨⟨xs,ha.same g6⟩,q _ H1 k1 f1<|uA λH2 B2 k=>⟨(ha.same k.2).same g6,hd.same k.2⟩⟩⟩
 | _=>cases e2⟩
def gc (lo:Int)(n:Nat):List My:=(List.range n).map λ(i:Nat)=>.int<|lo+i
def yx {P:Hp->List Of->Prop}{lo:Int}{n:Nat}:cA K P (Itr lo n) (gc lo n):=λH B _=>by refine⟨λi d e=>?_,by show n<=_;simp[gc]⟩;unfold gc at e;rw[IU]at e;obtain⟨j,e1,rfl⟩:=Ja.1 e;obtain⟨hj,e2⟩:=IH.1 e1;simp at hj e2;subst e2;refine⟨hj,λx H2 y=>?_⟩;obtain⟨rfl,rfl⟩:=y;exact⟨k8.refl _,λ_=>c6.int⟩
def aI:List My->Option (List My)
 | [.int j]=>if -(2 ^ 62)<=j/\j<2 ^ 62 then some (gc 0 j.toNat) else none
 | _=>none
def Y2 (a:DE->M (List My)):DE->M (List My):=λE F=>(a E F).bind λp=>(aI p.1).bind λds=>some (ds,p.2)
def S8 {a:Oo}{ta:TA}{ms:DE->M (List My)}(h:Ea K X [a] ta ms)(hm:X.mg "range" = none)(hg:Gl X "range":=by rfl)(hs:Ot [a] X.env=[(false,eval a X.env)]:=by rfl):Ei K X tg (.Call (.Name "range" p) [a] [] pos) (xY ta) (Y2 ms):=⟨qu hg hm h.pa hs,λG B E F σ H R ds F' I e q=>by
 obtain⟨⟨ys,F1⟩,e1,e⟩:=bS9 e;obtain⟨z,e2,e⟩:=bS9 e;cases e;refine h.ok G B E F σ H _ ys F1 I e1 λvs H1 k1 f1 h1=>?_
 unfold aI at e2;split at e2
 .rename_i j hj;split at e2
  .rename_i hc;cases e2;have hj:ys=[.int j]:=hj;subst hj;simp only[c5]at h1;obtain⟨x,r,rfl,h2,rfl⟩:=h1;simp only[c6]at h2;subst h2;exact⟨j,rfl,hc.1,hc.2,q _ H1 k1 f1 yx⟩
  .cases e2
 .cases e2⟩
def TGd (K:Fg)(g:TG)(bd:My->DE->Option DE):Prop:=∀(G:GF) (B:List Of) (E:DE) (F:FS) (σ:St) (H:Hp) (x:V) (d:My) (E':DE) (Q:St->Hp->Prop),SitE K G B E F σ H->c6 K (hid H B) d x->bd d E=some E' ->
 (∀O',SitE K G B E' F O' H->(∀i:Nat,(∀y,E'[i]? ≠ some (some<|.dat y))->E'[i]? = E[i]? /\ O'[i]? = σ[i]?)->Q O' H)->g x σ H Q
def CT (K:Fg)(g:TGs)(bd:List My->DE->Option DE):Prop:=∀(G:GF) (B:List Of) (E:DE) (F:FS) (σ:St) (H:Hp) (xs:List V) (ds:List My) (E':DE) (Q:St->Hp->Prop),SitE K G B E F σ H->c5 K (hid H B) ds xs->bd ds E=some E' ->
 (∀O',SitE K G B E' F O' H->(∀i:Nat,(∀y,E'[i]? ≠ some (some<|.dat y))->E'[i]? = E[i]? /\ O'[i]? = σ[i]?)->Q O' H)->g xs σ H Q
structure Eg (K:Fg) (X:Cx) (tg:Oo) (g:TG) (bd:My->DE->Option DE):Prop where
 pg:PG X tg g
 ok:TGd K g bd
structure Egs (K:Fg) (X:Cx) (tgs:List Oo) (g:TGs) (bd:List My->DE->Option DE):Prop where
 pg:PGs X tgs g
 ok:CT K g bd
def bN (i:Nat):My->DE->Option DE:=λd E=>if i<E.length then some (E.set i<|some<|.dat d) else none
def SitE.set {G:GF}{B:List Of}{E:DE}{F:FS}{σ:St}{H:Hp}{i:Nat}{d:My}{v:V}(I:SitE K G B E F σ H)(h:c6 K (hid H B) d v)(hi:i<E.length):SitE K G B (E.set i<|some<|.dat d) F (σ.set i<|some v) H:=by
 refine⟨I.fd,I.fB,I.bk,by rw[JH,JH];exact I.ln,λj x e=>?_⟩;have hs:i < σ.length:=by rw[<-I.ln];exact hi
 by_cases hj:i=j
 .subst hj;rw[IR hi]at e;cases e;exact⟨v,by rw[IR hs],h⟩
 .rw[IL hj]at e;rw[IL hj];exact I.loc j x e
def n9 {i:Nat}{x:Str}(hN:X.N.Nodup)(hi:X.N[i]? = some x:=by rfl)(hx:Loc X.env.scope x:=by walk_at "v")(hf:X.fn x=true\/X.env.scope.names.lookup x=some .local:=by walk_at "v"):Eg K X (.Name x pos) (Q5 i) (bN i):=⟨uV hN hi hx hf,λG B E F σ H x d E' Q I h e q=>by
 unfold bN at e;split at e
 .rename_i hl;cases e;refine q _ (I.set h hl) λj hj=>?_
  by_cases hij:i=j
  .subst hij;exact absurd (IR hl) (hj d)
  .rw[IL hij,IL hij];exact⟨rfl,rfl⟩
 .cases e⟩
def E7 :List My->DE->Option DE:=λds E=>if ds.isEmpty then some E else none
def i9 (a:My->DE->Option DE)(r:List My->DE->Option DE):List My->DE->Option DE
 | d::ds,E=>(a d E).bind λE1=>r ds E1
 | [],_=>none
def u6 :Egs K X [] Ck E7:=⟨vP,λG B E F σ H xs ds E' Q I h e q=>by
 cases ds with
 | nil=>cases e;simp only[c5]at h;exact⟨h,q σ I λ_ _=>⟨rfl,rfl⟩⟩
 | cons d r=>cases e⟩
def f7 {t:TG}{u:TGs}{ba:My->DE->Option DE}(h1:Eg K X e t ba)(h2:Egs K X es u br)
  (hs:(OF (e::es) X.env).map (·.2)=assign e X.env::(OF es X.env).map (·.2):=by rfl):Egs K X (e::es) (ye t u) (i9 ba br):=⟨rW h1.pg h2.pg hs,λG B E F σ H xs ds E' Q I h e q=>by
 cases ds with
 | nil=>cases e
 | cons d r =>
  obtain⟨E1,e1,e⟩:=bS9 e;simp only[c5]at h;obtain⟨x,rr,rfl,hx,hr⟩:=h;refine⟨x,rr,rfl,h1.ok G B E F σ H x d E1 _ I hx e1 λσ1 I1 k1=>?_⟩;refine h2.ok G B E1 F σ1 H rr r E' _ I1 hr e λσ2 I2 k2=>q σ2 I2 λi hi=>?_
  obtain⟨a1,a2⟩:=k2 i hi;obtain⟨b1,b2⟩:=k1 i (λy z=>hi y<|a1.trans z);exact⟨a1.trans b1,a2.trans b2⟩⟩
def D6 (n:Nat)(r:List My->DE->Option DE):My->DE->Option DE
 | .tuple ds,E=>if ds.length=n then r ds E else none
 | _,_=>none
def x6 {k:Nat}{t:TGs}{n:Nat}(hc:X.calm=true)(h:Egs K X es t br)(hK:X.K=K:=by rfl)
  (hn:(OF es X.env).length=n:=by rfl) (hst:(OF es X.env).findIdx? (·.1)=none:=by rfl):Eg K X (.Tuple es k pos) (yP K n t) (D6 n br):=⟨xA hK hc h.pg hn hst,λG B E F σ H x d E' Q I hd e q=>by
 cases d <;> simp only[D6]at e <;> try cases e
 split at e
 .rename_i hl;simp only[c6]at hd;obtain⟨a,xs,rfl,ha,hx⟩:=hd;exact⟨a,xs,rfl,ha.same g6,by rw[hx.length];exact hl,h.ok G B E F σ H xs _ E' Q I hx e q⟩
 .cases e⟩
def dO (k:Nat)(cap:List Nat)(E:DE):DE:=List.replicate k none++cap.map λj=>(E[j]?).join
def SitE.cap {G:GF}{B:List Of}{E:DE}{F:FS}{σ:St}{H:Hp}(I:SitE K G B E F σ H)(k:Nat)(cap:List Nat):SitE K G B (dO k cap E) F (aG k cap σ) H:=by
 refine⟨I.fd,I.fB,I.bk,by simp[dO,aG],λi x e=>?_⟩;unfold dO at e;by_cases hi:i<k
 .rw[Ks (by simpa using hi),JO,IE hi]at e;cases e
 .rw[Km (by simpa using hi),KI,IU]at e;obtain⟨j,hj,hv⟩:=Ja.1 e;have hE:E[j]? = some (some x):=by
   cases q:E[j]? with
   | none=>rw[q]at hv;cases hv
   | some o=>rw[q]at hv;exact JX some hv
  obtain⟨v,h1,h2⟩:=I.loc j x hE;refine⟨v,?_,h2⟩;unfold aG;rw[Km (by simpa using hi),KI,IU,hj,Nh,h1];rfl
def SitE.more {G:GF}{B:List Of}{E:DE}{F:FS}{σ:St}{H:Hp}{D:Of}(I:SitE K G B E F σ H)(hD:H D=none):SitE K G (D::B) E F σ (upd H D o):=by
 have hn:D ∉ B:=I.bk.nin hD;have e1:hid (upd H D o) (D::B)=hid H B:=by
  funext b;by_cases hb:b=D
  .subst hb;rw[G2 IG,l9 hn,hD]
  .by_cases hB:b∈B
   .rw[G2 hB,G2<|IA _ hB]
   .rw[l9 hB,l9 (by simp[hb,hB]),h8 hb]
 refine⟨I.fd.same<|k8.upd hD,λb hb=>IA _<|I.fB b hb,λb hb=>?_,I.ln,λi x e=>?_⟩
 .rcases IP.1 hb with rfl | hb
  .exact⟨o,i7⟩
  .obtain⟨u,e⟩:=I.bk b hb;exact⟨u,by rw[h8<|l6 e hD];exact e⟩
 .obtain⟨v,h1,h2⟩:=I.loc i x e;refine⟨v,h1,?_⟩;cases x with
  | dat d=>show c6 K (hid (upd H D o) (D::B)) d v;rw[e1];exact h2
  | feed=>exact h2
  | fn _=>exact h2
  | adr _=>exact h2
  | own ds =>obtain⟨a,xs,ea,hB,hf,ha,hd⟩:=h2;exact⟨a,xs,ea,IA _ hB,hf,by rw[h8<|l6 ha hD];exact ha,by rw[e1];exact hd⟩
  | dic w c ps =>obtain⟨a,xs,ea,hB,hf,ha,hn,hd⟩:=h2;exact⟨a,xs,ea,IA _ hB,hf,by rw[h8<|l6 ha hD];exact ha,hn,by rw[e1];exact hd⟩
def SitE.wr {G:GF}{B:List Of}{E:DE}{F:FS}{σ:St}{H:Hp}{D:Of}(I:SitE K G (D::B) E F σ H)(hf:D ∉ m7 K G)(hown:∀(i:Nat) (ds:List My),E[i]? = some (some<|DV.own ds)->σ[i]? ≠ some (some<|V.ref D)){acc:List V}(hD:H D=some (.lst acc)):SitE K G (D::B) E F σ (upd H D o):=by
 have e1:hid (upd H D o) (D::B)=hid H (D::B):=ax IG;refine⟨I.fd.congr λb hb=>h8 (λe=>hb.elim (λhb=>hf<|e▸hb) λ⟨φ,q⟩=>by rw[e,hD]at q;cases q),I.fB,λb hb=>?_,I.ln,λi x e=>?_⟩
 .by_cases h:b=D
  .subst h;exact⟨o,i7⟩
  .rw[h8 h];exact I.bk b hb
 .obtain⟨v,h1,h2⟩:=I.loc i x e;refine⟨v,h1,?_⟩;cases x with
  | dat d=>show c6 K (hid (upd H D o) (D::B)) d v;rw[e1];exact h2
  | feed=>exact h2
  | fn _=>exact h2
  | adr _=>exact h2
  | own ds =>
   obtain⟨a,xs,rfl,hB,hfa,ha,hd⟩:=h2;have hne:a≠D:=λz=>hown i ds e (by rw[<-z];exact h1)
   exact⟨a,xs,rfl,hB,hfa,by rw[h8 hne];exact ha,by rw[e1];exact hd⟩
  | dic w c ps =>
   obtain⟨a,xs,rfl,hB,hfa,ha,hn,hd⟩:=h2;have hne:a≠D:=λz=>by rw[z,hD]at ha;cases ha
   exact⟨a,xs,rfl,hB,hfa,by rw[h8 hne];exact ha,hn,by rw[e1];exact hd⟩
structure Ets (K:Fg) (X:Cx) (ifs:List Oo) (tt:TT) (m:DE->M Bool):Prop where
 pts:PTs X ifs tt
 ok:TTd K tt m
def C6 :DE->M Bool:=λ_ F=>some (true,F)
def u9 :Ets K X [] BA C6:=⟨vZ,λG B E F σ H Q b F' I e q=>by cases e;exact q H Kp.refl I.fd⟩
def nG {c:Oo}{tt:TT}{mt:DE->M Bool}(h:Et K X c tt mt):Ets K X [c] tt mt:=⟨uZ h.pt,h.ok⟩
noncomputable def P2 (bd:My->DE->Option DE)(mt:DE->M Bool)(me:DE->M My):List My->DE->M (List My)
 | [],_,F=>some ([],F)
 | d::r,E,F=>(bd d E).bind λE1=>(mt E1 F).bind λp=>if p.1=true then(me E1 p.2).bind λy=>(P2 bd mt me r E1 y.2).bind λz=>some (y.1::z.1,z.2) else P2 bd mt me r E1 p.2
def sLC (mi:DE->M (List My))(k:Nat)(cap:List Nat)(bd:My->DE->Option DE)(mt:DE->M Bool)(me:DE->M My):DE->M My:=λE F =>
 (mi E F).bind λp=>if p.1.length<=Os then(P2 bd mt me p.1 (dO k cap E) p.2).bind λz=>some (.list z.1,z.2) else none
def Cc (K:Fg)(G:GF)(B:List Of)(D:Of)(H1:Hp)(bd:My->DE->Option DE)(mt:DE->M Bool)(me:DE->M My)(items whole:List My)(Fz:FS)(i:Nat)(σ:St)(acc:List V)(H:Hp):Prop :=
 ∃E F done rest,SitE K G (D::B) E F σ H/\H D=some (.lst acc)/\Kp (m7 K G) H1 H/\(∀(j:Nat) (ds:List My),E[j]? = some (some<|DV.own ds)->σ[j]? ≠ some (some<|V.ref D))/\c5 K (hid H (D::B)) done acc/\P2 bd mt me (items.drop i) E F=some (rest,Fz)/\whole=done++rest/\done.length<=i
def TFd (K:Fg)(te:TE)(m:DE->M (List My)):Prop:=∀(G:GF) (B:List Of) (E:DE) (F:FS) (σ:St) (H:Hp) (Q:VK) (ds:List My) (F':FS),SitE K G B E F σ H->m E F=some (ds,F') ->
 (∀a vs H',H a=none->H' a=some (.lst vs)->Kp (m7 K G) H H'->FAt K G H' F'->c5 K (hid H' (a::B)) ds vs->Q (.ref a) H')->te σ H Q
def Kp.none {fp:List Of}{H H':Hp}{b:Of}(k:Kp fp H H')(h:H' b=none)(n:b ∉ fp):H b=none:=by
 cases q:H b with
 | none=>rfl
 | some o=>rw[k b o q n]at h;cases h
def fLC (mi:DE->M (List My))(k:Nat)(cap:List Nat)(bd:My->DE->Option DE)(mt:DE->M Bool)(me:DE->M My):DE->M (List My):=λE F =>
 (mi E F).bind λp=>if p.1.length<=Os then(P2 bd mt me p.1 (dO k cap E) p.2).bind λz=>some (z.1,z.2) else none
def Bp {mi:DE->M (List My)}{k:Nat}{cap:List Nat}{g:TG}{bd:My->DE->Option DE}{tt:TT}{mt:DE->M Bool}{me:DE->M My}(hi:TIs K wi mi)(hg:TGd K g bd)(ht:TTd K tt mt)(he:TEd K te me) :
  TFd K (tLC wi k cap g tt te) (fLC mi k cap bd mt me):=λG B E F σ H Q d F' I e q=>by
 obtain⟨⟨items,F1⟩,e1,e⟩:=bS9 e;split at e
 .rename_i hsz;obtain⟨⟨whole,F2⟩,e2,e⟩:=bS9 e;cases e;refine hi G B E F σ H _ items F1 I e1 λJ H1 k1 f1 ok D hD=>?_
  have I1:SitE K G B E F1 σ H1:=I.step k1 f1;have hBD:D ∉ B:=I1.bk.nin hD;have hfD:D ∉ m7 K G:=λz=>hBD<|I.fB D z
  have hsz:items.length<=Os:=hsz;have stab:∀{H':Hp},Kp (m7 K G) H1 H'->Kp (m7 K G) H1 H'/\k8 (hid H1 B) (hid H' (D::B)):=λ{H'} k=>⟨k,λb o eb=>by
   by_cases hb:b∈B
   .rw[G2 hb]at eb;cases eb
   .rw[l9 hb]at eb;rw[l9 (by
     intro z;rcases IP.1 z with rfl | z
     .rw[hD]at eb;cases eb
     .exact hb z)]
    exact k b o eb λz=>hb<|I.fB b z⟩
  refine AE items.length (Cc K G B D H1 bd mt me items whole F2) ?_ ?_ ?_ ?_ ?_
  .refine⟨dO k cap E,F1,[],whole,(I1.cap k cap).more hD,i7,Kp.upd hD,λj ds ej z=>?_,c5.nil,e2,rfl,IT _⟩;obtain⟨v,v1,a,xs,rfl,_,_,ha,_⟩:=(I1.cap k cap).loc j _ ej;rw[v1]at z;cases z;rw[hD]at ha;cases ha
  .rintro i O' acc H' hlt ⟨E',F3,done,rest,I2,hD2,k2,ow,hd2,e3,ew,hdi⟩;exact((ok H' (D::B)<|stab k2).1 i items[i]<|by simp[hlt]).1
  .rintro O' acc H' ⟨E',F3,done,rest,I2,hD2,k2,ow,hd2,e3,ew,hdi⟩;exact(ok H' (D::B)<|stab k2).2
  .rintro i O' acc H' hlt ⟨E',F3,done,rest,I2,hD2,k2,ow,hd2,e3,ew,hdi⟩ x H2 y R hR;obtain⟨s2,hx⟩:=((ok H' (D::B)<|stab k2).1 i items[i]<|by simp[hlt]).2 x H2 y;have hx':=hx I2.bk;rw[Jw hlt,P2]at e3;obtain⟨E4,e4,e3⟩:=bS9 e3;obtain⟨⟨b,F5⟩,e5,e3⟩:=bS9 e3;have I3:SitE K G (D::B) E' F3 O' H2:=I2.step (Kp.same s2)<|I2.fd.same s2;refine hg G (D::B) E' F3 O' H2 x items[i] E4 _ I3 hx' e4 λσ4 I4 fr=>?_
   have ow4:∀(j:Nat) (ds:List My),E4[j]? = some (some<|DV.own ds)->σ4[j]? ≠ some (some<|V.ref D):=λj ds ej=>by
    obtain⟨a1,a2⟩:=fr j λy z=>by rw[ej]at z;cases z
    rw[a2];exact ow j ds<|a1▸ej
   refine ht G (D::B) E4 F3 σ4 H2 _ b F5 I4 e5 λH5 k5 f5=>?_
   have kall:Kp (m7 K G) H1 H5:=(k2.trans<|Kp.same s2).trans k5;have I5:SitE K G (D::B) E4 F5 σ4 H5:=I4.step k5 f5;have hD5:H5 D=some (.lst acc):=k5 D _ (s2 D _ hD2) hfD;have hd5:c5 K (hid H5 (D::B)) done acc:=(hd2.same<|(Kp.same s2).hid (fp:=[])<|by simp).same<|k5.hid I4.fB;cases b with
   | false =>exact⟨hD5,hR _ _ _ ⟨E4,F5,done,rest,I5,hD5,kall,ow4,hd5,e3,ew,by omega⟩⟩
   | true =>
    obtain⟨⟨yd,F6⟩,e6,e3⟩:=bS9 e3;obtain⟨⟨zs,F7⟩,e7,e3⟩:=bS9 e3;cases e3;refine he G (D::B) E4 F5 σ4 H5 _ yd F6 I5 e6 λv H6 k6 f6 h6=>?_
    have hD6:H6 D=some (.lst acc):=k6 D _ hD5 hfD;have I6:SitE K G (D::B) E4 F6 σ4 H6:=I5.step k6 f6;have hd6:=hd5.same<|k6.hid I5.fB;have hlen:acc.length<Os:=by rw[hd2.length];omega
    refine⟨hD6,hlen,hR _ _ _ ⟨E4,F6,done++[yd],zs,I6.wr hfD ow4 hD6,i7,λb o eb nb=>?_,ow4,?_,e7,by rw[ew];simp,by simp;omega⟩⟩
    .have:=k6 b o (kall b o eb nb) nb;rw[h8];exact this;intro z;subst z;rw[hD]at eb;cases eb
    .rw[ax IG];exact hd6.snoc h6
  .rintro O' acc H' ⟨E',F3,done,rest,I2,hD2,k2,ow,hd2,e3,ew,hdi⟩;rw[MX,P2]at e3;cases e3;rw[Kb]at ew;subst ew;exact q D acc H' (k1.none hD hfD) hD2 (k1.trans k2) I2.fd hd2
 .cases e
def AN {mi:DE->M (List My)}{k:Nat}{cap:List Nat}{g:TG}{bd:My->DE->Option DE}{tt:TT}{mt:DE->M Bool}{me:DE->M My}(hi:TIs K wi mi)(hg:TGd K g bd)(ht:TTd K tt mt)(he:TEd K te me) :
  TEd K (tLC wi k cap g tt te) (sLC mi k cap bd mt me):=λG B E F σ H Q d F' I e q=>by
 obtain⟨ds,rfl,ef⟩:∃ds,d = .list ds/\fLC mi k cap bd mt me E F=some (ds,F'):=by
  obtain⟨⟨items,F1⟩,e1,e⟩:=bS9 e;split at e
  .rename_i hsz;obtain⟨⟨whole,F2⟩,e2,e⟩:=bS9 e;cases e;refine⟨whole,rfl,?_⟩;unfold fLC;rw[e1,Jd,IE hsz,e2];rfl
  .cases e
 exact Bp hi hg ht he G B E F σ H Q ds F' I ef λz ws H' hz hw k1 f1 hd=>q _ H' k1 f1 (c6.lst (by rw[l9<|I.bk.nin hz];exact hw)<|hd.same<|R6 λb hb=>IA _ hb)
def K3 {elt:Oo}{ifs:List Oo}{scope osc:Ol}{N:List Str}{k:Nat}{cap:List Nat}{g:TG}{tt:TT}{mi:DE->M (List My)}{bd:My->DE->Option DE}{mt:DE->M Bool}{me:DE->M My}
  (hc:X.calm=true) (hosc:X.env.scope=osc) (hcap:Caps X.N osc N k cap scope) (hi:Eib K X tg iter wi mi)
  (hg:∀cl C ex OM s H,Eg K (cxC X N scope cl C ex OM s H) tg g bd)
  (ht:∀cl C ex OM s H,Ets K (cxC X N scope cl C ex OM s H) ifs tt mt)
  (he:∀cl C ex OM s H,Ev K (cxC X N scope cl C ex OM s H) elt te me)
  (hs:∀x,OE iter X.env x=pure x:=by intro _;rfl) :
  Ev K X (.ListComp elt [⟨tg,iter,ifs,0⟩] scope pos) (tLC wi k cap g tt te) (sLC mi k cap bd mt me) :=
 ⟨Bb hc hosc hcap hi.pi (λcl C ex OM s H=>(hg cl C ex OM s H).pg) (λcl C ex OM s H=>(ht cl C ex OM s H).pts) (λcl C ex OM s H=>(he cl C ex OM s H).pe) hs,
  AN hi.ok (hg [] 0 [] [] X.s₀ X.H₀).ok (ht [] 0 [] [] X.s₀ X.H₀).ok (he [] 0 [] [] X.s₀ X.H₀).ok⟩
end
end
variable {B0:List Of}{H0:Hp}{rest sts:List On}{p2:Pos}{tl:TA}
section
section
variable [Feeds]
inductive Out where
 | nx (E:DE) | rt (d:My) | bk (E:DE) | ct (E:DE)
def aE (B0:List Of)(H0:Hp)(E:DE)(σ:St):Prop:=∀(i c:Nat) (ps:List (My×My)) (a:Of),E[i]? = some (some<|DV.dic true c ps)->σ[i]? = some (some<|V.ref a)->(H0 a=none/\a ∉ B0)/\∀(j:Nat) (w':Bool) (c':Nat) (ps':List (My×My)),E[j]? = some (some<|DV.dic w' c' ps')->σ[j]? = some (some<|V.ref a)->i=j
def aE.of {E E':DE}{σ O':St}(h:aE B0 H0 E σ)(fr:∀(i:Nat) (w:Bool) (c:Nat) (ps:List (My×My)),E'[i]? = some (some<|DV.dic w c ps)->E'[i]? = E[i]? /\ O'[i]? = σ[i]?):aE B0 H0 E' O':=λi c ps a ei si=>by obtain⟨a1,a2⟩:=fr i _ _ _ ei;obtain⟨h1,h2⟩:=h i c ps a (a1▸ei)<|a2▸si;refine⟨h1,λj w' c' ps' ej sj=>?_⟩;obtain⟨b1,b2⟩:=fr j _ _ _ ej;exact h2 j w' c' ps' (b1▸ej)<|b2▸sj
def aE.set {E:DE}{σ:St}(h:aE B0 H0 E σ){i:Nat}{x:DV}{y:Option V}(hx:∀w c ps,x≠DV.dic w c ps):aE B0 H0 (E.set i<|some x) (σ.set i y):=h.of λj w c ps ej=>by
 by_cases hj:i=j
 .subst hj;by_cases hl:i<E.length
  .rw[IR hl]at ej;cases ej;exact absurd rfl<|hx w c ps
  .rw[Kx (by rw[JH];omega)]at ej;cases ej
 .exact⟨IL hj,IL hj⟩
def aE.set1 {E:DE}{σ:St}(h:aE B0 H0 E σ){i:Nat}{x:DV}(hx:∀w c ps,x≠DV.dic w c ps):aE B0 H0 (E.set i<|some x) σ:=h.of λj w c ps ej=>by
 by_cases hj:i=j
 .subst hj;by_cases hl:i<E.length
  .rw[IR hl]at ej;cases ej;exact absurd rfl<|hx w c ps
  .rw[Kx (by rw[JH];omega)]at ej;cases ej
 .exact⟨IL hj,rfl⟩
structure Sit (K:Fg) (G:GF) (B0:List Of) (H0:Hp) (E:DE) (F:FS) (σ:St) (H:Hp):Prop where
 ex:∃B,(∀b∈B0,b∈B)/\(∀b∈B,b∈B0\/H0 b=none)/\SitE K G B E F σ H
 fB:∀b∈m7 K G,b∈B0
 kp:Kp (m7 K G) H0 H
 own:∀(i:Nat) (ds:List My) (a:Of),E[i]? = some (some<|DV.own ds)->σ[i]? = some (some<|V.ref a)->H0 a=none/\a ∉ B0
 inj:∀(i j:Nat) (ds es:List My) (a:Of),E[i]? = some (some<|DV.own ds)->E[j]? = some (some<|DV.own es)->σ[i]? = some (some<|V.ref a)->σ[j]? = some (some<|V.ref a)->i=j
 dic:aE B0 H0 E σ
def ny (K:Fg)(G:GF)(B0:List Of)(H0:Hp)(F:FS)(D:Ends):Out->Prop
 | .nx E=>∀σ H,Sit K G B0 H0 E F σ H->D.nx σ H
 | .bk E=>∀σ H,Sit K G B0 H0 E F σ H->D.bk σ H
 | .ct E=>∀σ H,Sit K G B0 H0 E F σ H->D.ct σ H
 | .rt d=>∀v H,Kp (m7 K G) H0 H->FAt K G H F->c6 K (hid H B0) d v->D.rt v H
def TSd (K:Fg)(ts:TS)(m:DE->M Out):Prop:=∀(G:GF) (B0:List Of) (H0:Hp) (E:DE) (F:FS) (σ:St) (H:Hp) (D:Ends) (r:Out) (F':FS),Sit K G B0 H0 E F σ H->m E F=some (r,F')->ny K G B0 H0 F' D r->ts D σ H
structure Ss (K:Fg) (X:Cx) (st:On) (ts:TS) (m:DE->M Out):Prop where
 ps:PS X st ts
 ok:TSd K ts m
structure Sss (K:Fg) (X:Cx) (sts:List On) (ts:TS) (m:DE->M Out):Prop where
 ps:PSs X sts ts
 ok:TSd K ts m
variable {K:Fg}{X:Cx}{a b c e:Oo}{st:On}{ta tb:TE}{ma mb m:DE->M My}{t u:TS}{mt mu:DE->M Out}{pos' p:Pos}
def Sit.step {G:GF}{E:DE}{F F':FS}{σ:St}{H H':Hp}(S:Sit K G B0 H0 E F σ H)(k:Kp (m7 K G) H H')(f:FAt K G H' F'):Sit K G B0 H0 E F' σ H':=by obtain⟨B,s,sn,I⟩:=S.ex;exact⟨⟨B,s,sn,I.step k f⟩,S.fB,S.kp.trans k,S.own,S.inj,S.dic⟩
def mNx :DE->M Out:=λE F=>some (.nx E,F)
def mSq (a b:DE->M Out):DE->M Out:=λE F=>(a E F).bind λp=>match p.1 with
 | .nx E1=>b E1 p.2
 | o=>some (o,p.2)
def B9 :Sss K X [] sG mNx:=⟨dB,λG B0 H0 E F σ H D r F' S e q=>by cases e;exact q σ H S⟩
def d7 (h1:Ss K X st t mt)(h2:Sss K X rest u mu):Sss K X (st::rest) (tZ t u) (mSq mt mu):=⟨B1 h1.ps h2.ps,λG B0 H0 E F σ H D r F' S e q=>by
 obtain⟨⟨o,F1⟩,e1,e⟩:=bS9 e;refine h1.ok G B0 H0 E F σ H _ o F1 S e1 ?_;cases o with
 | nx E1=>exact λO' H' S'=>h2.ok G B0 H0 E1 F1 O' H' D r F' S' e q
 | rt d=>cases e;exact q
 | bk E1=>cases e;exact q
 | ct E1=>cases e;exact q⟩
def g9 (h1:Ss K X st t mt):Sss K X [st] t mt:=⟨O6 h1.ps,h1.ok⟩
def mRt (a:DE->M My):DE->M Out:=λE F=>(a E F).bind λp=>some (.rt p.1,p.2)
def l3 (h:Ev K X e te m):Ss K X (.Return (some e) pos) (Aq te) (mRt m):=⟨cq h.pe,λG B0 H0 E F σ H D r F' S e q=>by obtain⟨⟨d,F1⟩,e1,e⟩:=bS9 e;cases e;obtain⟨B,s,sn,I⟩:=S.ex;exact h.ok G B E F σ H _ d F1 I e1 λv H1 k1 f1 h1=>q v H1 (S.kp.trans k1) f1<|h1.same<|R6 s⟩
def xB (i:Nat){x:Str}(hN:X.N[i]? = some x:=by rfl)(hv:Vis X.env.scope x:=by first | exact Or.inl rfl | exact Or.inr (Or.inl rfl) | exact Or.inr<|Or.inr rfl)(hd:(x == ("__debug__":Str))=false:=by decide)
  (hcd:(x == ("__classdict__":Str))=false:=by decide):Ss K X (.Return (some<|.Name x p) pos) (Aq<|Q8 i) (mRt<|sW i):=⟨cq<|G5 hN hv hd hcd,λG B0 H0 E F σ H D r F' S e q=>by
 obtain⟨⟨d,F1⟩,e1,e⟩:=bS9 e;cases e;obtain⟨B,s,sn,I⟩:=S.ex;unfold sW at e1;split at e1
 .rename_i x hx;cases e1;obtain⟨v,h1,h2⟩:=I.loc i _ hx;exact⟨v,h1,q v H S.kp I.fd<|c6.same h2<|R6 s⟩
 .rename_i x hx;cases e1;obtain⟨v,h1,p,xs,rfl,hB,hf,hp,hd⟩:=I.loc i _ hx;obtain⟨n1,n2⟩:=S.own i x p hx h1;exact⟨_,h1,q _ H S.kp I.fd<|c6.lst (by rw[l9 n2];exact hp)<|hd.same<|R6 s⟩
 .cases e1⟩
def A4 (i:Nat)(a:DE->M My):DE->M Out:=λE F=>(a E F).bind λp=>(bN i p.1 E).bind λE1=>some (.nx E1,p.2)
def Sit.bind {G:GF}{B:List Of}{E E':DE}{F F':FS}{σ O':St}{H:Hp}(S:Sit K G B0 H0 E F σ H)(s:∀b∈B0,b∈B)(sn:∀b∈B,b∈B0\/H0 b=none)(I:SitE K G B E' F' O' H)(fr:∀i:Nat,(∀y,E'[i]? ≠ some (some<|.dat y))->E'[i]? = E[i]? /\ O'[i]? = σ[i]?):Sit K G B0 H0 E' F' O' H:=by
 refine⟨⟨B,s,sn,I⟩,S.fB,S.kp,λi ds a ei si=>?_,λi j ds es a ei ej si sj=>?_,S.dic.of λi w c ps ei=>fr i λy z=>by rw[ei]at z;cases z⟩
 .obtain⟨a1,a2⟩:=fr i λy z=>by rw[ei]at z;cases z
  exact S.own i ds a (a1▸ei)<|a2▸si
 .obtain⟨a1,a2⟩:=fr i λy z=>by rw[ei]at z;cases z
  obtain⟨b1,b2⟩:=fr j λy z=>by rw[ej]at z;cases z
  exact S.inj i j ds es a (a1▸ei) (b1▸ej) (a2▸si)<|b2▸sj
def tE {g:TG}{bd:My->DE->Option DE}(he:TEd K te m)(hg:TGd K g bd):TSd K (aU te g) (λE F=>(m E F).bind λp=>(bd p.1 E).bind λE1=>some (.nx E1,p.2)):=λG B0 H0 E F σ H D r F' S e q=>by
 obtain⟨⟨d,F1⟩,e1,e⟩:=bS9 e;obtain⟨E1,e2,e⟩:=bS9 e;cases e;obtain⟨B,s,sn,I⟩:=S.ex;refine he G B E F σ H _ d F1 I e1 λv H1 k1 f1 h1=>?_
 have S1:=S.step k1 f1;exact hg G B E F1 σ H1 v d E1 _ (I.step k1 f1) h1 e2 λO' I' fr=>q O' H1<|S1.bind s sn I' fr
def aN (i:Nat):TGd K (Q5 i) (bN i):=λG B E F σ H x d E' Q I h e q=>by
 unfold bN at e;split at e
 .rename_i hl;cases e;refine q _ (I.set h hl) λj hj=>?_
  by_cases hij:i=j
  .subst hij;exact absurd (IR hl)<|hj d
  .rw[IL hij,IL hij];exact⟨rfl,rfl⟩
 .cases e
def m6 (i:Nat){x:Str}(hN:X.N.Nodup)(he:Ev K X e te m)(hi:X.N[i]? = some x:=by rfl)(hx:Loc X.env.scope x:=by walk_at "v")(hs:OB e (some<|.Name x pos') pos.line X.env=pure false:=by rfl)(hf:X.fn x=true\/X.env.scope.names.lookup x=some .local:=by walk_at "v") :
  Ss K X (.Assign [.Name x pos'] e pos) (aU te<|Q5 i) (A4 i m):=⟨N9 hN hi hx he.pe hs hf,tE he.ok<|aN i⟩
def oW (bd:My->DE->Option DE)(a:DE->M My):DE->M Out:=λE F=>(a E F).bind λp=>(bd p.1 E).bind λE1=>some (.nx E1,p.2)
def mZ {g:TG}{bd:My->DE->Option DE}(he:Ev K X e te m)(hg:Eg K X tg g bd)(hs:swapsWithSole [tg] e pos.line X.env=pure false:=by rfl)(hw:swappedStores [tg] e X.env=pure none:=by rfl)
  (h1:(OF [tg] X.env).map (·.2)=[assign tg X.env]:=by rfl):Ss K X (.Assign [tg] e pos) (aU te g) (oW bd m):=⟨iK he.pe hg.pg hs hw h1,tE he.ok hg.ok⟩
def eW (i:Nat){y:Str}{py:Pos}{elt:Oo}{ifs:List Oo}{scope osc:Ol}{N:List Str}{k:Nat}{cap:List Nat}{g:TG}{tt:TT}{mi:DE->M (List My)}{bd:My->DE->Option DE}{mt:DE->M Bool}{me:DE->M My}
  (hN:X.N.Nodup) (hc:X.calm=true) (hosc:X.env.scope=osc) (hcap:Caps X.N osc N k cap scope) (hi:Eib K X tg iter wi mi)
  (hg:∀cl C ex OM s H,Eg K (cxC X N scope cl C ex OM s H) tg g bd)
  (ht:∀cl C ex OM s H,Ets K (cxC X N scope cl C ex OM s H) ifs tt mt)
  (he:∀cl C ex OM s H,Ev K (cxC X N scope cl C ex OM s H) elt te me)
  (hix:X.N[i]? = some y:=by rfl) (hLy:Loc X.env.scope y:=by walk_at "v")
  (hs:∀x,OE iter X.env x=pure x:=by intro _;rfl) (hfy:X.fn y=true\/X.env.scope.names.lookup y=some .local:=by walk_at "v")
  (hsw:OB (.ListComp elt [⟨tg,iter,ifs,0⟩] scope p) (some<|.Name y py) pos.line X.env=pure true:=by rfl) :
  Ss K X (.Assign [.Name y py] (.ListComp elt [⟨tg,iter,ifs,0⟩] scope p) pos) (aU (tLC wi k cap g tt te)<|Q5 i) (A4 i<|sLC mi k cap bd mt me) :=
 ⟨tJ hN hix hLy hc hosc hcap hi.pi (λcl C ex OM s H=>(hg cl C ex OM s H).pg) (λcl C ex OM s H=>(ht cl C ex OM s H).pts) (λcl C ex OM s H=>(he cl C ex OM s H).pe) hs hfy hsw,
  tE (AN hi.ok (hg [] 0 [] [] X.s₀ X.H₀).ok (ht [] 0 [] [] X.s₀ X.H₀).ok (he [] 0 [] [] X.s₀ X.H₀).ok) (aN i)⟩
def mIf (c:DE->M Bool)(a b:DE->M Out):DE->M Out:=λE F=>(c E F).bind λp=>if p.1=true then a E p.2 else b E p.2
def G0 {x y:List On}{tt:TT}{mc:DE->M Bool}(hc:Et K X c tt mc)(ha:Sss K X x t mt)(hb:Sss K X y u mu):Ss K X (.If c x y pos) (uW tt t u) (mIf mc mt mu):=⟨jQ hc.pt ha.ps hb.ps,λG B0 H0 E F σ H D r F' S e q=>by
 obtain⟨⟨d,F1⟩,e1,e⟩:=bS9 e;obtain⟨B,s,sn,I⟩:=S.ex;refine hc.ok G B E F σ H _ d F1 I e1 λH1 k1 f1=>?_
 cases d with
 | true=>exact ha.ok G B0 H0 E F1 σ H1 D r F' (S.step k1 f1) e q
 | false=>exact hb.ok G B0 H0 E F1 σ H1 D r F' (S.step k1 f1) e q⟩
noncomputable def js (i j:Nat)(a:DE->M (List My)):DE->M Out:=λE F=>(a E F).bind λp=>match p.1 with
 | [x,y]=>(bN i x E).bind λE1=>(bN j y E1).bind λE2=>some (.nx E2,p.2)
 | _=>none
def cn (i j:Nat){x y:Str}{ms:DE->M (List My)}{px py pt:Pos}{kt k2 pt2}(hc:X.calm=true)(hN:X.N.Nodup)(ha:Ea K X [a,b] tl ms)(hi:X.N[i]? = some x:=by rfl)(hj:X.N[j]? = some y:=by rfl)(hij:i≠j:=by decide)
  (hx:X.env.scope.names.lookup x=some .local:=by rfl) (hy:X.env.scope.names.lookup y=some .local:=by rfl)
  (hw:swappedStores [.Tuple [.Name x px,.Name y py] kt pt] (.Tuple [a,b] k2 pt2) X.env=pure (some [x,y]):=by rfl)
  (hs:swapsWithSole [.Tuple [.Name x px,.Name y py] kt pt] (.Tuple [a,b] k2 pt2) pos.line X.env=pure false:=by rfl) :
  Ss K X (.Assign [.Tuple [.Name x px,.Name y py] kt pt] (.Tuple [a,b] k2 pt2) pos) (Aa i j tl) (js i j ms):=⟨qN hc hN hi hj hij hx hy ha.pa hw hs,λG B0 H0 E F σ H D r F' S e q=>by
 obtain⟨⟨ds,F1⟩,e1,e⟩:=bS9 e;obtain⟨B,s,sn,I⟩:=S.ex;refine ha.ok G B E F σ H _ ds F1 I e1 λvs H1 k1 f1 h1=>?_
 dsimp only at e;split at e
 .obtain⟨E1,e2,e⟩:=bS9 e;obtain⟨E2,e3,e⟩:=bS9 e;cases e;simp only[c5]at h1;obtain⟨v,r1,rfl,hv,w,r2,rfl,hw,rfl⟩:=h1;have S1:=S.step k1 f1;refine⟨v,w,rfl,?_⟩;refine aN i G B E _ σ H1 v _ E1 (λO' H'=>D.nx (O'.set j<|some w) H') (I.step k1 f1) hv e2 λO' I' fr=>?_
  have S2:=S1.bind s sn I' fr;exact aN j G B E1 _ O' H1 w _ E2 D.nx I' hw e3 λσ2 I2 fr2=>q σ2 H1 (S2.bind s sn I2 fr2)
 .cases e⟩
end
end
section
section
variable [Feeds]{K:Fg}{X:Cx}{a b c e:Oo}{st:On}{ta tb:TE}{ma mb m:DE->M My}{t u:TS}{mt mu:DE->M Out}{pos' p:Pos}
def cz (H:Hp)(B B0:List Of):Hp:=hid H (B.filter λb=>decide (b ∉ B0))
def cF {H:Hp}{B:List Of}{b:Of}(h1:b∈B)(h2:b ∉ B0):cz H B B0 b=none:=G2 (KM.2 ⟨h1,by simpa using h2⟩)
def cG {H:Hp}{B:List Of}{b:Of}(h:b ∉ B\/b∈B0):cz H B B0 b=H b:=l9 λz=>by
 obtain⟨z1,z2⟩:=KM.1 z;rcases h with h | h
 .exact h z1
 .simp at z2;exact z2 h
section
variable {G:GF}{B:List Of}{E E2:DE}{F F2:FS}{σ σ2:St}{H H2:Hp}
def Sit.base (S:Sit K G B0 H0 E F σ H)(s:∀b∈B0,b∈B)(sn:∀b∈B,b∈B0\/H0 b=none)(I:SitE K G B E F σ H):Sit K G B0 (cz H B B0) E F σ H:=by
 refine⟨⟨B,s,λb hb=>?_,I⟩,S.fB,Kp.same g6,λi ds a ei si=>?_,S.inj,λi c ps a ei si=>?_⟩
 .by_cases h:b∈B0
  .exact .inl h
  .exact .inr<|cF hb h
 .obtain⟨v,v1,a',xs,rfl,hB,_⟩:=I.loc i _ ei;rw[v1]at si;cases si;exact⟨cF hB (S.own i ds _ ei v1).2,(S.own i ds _ ei v1).2⟩
 .obtain⟨v,v1,a',xs,rfl,hB,_⟩:=I.loc i _ ei;rw[v1]at si;cases si;obtain⟨⟨_,h2⟩,h3⟩:=S.dic i c ps _ ei v1;exact⟨⟨cF hB h2,h2⟩,h3⟩
def tS (S:Sit K G B0 H0 E F σ H)(sn:∀b∈B,b∈B0\/H0 b=none)(k:Kp (m7 K G) (cz H B B0) H2):Kp (m7 K G) H0 H2:=λb o e n=>by
 refine k b o ?_ n;rw[cG]
 .exact S.kp b o e n
 .by_cases hb:b∈B
  .rcases sn b hb with h | h
   .exact .inr h
   .rw[h]at e;cases e
  .exact .inl hb
def Sit.unbase (S:Sit K G B0 H0 E F σ H)(sn:∀b∈B,b∈B0\/H0 b=none)(S2:Sit K G B0 (cz H B B0) E2 F2 σ2 H2):Sit K G B0 H0 E2 F2 σ2 H2:=by
 have no:∀b,cz H B B0 b=none->b∈B0\/H0 b=none:=λb e=>by
  by_cases hb:b∈B
  .exact sn b hb
  .rw[cG<|.inl hb]at e;by_cases hf:b∈m7 K G
   .exact .inl<|S.fB b hf
   .cases q:H0 b with
    | none=>exact .inr rfl
    | some o=>rw[S.kp b o q hf]at e;cases e
 obtain⟨B2,s2,sn2,I2⟩:=S2.ex;refine⟨⟨B2,s2,λb hb=>?_,I2⟩,S.fB,tS S sn S2.kp,λi ds a ei si=>?_,S2.inj,λi c ps a ei si=>?_⟩
 .rcases sn2 b hb with h | h
  .exact .inl h
  .exact no b h
 .obtain⟨h1,h2⟩:=S2.own i ds a ei si;exact⟨(no a h1).resolve_left h2,h2⟩
 .obtain⟨⟨h1,h2⟩,h3⟩:=S2.dic i c ps a ei si;exact⟨⟨(no a h1).resolve_left h2,h2⟩,h3⟩
end
noncomputable def R9 (bd:My->DE->Option DE)(body:DE->M Out):List My->DE->M Out
 | [],E,F=>some (.nx E,F)
 | d::r,E,F=>(bd d E).bind λE1=>(body E1 F).bind λp=>match p.1 with
  | .nx E2=>R9 bd body r E2 p.2
  | .ct E2=>R9 bd body r E2 p.2
  | .bk E2=>some (.nx E2,p.2)
  | .rt d=>some (.rt d,p.2)
def W9 (mi:DE->M (List My))(bd:My->DE->Option DE)(body:DE->M Out):DE->M Out:=λE F=>(mi E F).bind λp=>R9 bd body p.1 E p.2
def AY {g:TG}{tb:TS}{mi:DE->M (List My)}{bd:My->DE->Option DE}{mb:DE->M Out}(hi:TId K wi mi)(hg:TGd K g bd)(hb:TSd K tb mb):TSd K (zM wi g tb) (W9 mi bd mb):=λG B0 H0 E F σ H D r F' S e q=>by
 obtain⟨⟨items,F1⟩,e1,e⟩:=bS9 e;obtain⟨B,s,sn,I⟩:=S.ex;refine hi G B E F σ H _ items F1 I e1 λJ H1 k1 f1 ok=>?_
 have S1:=S.step k1 f1;have I1:=I.step k1 f1;have S1':=S1.base s sn I1;have qn:∀{E2:DE} {F2:FS},r = .nx E2->F'=F2->∀σ2 H2,Sit K G B0 (cz H1 B B0) E2 F2 σ2 H2->D.nx σ2 H2:=λ{E2 F2} er ef σ2 H2 S2=>by subst er ef;exact q σ2 H2<|S1.unbase sn S2
 have stab:∀{E2:DE} {F2:FS} {σ2:St} {H2:Hp} {B2:List Of},Sit K G B0 (cz H1 B B0) E2 F2 σ2 H2->(∀b∈B2,b∈B0\/cz H1 B B0 b=none)->k8 (hid H1 B) (hid H2 B2):=λ{E2 F2 σ2 H2 B2} S2 sn2 b o eb=>by
  by_cases hB:b∈B
  .rw[G2 hB]at eb;cases eb
  .rw[l9 hB]at eb;have ec:cz H1 B B0 b=some o:=by rw[cG<|.inl hB];exact eb
   rw[l9 λz=>(sn2 b z).elim (λh=>hB<|s b h) λh=>by rw[h]at ec;cases ec];exact S2.kp b o ec λz=>hB<|s b<|S.fB b z
 refine⟨λi m σ H=>m=items.length-i/\i<=items.length/\∃E F,Sit K G B0 (cz H1 B B0) E F σ H/\R9 bd mb (items.drop i) E F=some (r,F'),⟨items.length,by simp,JV _,E,F1,S1',e⟩,?_⟩;rintro i mm σ2 H2 ⟨rfl,hi2,E2,F2,S2,e2⟩;obtain⟨B2,s2,sn2,I2⟩:=S2.ex;have st2:=stab S2 sn2;by_cases hlt:i<items.length
 .refine .inr ⟨((ok H2 B2 st2).1 i items[i]<|by simp[hlt]).1,λO' H'=>i+1<=items.length/\∃E F,Sit K G B0 (cz H1 B B0) E F O' H'/\R9 bd mb (items.drop<|i+1) E F=some (r,F'),λO' H' ⟨h1,h2⟩=>⟨items.length-(i+1),by omega,rfl,h1,h2⟩,λx H3 y=>?_⟩;obtain⟨s3,hx⟩:=((ok H2 B2 st2).1 i items[i]<|by simp[hlt]).2 x H3 y;have hx:=hx I2.bk;rw[Jw hlt,R9]at e2;obtain⟨E4,e4,e2⟩:=bS9 e2;obtain⟨⟨o,F5⟩,e5,e2⟩:=bS9 e2;have S3:=S2.step (Kp.same s3)<|I2.fd.same s3;have I3:SitE K G B2 E2 F2 σ2 H3:=I2.step (Kp.same s3)<|I2.fd.same s3;refine hg G B2 E2 F2 σ2 H3 x items[i] E4 _ I3 hx e4 λσ4 I4 fr=>?_
  refine hb G B0 (cz H1 B B0) E4 F2 σ4 H3 _ o F5 (S3.bind s2 sn2 I4 fr) e5 ?_;cases o with
  | nx E6=>exact λσ6 H6 S6=>⟨hlt,E6,F5,S6,e2⟩
  | ct E6=>exact λσ6 H6 S6=>⟨hlt,E6,F5,S6,e2⟩
  | bk E6=>cases e2;exact λσ6 H6 S6=>qn rfl rfl σ6 H6 S6
  | rt d=>cases e2;exact λv H6 k6 f6 h6=>q v H6 (tS S1 sn k6) f6 h6
 .have ei:i=items.length:=by omega
  subst ei;rw[MX,R9]at e2;cases e2;exact .inl ⟨(ok H2 B2 st2).2,qn rfl rfl σ2 H2 S2⟩
def L0 {body:List On}{g:TG}{tb:TS}{mi:DE->M (List My)}{bd:My->DE->Option DE}{mb:DE->M Out}(hc:X.calm=true)(hi:Ei K X tg iter wi mi)(hg:Eg K X tg g bd)(hb:Sss K X body tb mb)(hp:PassesOwn (model X.prog X.w) X.A X.env X.xe:=by exact PassesOwn.never)
  (hs:∀x,OE iter X.env x=pure x:=by intro _;rfl):Ss K X (.For tg iter body [] pos) (zM wi g tb) (W9 mi bd mb):=⟨Ah hp hc hi.pi hg.pg hb.ps hs,AY hi.ok hg.ok hb.ok⟩
structure Ef (K:Fg) (X:Cx) (e:Oo) (te:TE) (m:DE->M (List My)):Prop where
 pe:PE X e te
 ok:TFd K te m
def ka {H:Hp}{B:List Of}{p:Of}(hp:H p=none):k8 (hid H B) (hid (upd H p o) (p::B)):=λb u e=>by
 by_cases hb:b∈B
 .rw[G2 hb]at e;cases e
 .rw[l9 hb]at e;have hne:=l6 e hp;rw[l9 (by simp[hne,hb]),h8 hne];exact e
def jY (a:DE->M (List My)):DE->M (List My):=λE F=>(a E F).bind λp=>if p.1.length<=Os then some (p.1,p.2) else none
def ft {t:TA}{ms:DE->M (List My)}(h:Ea K X es t ms):Ef K X (.List es pos) (vK t) (jY ms):=⟨jl h.pa,λG B E F σ H Q d F' I e q=>by
 obtain⟨⟨x,F1⟩,e1,e⟩:=bS9 e;split at e
 .rename_i hl;cases e;refine h.ok G B E F σ H _ x F1 I e1 λvs H1 k1 f1 h1=>⟨by rw[h1.length];exact hl,λp hp=>?_⟩
  have hnf:p ∉ m7 K G:=λz=>(A6 I.bk k1 f1).nin hp (I.fB p z)
  exact q p vs _ (k1.none hp hnf) i7 (k1.trans<|Kp.upd hp) (f1.same<|k8.upd hp) (h1.same<|ka hp)
 .cases e⟩
def iw (i:Nat)(a:DE->M (List My)):DE->M Out:=λE F=>(a E F).bind λp=>if i<E.length then some (.nx<|E.set i<|some<|.own p.1,p.2) else none
def BV {i:Nat}{mf:DE->M (List My)}(he:TFd K te mf):TSd K (aU te<|Q5 i) (iw i mf):=λG B0 H0 E F σ H D r F' S e q=>by
 obtain⟨⟨ds,F1⟩,e1,e⟩:=bS9 e;split at e
 .rename_i hl;cases e;obtain⟨B,s,sn,I⟩:=S.ex;refine he G B E F σ H _ ds _ I e1 λa vs H1 hn ha k1 f1 h1=>?_
  have I1:=I.step k1 f1;have hsl:i < σ.length:=by rw[<-I.ln];exact hl
  have haB:a ∉ B:=I.bk.nin hn;have haf:a ∉ m7 K G:=λz=>haB<|I.fB a z
  have h0:H0 a=none:=S.kp.none hn haf;have sm:k8 (hid H B) (hid H1 (a::B)):=λb o eb=>by
   by_cases hb:b∈B
   .rw[G2 hb]at eb;cases eb
   .rw[l9 hb]at eb;have hne:=l6 eb hn;rw[l9<|by simp[hne,hb]];exact k1 b o eb λz=>hb<|I.fB b z
  refine q _ H1 ⟨⟨a::B,λb hb=>IA _<|s b hb,λb hb=>?_,⟨f1,λb hb=>IA _<|I.fB b hb,λb hb=>?_,by rw[JH,JH];exact I.ln,λj x ej=>?_⟩⟩,S.fB,S.kp.trans k1,λj es a' ej sj=>?_,λj k es es' a' ej ek sj sk=>?_,S.dic.set nofun⟩
  .rcases IP.1 hb with rfl | hb
   .exact .inr h0
   .exact sn b hb
  .rcases IP.1 hb with rfl | hb
   .exact⟨_,ha⟩
   .exact I1.bk b hb
  .by_cases hj:i=j
   .subst hj;rw[IR hl]at ej;cases ej;exact⟨.ref a,by rw[IR hsl],a,vs,rfl,IG,haf,ha,h1⟩
   .rw[IL hj]at ej;obtain⟨v,v1,v2⟩:=I.loc j x ej;refine⟨v,by rw[IL hj];exact v1,?_⟩;cases x with
    | dat d=>exact c6.same (show c6 K (hid H B) d v from v2) sm
    | feed=>exact v2
    | fn _=>exact v2
    | adr _=>exact v2
    | own es =>obtain⟨a',xs',rfl,hB',hf',ha',hd'⟩:=v2;exact⟨a',xs',rfl,IA _ hB',hf',k1 _ _ ha' hf',hd'.same sm⟩
    | dic w c ps =>obtain⟨a',xs',rfl,hB',hf',ha',hn',hd'⟩:=v2;exact⟨a',xs',rfl,IA _ hB',hf',k1 _ _ ha' hf',hn',hd'.same sm⟩
  .by_cases hj:i=j
   .subst hj;rw[IR hsl]at sj;cases sj;exact⟨h0,λz=>haB<|s a z⟩
   .rw[IL hj]at ej sj;exact S.own j es a' ej sj
  .have other:∀(j:Nat) (es:List My),i≠j->E[j]? = some (some<|DV.own es)->σ[j]? ≠ some (some<|V.ref a):=λj es _ ej z=>by obtain⟨v,v1,a',xs',rfl,hB',_⟩:=I.loc j _ ej;rw[v1]at z;cases z;exact haB hB'
   by_cases hj:i=j
   .by_cases hk:i=k
    .exact hj.symm.trans hk
    .subst hj;rw[IR hsl]at sj;cases sj;rw[IL hk]at ek sk;exact absurd sk<|other k es' hk ek
   .rw[IL hj]at ej sj;by_cases hk:i=k
    .subst hk;rw[IR hsl]at sk;cases sk;exact absurd sj<|other j es hj ej
    .rw[IL hk]at ek sk;exact S.inj j k es es' a' ej ek sj sk
 .cases e
def eE (i:Nat){x:Str}{mf:DE->M (List My)}(hN:X.N.Nodup)(he:Ef K X e te mf)(hi:X.N[i]? = some x:=by rfl)(hx:Loc X.env.scope x:=by walk_at "v")(hs:OB e (some<|.Name x pos') pos.line X.env=pure false:=by rfl)(hf:X.fn x=true\/X.env.scope.names.lookup x=some .local:=by walk_at "v") :
  Ss K X (.Assign [.Name x pos'] e pos) (aU te<|Q5 i) (iw i mf):=⟨N9 hN hi hx he.pe hs hf,BV he.ok⟩
end
end
section
section
variable [Feeds]{K:Fg}{X:Cx}{a b c e:Oo}{st:On}{ta tb:TE}{ma mb m:DE->M My}{t u:TS}{mt mu:DE->M Out}{pos' p:Pos}
section
variable {G:GF}{B:List Of}{E:DE}{F:FS}{σ:St}{H:Hp}
def Sit.write {i:Nat}{ds ds':List My}{x:Of}{vs':List V}(S:Sit K G B0 H0 E F σ H)(s:∀b∈B0,b∈B)(sn:∀b∈B,b∈B0\/H0 b=none)(I:SitE K G B E F σ H)(ei:E[i]? = some (some<|DV.own ds))(si:σ[i]? = some (some<|V.ref x))
  (hd:c5 K (hid H B) ds' vs'):Sit K G B0 H0 (E.set i<|some<|.own ds') F σ (upd H x<|.lst vs'):=by
 have hl:i<E.length:=(IH.1 ei).1;obtain⟨v,v1,x',xs,rfl,hB,hf,hx,_⟩:=I.loc i _ ei;rw[si]at v1;cases v1;have e1:hid (upd H x<|.lst vs') B=hid H B:=ax hB;obtain⟨n1,n2⟩:=S.own i ds x ei si;refine⟨⟨B,s,sn,⟨I.fd.congr λb hb=>h8 (λz=>hb.elim (λhb=>hf<|z▸hb) λ⟨φ,q⟩=>by rw[z,hx]at q;cases q),I.fB,λb hb=>?_,by rw[JH];exact I.ln,λj y ej=>?_⟩⟩,S.fB,λb o eb nb=>?_,λj es a' ej sj=>?_,λj k es es' a' ej ek sj sk=>?_,S.dic.set1 nofun⟩
 .by_cases h:b=x
  .subst h;exact⟨_,i7⟩
  .rw[h8 h];exact I.bk b hb
 .by_cases hj:i=j
  .subst hj;rw[IR hl]at ej;cases ej;exact⟨.ref x,si,x,vs',rfl,hB,hf,i7,by rw[e1];exact hd⟩
  .rw[IL hj]at ej;obtain⟨w,w1,w2⟩:=I.loc j y ej;refine⟨w,w1,?_⟩;cases y with
   | dat d=>show c6 K (hid (upd H x<|.lst vs') B) d w;rw[e1];exact w2
   | feed=>exact w2
   | fn _=>exact w2
   | adr _=>exact w2
   | own es =>
    obtain⟨a',xs',rfl,hB',hf',ha',hd'⟩:=w2;have hne:a'≠x:=λz=>hj<|S.inj i j ds es x ei ej si<|z▸w1
    exact⟨a',xs',rfl,hB',hf',by rw[h8 hne];exact ha',by rw[e1];exact hd'⟩
   | dic w c ps =>
    obtain⟨a',xs',rfl,hB',hf',ha',hn',hd'⟩:=w2;have hne:a'≠x:=λz=>by rw[z,hx]at ha';cases ha'
    exact⟨a',xs',rfl,hB',hf',by rw[h8 hne];exact ha',hn',by rw[e1];exact hd'⟩
 .rw[h8]
  .exact S.kp b o eb nb
  .intro z;subst z;rw[n1]at eb;cases eb
 .by_cases hj:i=j
  .subst hj;exact S.own i ds a' ei sj
  .rw[IL hj]at ej;exact S.own j es a' ej sj
 .have back:∀(j:Nat) (es:List My),(E.set i<|some<|.own ds')[j]? = some (some<|DV.own es)->∃es,E[j]? = some (some<|DV.own es):=λj es ej=>by
   by_cases hj:i=j
   .subst hj;exact⟨ds,ei⟩
   .rw[IL hj]at ej;exact⟨es,ej⟩
  obtain⟨f1,ej'⟩:=back j es ej;obtain⟨f2,ek'⟩:=back k es' ek;exact S.inj j k f1 f2 a' ej' ek' sj sk
end
def az (E:DE)(i:Nat):Option (List My):=match E[i]? with
 | some (some<|.own ds)=>some ds
 | _=>none
def Q6 {E:DE}{i:Nat}{ds:List My}(h:az E i=some ds):E[i]? = some (some<|DV.own ds):=by
 unfold az at h;split at h
 .rename_i q;cases h;exact q
 .cases h
theorem c5.set {H:Hp}:∀{ds:List My} {xs:List V} {d:My} {v:V} (j:Nat),c5 K H ds xs->c6 K H d v->c5 K H (ds.set j d) (xs.set j v)
 | [],xs,d,v,j,h,h'=>by simp only[c5]at h;subst h;simp[c5]
 | e::ds,xs,d,v,0,h,h'=>by
  simp only[c5]at h;obtain⟨y,r,rfl,h1,h2⟩:=h;simp only[Mp,c5];exact⟨v,r,rfl,h',h2⟩
 | e::ds,xs,d,v,j+1,h,h'=>by simp only[c5]at h;obtain⟨y,r,rfl,h1,h2⟩:=h;simp only[Mq,c5];exact⟨y,r.set j v,rfl,h1,c5.set j h2 h'⟩
noncomputable def mB (i:Nat)(v:DE->M My):DE->M Out:=λE F=>(v E F).bind λp=>(az E i).bind λds=>if ds.length<Os then some (.nx<|E.set i<|some<|.own<|ds++[p.1],p.2) else none
def BD {i:Nat}(hv:TEd K te m):TSd K (jL<|tBM K "list" iL (Q8 i)<|z8 te P1) (mB i m):=λG B0 H0 E F σ H D r F' S e q=>by
 obtain⟨⟨d,F1⟩,e1,e⟩:=bS9 e;obtain⟨ds,e4,e⟩:=bS9 e;split at e
 .rename_i hl;cases e;obtain⟨B,s,sn,I⟩:=S.ex;have eo:=Q6 e4;obtain⟨w,w1,a,xs,rfl,hB,hf,hx,hdx⟩:=I.loc i _ eo;refine⟨_,w1,.inl ⟨rfl,xs,SqL.of hx⟩,hv G B E F σ H _ d _ I e1 λu H2 k2 f2 h2=>?_⟩;have hd2:=hdx.same<|k2.hid I.fB;exact⟨a,xs,u,rfl,rfl,k2 a _ hx hf,by rw[hdx.length];exact hl,q σ _<|(S.step k2 f2).write s sn (I.step k2 f2) eo w1<|hd2.snoc h2⟩
 .cases e
def iR (K:Fg)(G:GF)(B:List Of)(H:Hp):List DV->List V->Prop
 | [],vs=>vs=[]
 | x::xs,vs=>∃v r,vs=v::r/\x.ow=false/\DVr K G B H x v/\iR K G B H xs r
def spD (K:Fg)(n:Nat)(f:List DV->M My):Sp:=λvs H Q _=>∃G B F args d F',vs.length=n/\(∀b∈m7 K G,b∈B)/\BOk H B/\FAt K G H F/\iR K G B H args vs/\f args F=some (d,F') /\
 ∀v H',Kp (m7 K G) H H'->FAt K G H' F'->c6 K (hid H' B) d v->Q v H'
def A1 (N:List Str)(args:List DV):DE:=args.map some++List.replicate (N.length-args.length) none
noncomputable def F0 (N:List Str)(m:DE->M Out):List DV->M My:=λargs F=>(m (A1 N args) F).bind λp=>match p.1 with
 | .rt d=>some (d,p.2)
 | .nx _=>some (.none,p.2)
 | _=>none
theorem iR.length {G:GF}{B:List Of}{H:Hp}:∀{args:List DV} {vs:List V},iR K G B H args vs->vs.length=args.length
 | [],vs,h=>by cases h;rfl
 | x::xs,vs,⟨v,r,e,_,_,h⟩=>by subst e;rw[IK,IK,h.length]
theorem iR.get {G:GF}{B:List Of}{H:Hp}:∀{args:List DV} {vs:List V} {i:Nat} {x:DV},iR K G B H args vs->args[i]? = some x->∃v,vs[i]? = some v/\x.ow=false/\DVr K G B H x v
 | [],vs,i,x,h,e=>by simp at e
 | y::xs,vs,i,x,⟨v,r,e1,h1,h2,h3⟩,e=>by
  subst e1;cases i with
  | zero=>simp at e;subst e;exact⟨v,rfl,h1,h2⟩
  | succ i=>simpa using h3.get (i:=i) (by simpa using e)
def bZ {N:List Str}{args:List DV}{i:Nat}{x:DV}(h:(A1 N args)[i]? = some (some x)):args[i]? = some x:=by
 unfold A1 at h;by_cases hi:i<args.length
 .rw[Ks (by simpa using hi),IU]at h;obtain⟨y,e1,e2⟩:=Ja.1 h;cases e2;exact e1
 .rw[Km (by simpa using hi),JO]at h;split at h <;> simp at h
def gL {G:GF}{B:List Of}{F:FS}{H:Hp}{N:List Str}{args:List DV}{vs:List V}(fB:∀b∈m7 K G,b∈B)(bk:BOk H B)(f:FAt K G H F)(h:iR K G B H args vs):Sit K G B H (A1 N args) F (L2.S5 N vs) H:=by
 have noown:∀(i:Nat) (ds:List My),(A1 N args)[i]? ≠ some (some<|DV.own ds):=λi ds e=>by obtain⟨v,_,n,_⟩:=h.get<|bZ e;cases n
 refine⟨⟨B,λ_ z=>z,λb hb=>.inl hb,⟨f,fB,bk,by simp[A1,L2.S5,h.length],λi x e=>?_⟩⟩,fB,Kp.refl,λi ds a e _=>absurd e<|noown i ds,λi j ds es a e _ _ _=>absurd e<|noown i ds,λi c ps a e _=>by obtain⟨v,_,n,_⟩:=h.get<|bZ e;cases n⟩;obtain⟨v,v1,_,v2⟩:=h.get<|bZ e;refine⟨v,?_,v2⟩;have hi:i<vs.length:=(IH.1 v1).1;unfold L2.S5;rw[Ks (by simpa using hi),IU,v1];rfl
variable {P:Oh}{w:Oi}{mg:Str->Option Oe}{base:Oq}
def w4 {x qual:Str}{f:Of}{fd:Om}{N ps:List Str}{k:Nat}{m:DE->M Out}(Fn:Fun K x qual st f fd)(S:FnScope N ps (defScope st))
  (hbody:∀(OP:Oe) (A:Oj) (outer:List Ov) (s:Og) (H:Hp) (E:XK),Room k (A.deeper<|envOfC qual (defScope st) s.heap.objs.size f OP) ->
   ∃ts,Sss K (O1 CX0 P w K mg base N qual (defScope st) f OP A outer s H E).nox (defBody st) ts m):FnOk P w K mg base CX0 (k+1) f fd ps (spD K ps.length<|F0 N m):=by
 refine Fn.ok S (λvs H Q E h=>?_) (λOP A outer s H vs Q E hr h=>?_)
 .obtain⟨G,B,F,args,d,F',hl,_⟩:=h;exact hl
 .obtain⟨G,B,F,args,d,F',hl,fB,bk,fa,ha,hm,q⟩:=h;obtain⟨ts,hts⟩:=hbody OP A outer s H E hr;refine⟨ts,hts.ps,?_⟩;obtain⟨⟨o,F1⟩,e1,e⟩:=bS9 hm;refine hts.ok G B H (A1 N args) F (L2.S5 N vs) H _ o F1 (gL fB bk fa ha) e1 ?_;cases o with
  | rt d'=>cases e;exact λv H' k1 f1 h1=>q v H' k1 f1 h1
  | nx E'=>cases e;exact λO' H' S'=>q _ H' S'.kp (by obtain⟨B,_,_,I⟩:=S'.ex;exact I.fd) c6.non
  | bk E'=>cases e
  | ct E'=>cases e
def TVd (K:Fg)(ta:TA)(m:DE->M (List DV)):Prop:=∀(G:GF) (B:List Of) (E:DE) (F:FS) (σ:St) (H:Hp) (Q:List V->Hp->Prop) (ds:List DV) (F':FS),SitE K G B E F σ H->m E F=some (ds,F') ->
 (∀vs H',Kp (m7 K G) H H'->FAt K G H' F'->iR K G B H' ds vs->Q vs H')->ta σ H Q
structure Evs (K:Fg) (X:Cx) (es:List Oo) (ta:TA) (m:DE->M (List DV)):Prop where
 pa:PA X es ta
 ok:TVd K ta m
def m9 :DE->M (List DV):=λ_ F=>some ([],F)
def vD (a:DE->M My)(r:DE->M (List DV)):DE->M (List DV):=λE F=>(a E F).bind λp=>(r E p.2).bind λq=>some (.dat p.1::q.1,q.2)
def vF (i:Nat)(r:DE->M (List DV)):DE->M (List DV):=λE F=>match E[i]? with
 | some (some .feed)=>(r E F).bind λq=>some (.feed::q.1,q.2)
 | _=>none
def g7 :Evs K X [] P1 m9:=⟨A8,λG B E F σ H Q ds F' I e q=>by cases e;exact q [] H Kp.refl I.fd rfl⟩
def i6 {ms:DE->M (List DV)}(ha:Ev K X e te m)(hr:Evs K X es tl ms)(hs:Ot (e::es) X.env=(false,eval e X.env)::Ot es X.env:=by rfl):Evs K X (e::es) (z8 te tl) (vD m ms) :=
 ⟨l8 ha.pe hr.pa hs,λG B E F σ H Q ds F' I e q=>by
  obtain⟨⟨x,F1⟩,e1,e⟩:=bS9 e;obtain⟨⟨ys,F2⟩,e2,e⟩:=bS9 e;cases e;walk_at "ke"
  refine hr.ok G B E F1 σ H1 _ ys _ (I.step k1 f1) e2 λvs H2 k2 f2 h2=>q _ H2 (k1.trans k2) f2 ⟨v,vs,rfl,rfl,h1.same<|k2.hid I.fB,h2⟩⟩
def N8 (i:Nat){x:Str}{ms:DE->M (List DV)}(hr:Evs K X es tl ms)(hN:X.N[i]? = some x:=by rfl)(hv:Vis X.env.scope x:=by first | exact Or.inl rfl | exact Or.inr (Or.inl rfl) | exact Or.inr<|Or.inr rfl)(hd:(x == ("__debug__":Str))=false:=by decide)
  (hcd:(x == ("__classdict__":Str))=false:=by decide) (hs:Ot (.Name x p::es) X.env=(false,eval (.Name x p) X.env)::Ot es X.env:=by rfl):Evs K X (.Name x p::es) (z8 (Q8 i) tl) (vF i ms) :=
 ⟨l8 (G5 hN hv hd hcd) hr.pa hs,λG B E F σ H Q ds F' I e q=>by
  unfold vF at e;split at e
  .rename_i hx;obtain⟨⟨ys,F2⟩,e2,e⟩:=bS9 e;cases e;obtain⟨v,v1,v2⟩:=I.loc i _ hx;refine⟨v,v1,hr.ok G B E F σ H _ ys _ I e2 λvs H2 k2 f2 h2=>q _ H2 k2 f2 ⟨v,vs,rfl,rfl,v2.step k2 I.fB,h2⟩⟩
  .cases e⟩
def i0 (f:List DV->M My)(ms:DE->M (List DV)):DE->M My:=λE F=>(ms E F).bind λp=>f p.1 p.2
def zi {n:Nat}{f:List DV->M My}{ta:TA}{ms:DE->M (List DV)}(h:TVd K ta ms)(hn:∀E F args F',ms E F=some (args,F')->args.length=n):TEd K (bJ (spD K n f) [] E0 ta) (i0 f ms):=λG B E F σ H Q d F' I e q=>by
 obtain⟨⟨args,F1⟩,e1,e⟩:=bS9 e;refine h G B E F σ H _ args F1 I e1 λvs H1 k1 f1 h1=>?_
 rw[Kb];exact⟨G,B,F1,args,d,F',by rw[h1.length];exact hn _ _ _ _ e1,I.fB,A6 I.bk k1 f1,f1,h1,e,λv H2 k2 f2 h2=>q v H2 (k1.trans k2) f2 h2⟩
def tW :∀E F args F',m9 E F=some (args,F')->args.length=0:=λE F args F' e=>by cases e;rfl
def xy {n:Nat}{ms:DE->M (List DV)}(h:∀E F args F',ms E F=some (args,F')->args.length=n):∀E F args F',vD m ms E F=some (args,F')->args.length=n+1:=λE F args F' e=>by obtain⟨⟨x,F1⟩,e1,e⟩:=bS9 e;obtain⟨⟨ys,F2⟩,e2,e⟩:=bS9 e;cases e;rw[IK,h _ _ _ _ e2]
def CW {n i:Nat}{ms:DE->M (List DV)}(h:∀E F args F',ms E F=some (args,F')->args.length=n):∀E F args F',vF i ms E F=some (args,F')->args.length=n+1:=λE F args F' e=>by
 unfold vF at e;split at e
 .obtain⟨⟨ys,F2⟩,e2,e⟩:=bS9 e;cases e;rw[IK,h _ _ _ _ e2]
 .cases e
def vQ {x:Str}{k n:Nat}{ps:List Str}{f:List DV->M My}{ms:DE->M (List DV)}(C:i3 X.prog X.w X.K X.mg X.base x k ps (spD K n f))(hr:Room k X.A)(ha:Evs K X (e::es) tl ms)(hn:∀E F args F',ms E F=some (args,F')->args.length=n)(hg:Gl X x:=by rfl)
  (hdb:(x == ("__debug__":Str))=false:=by decide) (he:Ot (e::es) X.env=(false,eval e X.env)::Ot es X.env:=by rfl) (hpl:(Ox pos<|Ot es X.env).any (·.1)=false:=by rfl) :
  Ev K X (.Call (.Name x p) (e::es) [] pos) (bJ (spD K n f) [] E0 tl) (i0 f ms):=⟨gh C hr hg ha.pa hdb he hpl,zi ha.ok hn⟩
end
end
section
section
variable {H:Hp}{d c:Of}{a l t:Int}
end
structure FdS where
 ns:List Int
 a:Int
 l:Int
 t:Int
class Fam where
 At:Of->Of->Hp->FdS->Prop
 some1:∀{d c H F},At d c H F->∃o,H d=some o/\NoT o
 some2:∀{d c H F},At d c H F->∃o,H c=some o/\NoT o
 congr:∀{d c H H' F},At d c H F->H' d=H d->H' c=H c->At d c H' F
 lam:List Str
 drawF:Int->FdS->Option (Int×FdS)
 draw_some:∀{m:Int} {F:FdS},0<m->m<1073741824->F.t<199999->∃r F',drawF m F=some (r,F')/\0<=r/\r<m/\F'.t=F.t+1
instance fdI [Fam]:Feeds where
 S:=FdS
 At:=Fam.At
 some1:=Fam.some1
 some2:=Fam.some2
 congr:=Fam.congr
 lam:=Fam.lam
def FdS.cell (F:FdS):Int:=if F.ns=[] then 11 else(F.ns[(F.a % (F.ns.length:Int)).toNat]?).getD 0
def A2 [Fam]:List DV->M My
 | [.feed,.dat<|.int m]=>λF=>(Fam.drawF m F).bind λp=>some (.int p.1,p.2)
 | _=>λ_=>none
def mn {x m:Int}(h:0<m):0<=x % m/\x % m<m:=⟨Nl _ (by omega),Mr _ h⟩
def vy {F:FdS}(h0:¬F.ns=[]):atI (F.ns.map V.int) (F.a % ((F.ns.map V.int).length:Int))=some (.int F.cell):=by
 have hp:0<F.ns.length:=Mf.2 h0;rw[Iz];obtain⟨q1,q2⟩:=mn (x:=F.a) (m:=(F.ns.length:Int)) (by omega);obtain⟨j,hj⟩:∃j:Nat,F.a % (F.ns.length:Int)=j:=⟨(F.a % (F.ns.length:Int)).toNat,by omega⟩;have hjl:j<F.ns.length:=by omega
 unfold FdS.cell;rw[II h0,hj];refine bO ?_;rw[IU];simp[hjl]
def FdS.cellL (F:FdS):Int:=if F.ns=[] then 0 else(F.ns[(F.a % (F.ns.length:Int)).toNat]?).getD 0
def FdS.fst (F:FdS):Int:=(F.cellL % 1000003+47*F.a*F.a+31*F.a+907)*40009 % 999961
def FdS.mixL (F:FdS):Int:=((F.fst*F.fst+38317*F.a+101) % 2097143)*48271 % 2147483629 / 7
def cW (m:Int)(F:FdS):Option (Int×FdS):=if 0<m/\m<1073741824/\F.t<199999 then
  some (if 0<F.l then(F.l % m,⟨F.ns,F.a,F.l / m,F.t+1⟩)
   else if 10 ^ 18<=F.cellL/\F.a<F.ns.length then(F.cellL % m,⟨F.ns,F.a+1,F.cellL / m,F.t+1⟩)
   else(F.mixL % m,⟨F.ns,F.a+1,F.l,F.t+1⟩))
 else none
def lU {m:Int}{F:FdS}(h0:0<m)(h1:m<1073741824)(h2:F.t<199999):∃r F',cW m F=some (r,F')/\0<=r/\r<m/\F'.t=F.t+1:=by
 have b:∀x:Int,0<=x % m/\x % m<m:=λx=>⟨Nl _ (by omega),Mr _ h0⟩
 unfold cW;rw[IE ⟨h0,h1,h2⟩];by_cases hl:0<F.l
 .rw[IE hl];exact⟨_,_,rfl,(b _).1,(b _).2,rfl⟩
 .rw[II hl];by_cases hc:10 ^ 18<=F.cellL/\F.a<F.ns.length
  .rw[IE hc];exact⟨_,_,rfl,(b _).1,(b _).2,rfl⟩
  .rw[II hc];exact⟨_,_,rfl,(b _).1,(b _).2,rfl⟩
def qU {F:FdS}(h0:¬F.ns=[]):atI (F.ns.map V.int) (F.a % ((F.ns.map V.int).length:Int))=some (.int F.cellL):=by
 have e:F.cellL=F.cell:=by unfold FdS.cellL FdS.cell;rw[II h0,II h0]
 rw[e];exact vy h0
@[reducible] def Cn (l:List Str):Fam where
 At:=λd c H F=>H d=some (.lst [.ref c,.int F.a,.int F.l])/\H c=some (.lst<|F.ns.map V.int)/\F.ns.length<=63/\0<=F.a/\F.a<=F.t/\d≠c
 some1:=λh=>⟨_,h.1,⟨λ_ z=>(by cases z),λ_ z=>(by cases z)⟩⟩
 some2:=λh=>⟨_,h.2.1,⟨λ_ z=>(by cases z),λ_ z=>(by cases z)⟩⟩
 lam:=l
 congr:=λh e1 e2=>⟨e1.trans h.1,e2.trans h.2.1,h.2.2⟩
 drawF:=cW
 draw_some:=lU
def kD (ns:List Int):FdS:=⟨ns,0,0,0⟩
end
section
def cC:Const->Option My
 | .int i=>some<|.int i
 | .bool b=>some<|.bool b
 | .none=>some .none
 | .str x=>some<|.str x
 | _=>none
def cI:Oo->Option Int
 | .Constant c _ _=>match c with
  | .int i=>some i
  | _=>none
 | _=>none
def cU:UnaryOp->Bool
 | .USub=>true
 | _=>false
def cP:Operator->Bool
 | .Pow=>true
 | _=>false
mutual
def aQ:Oo->Option My
 | .Constant c _ _=>cC c
 | .UnaryOp o e _=>if cU o=true then(cI e).map λi=>.int (-i) else none
 | .BinOp a o b _=>if cP o=true then(cI a).bind λi=>(cI b).bind λj=>if vL i j then some (.int<|i ^ j.toNat) else none else none
 | .Tuple es _ _=>(aj es).bind λds=>if ds.length<=10000 then some (.tuple ds) else none
 | .List es _=>(aj es).bind λds=>if ds.length<=10000 then some (.list ds) else none
 | _=>none
def aj:List Oo->Option (List My)
 | []=>some []
 | e::es=>(aQ e).bind λd=>(aj es).bind λds=>some (d::ds)
end
mutual
def O0:My->TE
 | .int i=>tC<|.int i
 | .bool b=>tC<|.bl b
 | .none=>tC .non
 | .str x=>tC<|.str x
 | .tuple ds=>mK<|au ds
 | .list ds=>vK<|au ds
 | .dict _=>λ_ _ _=>False
def au:List My->TA
 | []=>P1
 | d::ds=>z8 (O0 d)<|au ds
end
def iC {e:Oo}{i:Int}(h:cI e=some i):∃k p,e = .Constant (.int i) k p:=by
 unfold cI at h;split at h
 .split at h
  .cases h;exact⟨_,_,rfl⟩
  .cases h
 .cases h
def kR {e:Oo}{env:Ov}{d:My}(h:aQ e=some d):Ot (e::es) env=(false,eval e env)::Ot es env:=by
 unfold aQ at h;split at h
 .rfl
 .rfl
 .rfl
 .rfl
 .rfl
 .cases h
section
variable [Feeds]{K:Fg}{X:Cx}
def qz :∀n:Nat,(∀(e:Oo) (d:My),sizeOf e<n->aQ e=some d->Ev K X e (O0 d) (sC d))/\(∀(es:List Oo) (ds:List My),sizeOf es<n->aj es=some ds->Ea K X es (au ds) (λ_ F=>some (ds,F))):=by
 intro n;induction n with
 | zero=>exact⟨λ_ _ h=>absurd h<|LH _,λ_ _ h=>absurd h<|LH _⟩
 | succ n ih =>
  refine⟨λe d hn h=>?_,λes ds hn h=>?_⟩
  .unfold aQ at h;split at h
   .unfold cC at h;split at h
    .cases h;simp only[O0];exact f8
    .cases h;simp only[O0];exact O3
    .cases h;simp only[O0];exact zc
    .cases h;simp only[O0];exact M6
    .cases h
   .rename_i o e1 p1;split at h
    .rename_i ho;obtain⟨i,e2,h2⟩:=Ja.1 h;clear h;obtain⟨k,p,rfl⟩:=iC e2;have:o = .USub:=by cases o <;> first | rfl | (exact absurd ho<|by decide)
     subst this h2;simp only[O0];have hp:PE X (.UnaryOp .USub (.Constant (.int i) k p) p1) (tUn (rU λi=>.int (-i))<|tC<|.int i):=yc uq p0;exact⟨λOM s σ H Q I h=>hp OM s σ H Q I ⟨i,rfl,h⟩,λG B E F σ H Q d F' I e q=>by cases e;exact q _ H Kp.refl I.fd c6.int⟩
    .cases h
   .rename_i a o b p1;split at h
    .rename_i ho;obtain⟨i,e2,h2⟩:=bS9 h;clear h;obtain⟨j,e3,h⟩:=bS9 h2;clear h2;obtain⟨k,p,rfl⟩:=iC e2;obtain⟨k',p',rfl⟩:=iC e3;have:o = .Pow:=by cases o <;> first | rfl | (exact absurd ho<|by decide)
     subst this;split at h
     .rename_i hc;cases h;simp only[O0];have hp:PE X (.BinOp (.Constant (.int i) k p) .Pow (.Constant (.int j) k' p') p1) (tOp (rI vL λi j=>.int<|i ^ j.toNat) (tC<|.int i)<|tC<|.int j):=C3 qX p0 p0;exact⟨λOM s σ H Q I h=>hp OM s σ H Q I ⟨i,j,rfl,rfl,hc,h⟩,λG B E F σ H Q d F' I e q=>by cases e;exact q _ H Kp.refl I.fd c6.int⟩
     .cases h
    .cases h
   .rename_i es k p;obtain⟨ds,e1,h⟩:=bS9 h;split at h
    .rename_i hl;cases h;simp only[O0];have hh:=ih.2 es ds (by simp at hn;omega) e1;exact⟨eD hh.pa,λG B E F σ H Q d F' I e q=>by
      cases e;refine hh.ok G B E F σ H _ ds _ I rfl λvs H1 k1 f1 h1=>⟨?_,λp hp=>q _ _ (k1.trans<|Kp.upd hp) (f1.same<|k8.upd hp)<|R3 (A6 I.bk k1 f1) hp h1⟩
      rw[h1.length];exact IV hl (by rw[Jr];decide)⟩
    .cases h
   .rename_i es p;obtain⟨ds,e1,h⟩:=bS9 h;split at h
    .rename_i hl;cases h;simp only[O0];have hh:=ih.2 es ds (by simp at hn;omega) e1;exact⟨jl hh.pa,λG B E F σ H Q d F' I e q=>by
      cases e;refine hh.ok G B E F σ H _ ds _ I rfl λvs H1 k1 f1 h1=>⟨?_,λp hp=>q _ _ (k1.trans<|Kp.upd hp) (f1.same<|k8.upd hp)<|ai (A6 I.bk k1 f1) hp h1⟩
      rw[h1.length];exact IV hl (by rw[Jr];decide)⟩
    .cases h
   .cases h
  .cases es with
   | nil=>simp only[aj]at h;cases h;simp only[au];exact j7
   | cons e es =>
    simp only[aj]at h
    obtain⟨d,e1,h⟩:=bS9 h
    obtain⟨ds',e2,h⟩:=bS9 h
    cases h
    simp only[au]
    exact d8 (ih.1 e d (by simp at hn;omega) e1) (ih.2 es ds' (by simp at hn;omega) e2)<|kR e1
def sH (e:Oo)(d:My)(h:aQ e=some d):Ev K X e (O0 d) (sC d):=(qz<|sizeOf e+1).1 e d (Kd _) h
def dk (d:My){e:Oo}(h:aQ e=some d):Ev K X e (O0 d) (sC d):=sH e d h
end
end
end L3
namespace L3
open PySem
def bW:OD "len" = some (.builtin "len"):=by decide +kernel
def Z0:OD "sum" = some (.builtin "sum"):=by decide +kernel
def yN:OD "min" = some (.builtin "min"):=by decide +kernel
def lC:OD "abs" = some (.builtin "abs"):=by decide +kernel
def aw:OD "repr" = some (.builtin "repr"):=by decide +kernel
def T6:OD "isinstance" = some (.builtin "isinstance"):=by decide +kernel
def hU:OD "sorted" = some (.builtin "sorted"):=by decide +kernel
def jf:OD "max" = some (.builtin "max"):=by decide +kernel
def I0:OD "tuple" = some (.type "tuple"):=by decide +kernel
def wH:OD "list" = some (.type "list"):=by decide +kernel
def uh:OD "int" = some (.type "int"):=by decide +kernel
def wY:OD "bool" = some (.type "bool"):=by decide +kernel
end L3
namespace L3
open PySem PySem.Spec PyProof.Rows L2
variable {iter tg:Oo}{es:List Oo}{ta tc te:TE}{p2 pos pos' px:Pos}
section
section
variable [Feeds]{K:Fg}{X:Cx}{a b c e:Oo}{tb:TE}{ma mb mc m:DE->M My}{p:Pos}
noncomputable def sCh (f g:My->My->Option My)(a b c:DE->M My):DE->M My:=λE F=>(a E F).bind λp=>(b E p.2).bind λq=>(f p.1 q.1).bind λz=>(T4 z).bind λt=>if t then(c E q.2).bind λr=>(g q.1 r.1).bind λy=>some (y,r.2) else some (.bool false,q.2)
def vA {f g:My->My->Option My}(ha:TEs K ta ma)(hb:TEs K tb mb)(hc:TEs K tc mc):TEd K (kU (rD2 K f) (rD2 K g) ta tb tc) (sCh f g ma mb mc):=λG B E F σ H Q d F' I e q=>by
 obtain⟨⟨x,F1⟩,e1,e⟩:=bS9 e;obtain⟨⟨y,F2⟩,e2,e⟩:=bS9 e;obtain⟨z,e3,e⟩:=bS9 e;obtain⟨t,e4,eL⟩:=bS9 e;refine ha G B E F σ H _ x F1 I e1 λv H1 k1 f1 h1=>?_
 refine hb G B E F1 σ H1 _ y F2 (I.step k1 f1) e2 λw H2 k2 f2 h2=>⟨m7 K G,B,x,y,_,A6 I.bk (k1.trans k2) f2,h1.step k2 I.fB,h2,e3,λu H3 s hu=>?_⟩
 have:=N5 e4;subst this;simp only[c6]at hu;refine⟨t,hu,?_⟩;have k3:=(k1.trans k2).trans<|Kp.same s;cases t with
 | false =>rw[II<|by decide]at eL ⊢;cases eL;exact q _ H3 k3 (f2.same s) c6.bl
 | true =>rw[IE rfl]at eL ⊢;obtain⟨⟨r,F3⟩,e5,eM⟩:=bS9 eL;obtain⟨z2,e6,eN⟩:=bS9 eM;cases eN;refine hc G B E F2 σ H3 _ r F3 (I.step k3<|f2.same s) e5 λw' H4 k4 f4 h4=>⟨m7 K G,B,y,r,_,A6 I.bk (k3.trans k4) f4,(h2.step (Kp.same s) I.fB).step k4 I.fB,h4,e6,λu5 H5 s5 hu5=>q u5 H5 ((k3.trans k4).trans<|Kp.same s5) (f4.same s5) hu5⟩
def uI {op op':CmpOp}{f g:My->My->Option My}(ho:OpR X (compareOp op) (rD2 K f))(ho':OpR X (compareOp op') (rD2 K g))(ha:Eb K X a ta ma)(hb:Eb K X b tb mb)(hc:Eb K X c tc mc)
  (hm:lastMarks [op,op'] [b,c]=false:=by with_unfolding_all rfl):Et K X (.Compare a [op,op'] [b,c] pos) (oq<|kU (rD2 K f) (rD2 K g) ta tb tc) (uB<|sCh f g ma mb mc) :=
 ⟨rF ho ho' ha.pe hb.pe hc.pe hm,λG B E F σ H Q d F' I e q=>by
  obtain⟨⟨x,F1⟩,e1,e⟩:=bS9 e;obtain⟨t,e2,e⟩:=bS9 e;cases e;refine vA ha.ok hb.ok hc.ok G B E F σ H _ x F1 I e1 λv H1 k1 f1 h1=>?_
  have:=N5 e2;simp only at this;subst this;simp only[c6]at h1;exact⟨_,h1,q H1 k1 f1⟩⟩
def mG (i:Nat){x:Str}{ap cp:Pos}(hK:X.K=K)(hv:Ev K X e te m)(hN:X.N[i]? = some x:=by rfl)(hvis:Vis X.env.scope x:=by first | exact Or.inl rfl | exact Or.inr (Or.inl rfl) | exact Or.inr<|Or.inr rfl)(hd:(x == ("__debug__":Str))=false:=by decide)(hcd:(x == ("__classdict__":Str))=false:=by decide)
  (hbase:OC (.Name x px) "append" X.env (eval (.Name x px) X.env)=eval (.Name x px) X.env:=by rfl)
  (hfew:((Ox cp<|Ot [e] X.env).all (λx=>!x.1)&&(OJ cp<|OL [] X.env).all (λx=>x.1.isSome)
   && decide ([e].length+([]:List Oy).length+(if ([]:List Oy).isEmpty then 0 else 1)<30))=true:=by rfl)
  (hline:(ap.endLine == cp.line)=true:=by rfl) (hst:Ot [e] X.env=(false,eval e X.env)::Ot [] X.env:=by rfl) (hplain:(Ox cp<|Ot [] X.env).any (·.1)=false:=by rfl)
  (hs:OB (.Call (.Attribute (.Name x px) "append" ap) [e] [] cp) none pos.line X.env=pure false:=by rfl) :
  Ss K X (.Expr (.Call (.Attribute (.Name x px) "append" ap) [e] [] cp) pos) (jL<|tBM K "list" iL (Q8 i)<|z8 te P1) (mB i m):=by subst hK;exact⟨oE (xI PySem.F.plainAttrs_list PySem.F.slot_list_append PySem.F.type_list_append av (G5 hN hvis hd hcd) (l8 hv.pe A8 hst) hbase hfew hline hst hplain) hs,BD hv.ok⟩
end
end
section
section
variable [Feeds]{K:Fg}{X:Cx}{a b c e:Oo}{tb:TE}{ma mb mc m:DE->M My}{p:Pos}{P:Oh}{w:Oi}{mg:Str->Option Oe}{base:Oq}
def GD (K:Fg)(mg:Str->Option Oe)(x:Str)(d:My):Prop:=∃a,mg x=some (.ref a)/\∀H,c6 K H d<|.ref a
def BR {x:Str}{d:My}(h:GD K X.mg x d)(hg:Gl X x:=by rfl)(hd:(x == ("__debug__":Str))=false:=by decide):Ev K X (.Name x p) (tC<|.ref h.choose) (sC d) :=
 ⟨iT hg h.choose_spec.1 rfl hd,λG B E F σ H Q d F' I e q=>by cases e;exact q _ H Kp.refl I.fd<|h.choose_spec.2 _⟩
end
end
variable {prog:Oh}{h':Oq}{OM:List (Of×Ou)}
section
section
variable {w:Oi}{A:Oj}{E:Oe->Og->Prop}{s:Og}
def bV {it l:Of}{i:Nat}{items}{x:Oe}{Q:Oe->Og->Prop}(hit:s.heap.IsTupleIter it l i)
  (hl:s.heap.IsTuple l items) (hx:items[i]? = some x)
  (hQ:∀h',h'.IsTupleIter it l (i+1)->Oq.SameBut it s.heap h'->Q x { s with heap:=h' }) :
  Oz (model prog w) A (Builtin.SmallTypes.nextOf<|.ref it) Q E s:=by
 obtain⟨o,ho,hc,hd⟩:=id hit;obtain⟨ol,hol,_,nl,hdl⟩:=hl;unfold Builtin.SmallTypes.nextOf;refine Iw (KC (name:=Str.ofString "__next__") hit.typeIs KH
  (JT KH hit.typeIs MP ?_<|MI _))
 show Oz _ _ (field (.ref it) 0 >>= _) _ _ s;refine Iw<|Kk ho hd (x:=.ref l) rfl ?_;show Oz _ _ (if (Oe.ref l == Oe.none)=true then _ else _) _ _ s;rw[II<|show ¬((Oe.ref l == Oe.none)=true) from IZ];show Oz _ _ (field (.ref it) 1 >>= _) _ _ s;refine Iw<|Kk ho hd (x:=.int i 0) rfl ?_;show Oz _ _ (seqItems? (.ref l) >>= _) _ _ s;refine Iw<|KY hol hdl ?_;simp only[Jx,hx];refine Iw (Ls ho hd (by simp)<|Iy ⟨x,rfl,Iy<|hQ _ ?_<|Ly ..⟩);exact⟨_,JD _ ho<|Na<|Lf hd _,(Ou.cls_mapFields ..).trans hc,by rw[Lf hd];simp[rawInt]⟩
def cL {it l:Of}{i:Nat}{items}{Q:Oe->Og->Prop}(hh:A.handled=none)
  (hit:s.heap.IsTupleIter it l i) (hl:s.heap.IsTuple l items) (hx:items[i]? = none)
  (hE:∀h' e,Oq.ExtBut it s.heap h'->(∃o,h'.get? e=some o/\o.cls = .type "StopIteration")->E (.ref e) { s with heap:=h' }) :
  Oz (model prog w) A (Builtin.SmallTypes.nextOf<|.ref it) Q E s:=by
 obtain⟨o,ho,hc,hd⟩:=id hit;obtain⟨ol,hol,_,nl,hdl⟩:=hl;unfold Builtin.SmallTypes.nextOf;refine Iw (KC (name:=Str.ofString "__next__") hit.typeIs KH
  (JT KH hit.typeIs MP ?_<|MI _))
 show Oz _ _ (field (.ref it) 0 >>= _) _ _ s;refine Iw<|Kk ho hd (x:=.ref l) rfl ?_;show Oz _ _ (if (Oe.ref l == Oe.none)=true then _ else _) _ _ s;rw[II<|show ¬((Oe.ref l == Oe.none)=true) from IZ];show Oz _ _ (field (.ref it) 1 >>= _) _ _ s;refine Iw<|Kk ho hd (x:=.int i 0) rfl ?_;show Oz _ _ (seqItems? (.ref l) >>= _) _ _ s;refine Iw<|KY hol hdl ?_;simp only[Jx,hx];refine Iw (KN<|Iw<|Ls ho hd (by simp) ?_);show Oz _ _ (newExc (.type "StopIteration") [] >>= _) _ _ _;refine Iw ?_;simp only[newExc,newTuple];refine Iw (JP ?_<|by size_fits);refine Iw (m:=firstArgMember _ _) (Nu (a:=Oe.none) (by first | rfl | (simp only[firstArgMember];rfl)) ?_);refine JP ?_ (by size_fits);simp only[raiseNew];refine Iw<|wpAny_handled ?_;first | rw[show A.in1.handled=none from hh] | rw[hh]
 refine Iw<|Iy<|wpAny_throw ?_;exact hE _ _ (((Ly ..).extBut.push _).push _) ⟨_,Jc _ rfl,rfl⟩
end
def X4 (b:Bool)(h:Oq)(it l:Of)(i:Nat):Prop:=if b then h.IsListIter it l i else h.IsTupleIter it l i
def dm (b:Bool)(h:Oq)(l:Of)(items:Array Oe):Prop:=if b then h.IsList l items else h.IsTuple l items
def X4.at {b:Bool}{h:Oq}{it l:Of}{i:Nat}(x:X4 b h it l i)(k:∀o,h.get? it=some o->h'.get? it=some o):X4 b h' it l i:=by
 cases b
 .exact Oq.IsTupleIter.at (show h.IsTupleIter it l i from x) k
 .exact Oq.IsListIter.at (show h.IsListIter it l i from x) k
def dm.at {b:Bool}{h:Oq}{l:Of}{items:Array Oe}(x:dm b h l items)(k:∀o,h.get? l=some o->h'.get? l=some o):dm b h' l items:=by
 cases b
 .obtain⟨o,ho,r⟩:=(show h.IsTuple l items from x);exact⟨o,k o ho,r⟩
 .exact Oq.IsList.at (show h.IsList l items from x) k
def X4.obj {b:Bool}{h:Oq}{it l:Of}{i:Nat}(x:X4 b h it l i):∃o,h.get? it=some o/\∀v,o.data ≠ .cell v:=by
 cases b
 .obtain⟨o,e,c,d⟩:=(show h.IsTupleIter it l i from x);exact⟨o,e,λv z=>by rw[d]at z;cases z⟩
 .obtain⟨o,e,c,d⟩:=(show h.IsListIter it l i from x);exact⟨o,e,λv z=>by rw[d]at z;cases z⟩
def X6 {w:Oi}{A:Oj}(b:Bool)(hh:A.handled=none)(it l:Of)(hne:l≠it)(items:Array Oe) :
  Draws prog w A it [it,l] items.size (λi v=>items[i]? = some v) (λi h=>X4 b h it l i/\dm b h l items) where
 live:=λ_ _ st=>let ⟨o,ho,_⟩:=st.1.obj;⟨o,ho⟩
 frame:=λ_ _ _ st hk=>⟨st.1.at λo e=>hk it (by simp) o e,st.2.at λo e=>hk l (by simp) o e⟩
 item:=λi s Q E hi st hQ=>by
  cases b
  .refine bV (show s.heap.IsTupleIter it l i from st.1) (show s.heap.IsTuple l items from st.2) (x:=items[i]) (by simp[hi]) λh' hit' hs'=>?_
   exact hQ _ h' s.toks (by simp[hi]) ⟨hit',st.2.at λo e=>hs'.extBut l o hne e⟩ hs'
  .refine wpAny_nextOf_list_item (show s.heap.IsListIter it l i from st.1) (show s.heap.IsList l items from st.2) (x:=items[i]) (by simp[hi]) λh' hit' hs'=>?_
   exact hQ _ h' s.toks (by simp[hi]) ⟨hit',st.2.at λo e=>hs'.extBut l o hne e⟩ hs'
 done:=λs Q E st hE=>by
  cases b
  .exact cL hh (show s.heap.IsTupleIter it l items.size from st.1) (show s.heap.IsTuple l items from st.2) (by simp) hE
  .exact wpAny_nextOf_list_end hh (show s.heap.IsListIter it l items.size from st.1) (show s.heap.IsList l items from st.2) (by simp) hE
open AutoSeq1 (wpAny_loadPart') in
def Y8 (l:Of)(items:Array Oe)(n:Nat)(dct:Option Of)(sl:Array (Option Oe)) :
  Meets (Builtin.«enumerate.__new__» ⟨[.type "enumerate",.ref l],[]⟩) (λ_ R s=>s.heap.get? l=some { cls:=.type "tuple",dict:=dct,data:=.seq items n,slots:=sl } /\
   R (.ok<|.ret<|.ref (s.heap.push { cls:=.type "tuple_iterator",data:=.fields #[.ref l,.int 0 0] }).objs.size)
    { s with heap:=(s.heap.push { cls:=.type "tuple_iterator",data:=.fields #[.ref l,.int 0 0] }).push { cls:=.type "enumerate",data:=.fields #[.none,.bool false,.ref s.heap.objs.size,rawInt 0,.none,.none] } }) :=
 .of_wp λprog w A R s h=>by
  obtain⟨hp,g,d,tk,os⟩:=s;obtain⟨hl,h⟩:=h;have hsub:=sub_enumerate;have hL:Oq.IsTuple (Og.heap ⟨hp,g,d,tk,os⟩) l items:=⟨_,hl,rfl,n,rfl⟩;wp_walk using wpAny_loadPart' hl;refine wpAny_stack_any λst=>Iy ?_
  split
  .rename_i c _ _ _ _ _;cases(c == Oe.type "enumerate")
   .wp_walk using wpAny_loadPart' hl,Le hL;exact⟨_,rfl,h⟩
   .wp_walk using wpAny_loadPart' hl,Le hL;exact⟨_,rfl,h⟩
  .wp_walk using wpAny_loadPart' hl,Le hL;exact⟨_,rfl,h⟩
section
variable {w:Oi}{A:Oj}{E:Oe->Og->Prop}{s:Og}
def X8 {l:Of}{items:Array Oe}{Q:Oe->Og->Prop}(hL:s.heap.IsTuple l items)
  (h:∀h',IsEnum h' (s.heap.objs.size+1) s.heap.objs.size 0 .none->h'.IsTupleIter s.heap.objs.size l 0->h'.objs.size=s.heap.objs.size+2 ->
   (∀b o,s.heap.get? b=some o->h'.get? b=some o)->Q (.ref<|s.heap.objs.size+1) { s with heap:=h' }) :
  Oz (model prog w) A (call (.type "enumerate") [.ref l]) Q E s:=by
 obtain⟨⟨c,dct,dt,sl⟩,hl,hc,n,hd⟩:=hL;replace hc:c = .type "tuple":=hc;replace hd:dt = .seq items n:=hd;subst hc hd;refine callType_new PySem.F.called_enumerate (by decide) (PySem.F.typeCall_enumerate_1 _) (PySem.F.newCall_enumerate_1 _) (λobj=>PySem.F.args_object_init_2 obj _) PySem.F.entry_enumerate_new
  (Y8 l items n dct sl) ⟨hl,?_⟩
 have hz:(s.heap.push { cls:=.type "tuple_iterator",data:=.fields #[.ref l,.int 0 0] }).objs.size=s.heap.objs.size+1:=Kj ..;show _/\_;rw[hz];have he:IsEnum ((s.heap.push { cls:=.type "tuple_iterator",data:=.fields #[.ref l,.int 0 0] }).push
   { cls:=.type "enumerate",data:=.fields #[.none,.bool false,.ref s.heap.objs.size,rawInt 0,.none,.none] }) (s.heap.objs.size+1) s.heap.objs.size 0 .none:=by
  have:=Jc (s.heap.push { cls:=.type "tuple_iterator",data:=.fields #[.ref l,.int 0 0] })
   (o:={ cls:=.type "enumerate",data:=.fields #[.none,.bool false,.ref s.heap.objs.size,rawInt 0,.none,.none] }) rfl
  rw[hz]at this;exact this
 refine⟨⟨_,he,rfl⟩,h _ he ⟨_,ID _<|Jc _ rfl,rfl,rfl⟩ (by rw[Kj,hz]) λb o x=>ID _<|ID _ x⟩
def gN {b:Bool}{l:Of}{items:Array Oe}{Q:Oe->Og->Prop}(hL:dm b s.heap l items)
  (h:∀h',IsEnum h' (s.heap.objs.size+1) s.heap.objs.size 0 .none->X4 b h' s.heap.objs.size l 0->h'.objs.size=s.heap.objs.size+2 ->
   (∀b o,s.heap.get? b=some o->h'.get? b=some o)->Q (.ref<|s.heap.objs.size+1) { s with heap:=h' }) :
  Oz (model prog w) A (call (.type "enumerate") [.ref l]) Q E s:=by
 cases b
 .exact X8 (show s.heap.IsTuple l items from hL) h
 .exact call_enumerate_list (show s.heap.IsList l items from hL) h
end
def SqA (b:Bool)(K:Fg)(H:Hp)(a:Of)(xs:List V):Prop:=if b then SqL K H a xs else SqT K H a xs
def Ite (b:Bool)(K:Fg)(a:Of):It :=
 ⟨λi H=>∃xs x,SqA b K H a xs/\xs[i]? = some x,λi H v H'=>∃t x,v = .ref t/\H t=none/\H'=upd H t (.tup [.int i,x])/\∀xs,SqA b K H a xs->xs[i]? = some x,λi H=>∃xs,SqA b K H a xs/\xs.length=i⟩
def SqA.get {b:Bool}{X:Cx}{σ:St}{H:Hp}{s:Og}{a:Of}{xs:List V}(I:Inv X OM σ H s)(h:SqA b X.K H a xs):∃its:List Oe,n5 xs its/\dm b s.heap a its.toArray:=by
 cases b
 .obtain⟨its,rv,p,_⟩:=I.tuple (show SqT X.K H a xs from h);exact⟨its,rv,p⟩
 .obtain⟨its,rv,p,_⟩:=I.list (show SqL X.K H a xs from h);exact⟨its,rv,p.isList⟩
def SqA.inj {b:Bool}{X:Cx}{σ:St}{H:Hp}{s:Og}{a:Of}{xs ys:List V}(I:Inv X OM σ H s)(h:SqA b X.K H a xs)(h':SqA b X.K H a ys):ys=xs:=by
 cases b
 .exact I.tuple_inj (show SqT X.K H a ys from h') (show SqT X.K H a xs from h)
 .exact I.list_inj (show SqL X.K H a ys from h') (show SqL X.K H a xs from h)
end
section
def uJ {h:Oq}{c:Of}{o o':Ou}(hl:c<h.objs.size)(e:(h.push o).get? c=some o'):h.get? c=some o':=by obtain⟨e1,e2⟩:=NB.1 e;refine NB.2 ⟨?_,e2⟩;have:=IX hl;cases h;simpa [Oq.push,Array.getElem?_push,this] using e1
def dX {X:Cx}{σ:St}{H:Hp}{s:Og}{t':Nat}{fp:List Of}(I:Inv X OM σ H s)(hf:∀b∈fp,bq X OM H b)(k:∀b o,b ∉ fp->s.heap.get? b=some o->h'.get? b=some o):Inv X OM σ H { s with heap:=h',toks:=t' }:=by
 have nit:∀b u,H b=some u->b ∉ fp:=λb u e z=>by rw[(hf b z).1]at e;cases e
 refine I.step (g':=s.gens) (d':=s.drawn) (ch:=fp) (λb hb=>?_) (λb o _ _ hc e _=>k b o hc e) (λb o _ _ hc e _=>⟨o.slots,k b o hc e⟩) (λ_ _ _ _ n=>n)
  (λb o hc e=>⟨o,k b o hc e⟩) (λ_ _ e=>e) (λ_ _ _ e=>e) (λb ps e=>⟨#[],by rw[e];simp⟩) (λm hm=>?_) (λb u e=>?_) I.bare
 .obtain⟨_,f1,f2,f3,f4,f5⟩:=hf b hb;exact⟨f3,f1,f4,f5⟩
 .obtain⟨o,es,ep,ho,r⟩:=hm;exact⟨o,es,ep,k _ o (λz=>(hf _ z).2.1 rfl) ho,r⟩
 .refine(I.hok b u e).stay (λc v hc q=>k c v ?_ q) (λ_ q=>q) λ_ _ q=>q
  rcases hc with z | z
  .rw[z];exact nit b u e
  .exact nit c _ z
def pP {P:Oh}{w:Oi}{K:Fg}{k:Nat}(b:Bool)(a e it:Of):Turn P w K (.Tuple es k pos) (Ite b K a) [e,it] e (λi h=>(e≠it/\a≠e/\a≠it)/\(∃old,IsEnum h e it i old)/\X4 b h it a i) where
 mem:=by simp
 obj:=λi h st c hb=>by
  obtain⟨_,⟨old,he⟩,hit⟩:=st;rcases IP.1 hb with rfl | hb
  .exact⟨_,he,λv z=>by cases(show Data.fields _=Data.cell v from z)⟩
  .rw[Jy.1 hb];exact hit.obj
 keep:=λi h h' st kk=>by obtain⟨n,⟨old,he⟩,hit⟩:=st;exact⟨n,⟨old,kk e (by simp) _ he⟩,hit.at λo z=>kk it (by simp) o z⟩
 item:=by
  walk_at "kf";obtain⟨⟨n1,n2,n3⟩,⟨old,he⟩,hit⟩:=st;obtain⟨xs,x,hq,hx⟩:=hg;obtain⟨its,rv,p⟩:=SqA.get I hq;obtain⟨u,hu,ru⟩:=rv.get hx;have hlt:i<its.toArray.size:=by have:=(IH.1 hu).1;simpa using this
  have hel:e<s.heap.objs.size:=IF he;have hil:it<s.heap.objs.size:=by obtain⟨o,z,_⟩:=hit.obj;exact IF z
  refine wpAny_pyNext_enum_itemD (X6 b (A:=X.A.in1) (I.ok.hd hc) it a n3 its.toArray) he ⟨hit,p⟩ hlt n1 (by simp[n1,JC n2]) λy h' tk hy ho hst' ht hz hk=>?_
  have hyu:y=u:=by have hy:its.toArray[i]? = some y:=hy;rw[List.getElem?_toArray,hu]at hy;exact(IS hy).symm
  subst hyu;refine⟨_,rfl,wpAny_letOwnedTupleGo_enum ho λh2 he2 hs2=>?_⟩;have hs2:Oq.SameBut e h' h2:=hs2;have hf0:H s.heap.objs.size=none:=I.hok.fresh<|IT _;have I1:Inv X OM σ (upd H s.heap.objs.size<|.tup [.int i,x]) { s with heap:=s.heap.push { cls:=.type "tuple",data:=.seq #[.int i tk,y] },toks:=tk }:=by refine I.laid (t':=tk) (λb u e=>ID _ e) (IT _) ?_;exact⟨IV (show 2<=10000 by decide) (by rw[Jr];decide),[.int i tk,y],.cons ⟨tk,rfl⟩<|.cons ru .nil,⟨_,Jc _ rfl,rfl,_,rfl⟩⟩
  have hfp:∀c∈[e,it],bq X OM (upd H s.heap.objs.size<|.tup [.int i,x]) c:=λc hcm=>by
   obtain⟨f0,f⟩:=hf c hcm;have hne:c≠s.heap.objs.size:=by
    rcases IP.1 hcm with rfl | hcm
    .exact IX hel
    .rw[Jy.1 hcm];exact IX hil
   exact⟨by rw[h8 hne];exact f0,f⟩
  have hT2:h2.get? s.heap.objs.size=some { cls:=.type "tuple",data:=.seq #[.int i tk,y] }:=hs2.extBut _ _ (Jt hel) ht;have I2:Inv X OM σ (upd H s.heap.objs.size<|.tup [.int i,x]) { s with heap:=h2,toks:=tk+1 }:=by
   refine dX (s:={ s with heap:=s.heap.push { cls:=.type "tuple",data:=.seq #[.int i tk,y] },toks:=tk }) I1 hfp λc o hcn ec=>?_
   have c1:c≠e:=λz=>hcn (by simp[z])
   have c2:c≠it:=λz=>hcn (by simp[z])
   by_cases hcT:c=s.heap.objs.size
   .subst hcT;have:(s.heap.push { cls:=.type "tuple",data:=.seq #[.int i tk,y] }).get? s.heap.objs.size=some o:=ec;rw[Jc _ rfl]at this;rw[hT2];exact this
   .have hlc:c<s.heap.objs.size:=by have h1:c<(s.heap.push { cls:=.type "tuple",data:=.seq #[.int i tk,y] }).objs.size:=IF ec;rw[Kj]at h1;exact Nat.lt_of_le_of_ne (Nat.le_of_lt_succ h1) hcT
    have ec':s.heap.get? c=some o:=by have ec:(s.heap.push { cls:=.type "tuple",data:=.seq #[.int i tk,y] }).get? c=some o:=ec;exact uJ hlc ec
    exact hs2.extBut c o c1<|hk c o c1 c2 ec'
  refine⟨.ref s.heap.objs.size,upd H s.heap.objs.size<|.tup [.int i,x],I2,rfl,⟨_,x,rfl,hf0,rfl,λys hy=>by rw[SqA.inj I hq hy];exact hx⟩,⟨⟨n1,n2,n3⟩,⟨y,by simpa using he2⟩,hst'.1.at λo z=>hs2.extBut it o (JC n1) z⟩,λc hcm=>(hfp c hcm).1⟩
 done:=by
  walk_at "kf";obtain⟨⟨n1,n2,n3⟩,⟨old,he⟩,hit⟩:=st;obtain⟨xs,hq,hx⟩:=hg;obtain⟨its,rv,p⟩:=SqA.get I hq;have hl:its.toArray.size=i:=by rw[IW,<-rv.length];exact hx
  refine wpAny_pyNext_enum_endD (X6 b (A:=X.A.in1) (I.ok.hd hc) it a n3 its.toArray) he (by rw[hl];exact⟨hit,p⟩) λh' eb=>⟨rfl,dX (t':=s.toks) I hf λc o hc ec=>eb c o (λz=>hc<|by simp[z]) ec⟩
 self:=λ_ _ _ _ _ st h=>by obtain⟨_,⟨old,he⟩,_⟩:=st;exact wpAny_pyIter_enum he h
section
variable [Feeds]{K:Fg}{X:Cx}{e:Oo}{m:DE->M My}{p tp:Pos}{tk:Nat}
def O5:Nat->List My->List My
 | _,[]=>[]
 | k,d::r=>.tuple [.int k,d]::O5 (k+1) r
theorem gT:∀{ds:List My} {k:Nat},(O5 k ds).length=ds.length
 | [],k=>rfl
 | d::r,k=>by rw[O5,IK,IK,gT]
theorem gR:∀{ds:List My} {k i:Nat} {z:My},(O5 k ds)[i]? = some z->∃d,ds[i]? = some d/\z = .tuple [.int<|(k+i:Nat),d]
 | [],k,i,z,h=>by simp[O5]at h
 | d::r,k,0,z,h=>by simp[O5]at h;exact⟨d,by simp,by simp[h]⟩
 | d::r,k,i+1,z,h=>by rw[O5,KW]at h;obtain⟨d',h1,h2⟩:=gR h;refine⟨d',by simpa using h1,?_⟩;rw[h2,show k+1+i=k+(i+1) by omega]
def jV (a:DE->M My):DE->M (List My):=λE F=>(a E F).bind λp=>(cR p.1).bind λds=>some (O5 0 ds,p.2)
def yb (K:Fg)(tl:TA):TI:=λσ H R=>tl σ H λxs H1=>∃a,xs=[.ref a]/\∃b ys,SqA b K H1 a ys/\R (Ite b K a) H1
def wb {l:Oo}{tl:TA}(hK:X.K=K)(hg:Gl X "enumerate")(hm:X.mg "enumerate" = none)(ha:PA X [l] tl)(hs:Ot [l] X.env=[(false,eval l X.env)]:=by rfl):PI X (.Tuple es tk tp) (.Call (.Name "enumerate" p) [l] [] pos) (yb K tl):=by
 subst hK;intro OM s σ H R I h;refine Call_ (aT I hg hm boot_enumerate<|Lc (thn (ha pos OM s σ H _ I h) λus s1 ⟨vs,H1,I1,r1,q1⟩=>?_) hs rfl);obtain⟨a,e,b,ys,hq,q⟩:=q1;subst e;cases r1 with
 | cons r rr =>
  cases rr;cases r;obtain⟨its,rv,p⟩:=SqA.get I1 hq;refine gN p λh' he hit hz hk=>?_
  have I2:Inv X OM σ H1 { s1 with heap:=h' }:=I1.kept (t':=s1.toks) hk;have hal:a<s1.heap.objs.size:=by
   cases b
   .obtain⟨o,z,_⟩:=(show s1.heap.IsTuple a its.toArray from p);exact IF z
   .obtain⟨o,z,_⟩:=(show s1.heap.IsList a its.toArray from p);exact IF z
  refine wpAny_pyIter_enum he ⟨s1.heap.objs.size+1,[s1.heap.objs.size+1,s1.heap.objs.size],_,_,H1,rfl,I2,pP b a _ _,⟨⟨Nat.succ_ne_self _,IX<|Kh hal,IX hal⟩,⟨_,he⟩,hit⟩,λc hc=>?_,q⟩;have hle:s1.heap.objs.size<=c:=by
   rcases IP.1 hc with rfl | hc
   .exact Md _
   .rw[Jy.1 hc];exact IT _
  exact I1.fpOk hle<|I1.hok.fresh hle
def nF {P:Hp->List Of->Prop}{b:Bool}{a:Of}{ds:List My}{xs:List V}(h:∀H B,P H B->SqA b K H a xs/\c5 K (hid H B) ds xs):cA K P (Ite b K a) (O5 0 ds):=λH B hp=>by obtain⟨h1,h2⟩:=h H B hp;refine⟨λi d e=>?_,⟨xs,h1,by rw[gT,h2.length]⟩⟩;obtain⟨d',hd',rfl⟩:=gR e;obtain⟨v,e1,e2⟩:=c5.item h2 hd';refine⟨⟨xs,v,h1,e1⟩,λx H2 y=>?_⟩;obtain⟨t,x',rfl,ht,rfl,y⟩:=y;have:=y xs h1;rw[e1]at this;cases this;refine⟨k8.upd ht,λbk=>?_⟩;rw[Jv];exact R3 bk ht ⟨_,_,rfl,c6.int,_,_,rfl,e2,rfl⟩
def oS (h:Ev K X e te m)(hm:X.mg "enumerate" = none)(hK:X.K=K:=by rfl)(hg:Gl X "enumerate":=by rfl)(hs:Ot [e] X.env=[(false,eval e X.env)]:=by rfl):Ei K X (.Tuple es tk tp) (.Call (.Name "enumerate" p) [e] [] pos) (yb K<|z8 te P1) (jV m):=⟨wb hK hg hm (l8 h.pe A8 hs) hs,λG B E F σ H R ds F' I e q=>by
 obtain⟨⟨y,F1⟩,e1,e⟩:=bS9 e;obtain⟨z,e2,e⟩:=bS9 e;cases e;refine h.ok G B E F σ H _ y F1 I e1 λv H1 k1 f1 h1=>?_
 cases y with
 | list ys =>cases e2;simp only[c6]at h1;obtain⟨a,xs,rfl,ha,hd⟩:=h1;exact⟨a,rfl,true,xs,SqL.of<|g6 _ _ ha,q _ H1 k1 f1<|nF λH2 B2 s=>⟨SqL.of<|g6 _ _<|s _ _ ha,hd.same s⟩⟩
 | tuple ys =>cases e2;simp only[c6]at h1;obtain⟨a,xs,rfl,ha,hd⟩:=h1;exact⟨a,rfl,false,xs,ha.same g6,q _ H1 k1 f1<|nF λH2 B2 s=>⟨(ha.same s).same g6,hd.same s⟩⟩
 | _=>cases e2⟩
end
end
section
section
variable [Feeds]{K:Fg}{X:Cx}{a b c e:Oo}{tb:TE}{ma mb mc m:DE->M My}{p:Pos}{t u:TS}{mt mu:DE->M Out}
noncomputable def vN (a b:DE->M My):DE->M (List My):=λE F=>(a E F).bind λp=>(b E p.2).bind λq=>match p.1,q.1 with
 | .list xs,.int k=>if -(2 ^ 62)<=k/\k<2 ^ 62/\xs.length*k.toNat<=Os then some ((List.replicate k.toNat xs).flatten,q.2) else none
 | _,_=>none
def zP (ha:Eb K X a ta ma)(hb:Eb K X b tb mb):Ef K X (.BinOp a .Mult b pos) (tOp BW ta tb) (vN ma mb):=⟨C3 qC ha.pe hb.pe,λG B E F σ H Q d F' I e q=>by
 obtain⟨⟨x,F1⟩,e1,e⟩:=bS9 e;obtain⟨⟨y,F2⟩,e2,e⟩:=bS9 e;walk_at "ke"
 refine hb.ok G B E F1 σ H1 _ y F2 (I.step k1 f1) e2 λw H2 k2 f2 h2=>?_
 have h1:=h1.step k2 I.fB;dsimp only at e;split at e
 .split at e
  .rename_i hl;cases e;obtain⟨a1,vs1,rfl,ha1,hd1⟩:=h1;cases h2;refine⟨a1,_,vs1,rfl,rfl,g6 _ _ ha1,by omega,by omega,by rw[hd1.length];exact hl.2.2,λp hp=>?_⟩;have hnf:p ∉ m7 K G:=λz=>(A6 I.bk (k1.trans k2) f2).nin hp (I.fB p z)
   exact q p _ _ ((k1.trans k2).none hp hnf) i7 ((k1.trans k2).trans<|Kp.upd hp) (f2.same<|k8.upd hp) (c5.rep (hd1.same<|ka hp) _)
  .cases e
 .cases e⟩
noncomputable def bf (c:DE->M Bool)(b:DE->M Out):Nat->DE->M Out
 | 0,_,_=>none
 | n+1,E,F=>(c E F).bind λp=>if p.1=true then(b E p.2).bind λq=>match q.1 with
  | .nx E2=>bf c b n E2 q.2
  | .ct E2=>bf c b n E2 q.2
  | .bk E2=>some (.nx E2,q.2)
  | .rt d=>some (.rt d,q.2)
  else some (.nx E,p.2)
theorem Z8 {c:DE->M Bool}{b:DE->M Out}:∀{n m:Nat} {E:DE} {F:FS} {r:Out×FS},n<=m->bf c b n E F=some r->bf c b m E F=some r
 | 0,m,E,F,r,_,h=>by cases h
 | n+1,0,E,F,r,hl,h=>absurd hl (by omega)
 | n+1,m+1,E,F,r,hl,h=>by
  rw[bf]at h ⊢;obtain⟨⟨x,F1⟩,e1,h⟩:=bS9 h;rw[e1,Jd];dsimp only at h ⊢;cases x with
  | false=>exact h
  | true =>
   rw[IE rfl]at h ⊢;obtain⟨⟨o,F2⟩,e2,h⟩:=bS9 h;rw[e2,Jd];cases o with
   | nx E2=>exact Z8 (n:=n) (m:=m) (by omega) h
   | ct E2=>exact Z8 (n:=n) (m:=m) (by omega) h
   | bk E2=>exact h
   | rt d=>exact h
open Classical in
def mWh (c:DE->M Bool)(b:DE->M Out):DE->M Out:=λE F=>if h:∃n r,bf c b n E F=some r then some (Classical.choose<|Ll h) else none
def zr {c:DE->M Bool}{b:DE->M Out}{n:Nat}{E:DE}{F:FS}{r:Out×FS}(h:bf c b n E F=some r):mWh c b E F=some r:=by unfold mWh;have hx:∃n r,bf c b n E F=some r:=⟨n,r,h⟩;rw[dif_pos hx];have h2:=Ll<|Ll hx;have a1:=Z8 (Nat.le_max_left n<|Classical.choose hx) h;have a2:=Z8 (Nat.le_max_right n<|Classical.choose hx) h2;rw[a1]at a2;exact a2.symm
def yG {c:DE->M Bool}{b:DE->M Out}{E:DE}{F:FS}{r:Out×FS}(h:mWh c b E F=some r):∃n,bf c b n E F=some r:=by
 unfold mWh at h;split at h
 .rename_i hx;cases h;exact⟨_,Ll<|Ll hx⟩
 .cases h
def uR {tt:TT}{tb:TS}{mc:DE->M Bool}{mb:DE->M Out}(hc:TTd K tt mc)(hb:TSd K tb mb):TSd K (mR tt tb) (mWh mc mb):=λG B0 H0 E F σ H D r F' S e q=>by
 obtain⟨n,e⟩:=yG e;refine⟨λm σ H=>∃E F,Sit K G B0 H0 E F σ H/\bf mc mb m E F=some (r,F'),⟨n,E,F,S,e⟩,?_⟩;rintro m σ2 H2 ⟨E2,F2,S2,e2⟩;cases m with
 | zero=>cases e2
 | succ m =>
  rw[bf]at e2;obtain⟨⟨x,F3⟩,e3,e2⟩:=bS9 e2;obtain⟨B,s,sn,I⟩:=S2.ex;refine hc G B E2 F2 σ2 H2 _ x F3 I e3 λH3 k3 f3=>?_
  have S3:=S2.step k3 f3;cases x with
  | false =>rw[II IZ];cases e2;exact q σ2 H3 S3
  | true =>
   rw[IE rfl];rw[IE rfl]at e2;obtain⟨⟨o,F4⟩,e4,e2⟩:=bS9 e2;refine⟨λO' H'=>∃E F,Sit K G B0 H0 E F O' H'/\bf mc mb m E F=some (r,F'),λO' H' h=>⟨m,Kd _,h⟩,?_⟩;refine hb G B0 H0 E2 F3 σ2 H3 _ o F4 S3 e4 ?_;cases o with
   | nx E6=>exact λσ6 H6 S6=>⟨E6,F4,S6,e2⟩
   | ct E6=>exact λσ6 H6 S6=>⟨E6,F4,S6,e2⟩
   | bk E6=>cases e2;exact λσ6 H6 S6=>q σ6 H6 S6
   | rt d=>cases e2;exact λv H6 k6 f6 h6=>q v H6 k6 f6 h6
def jC {body:List On}{tt:TT}{tb:TS}{mc:DE->M Bool}{mb:DE->M Out}(hc:Et K X c tt mc)(hb:Sss K X body tb mb)(hp:PassesOwn (model X.prog X.w) X.A X.env X.xe:=by exact PassesOwn.never):Ss K X (.While c body [] pos) (mR tt tb) (mWh mc mb) :=
 ⟨rD hp hc.pt hb.ps,uR hc.ok hb.ok⟩
noncomputable def jK (i:Nat)(v:DE->M My):DE->M Out:=λE F=>(v E F).bind λp=>(az E i).bind λds=>match p.1 with
 | .list zs=>if ds.length+zs.length<=Os then some (.nx<|E.set i<|some<|.own<|ds++zs,p.2) else none
 | _=>none
def Ci {i:Nat}(hv:TEs K te m):TSd K (jL<|tBM K "list" iY (Q8 i)<|z8 te P1) (jK i m):=λG B0 H0 E F σ H D r F' S e q=>by
 obtain⟨⟨d,F1⟩,e1,e⟩:=bS9 e;obtain⟨ds,e4,e⟩:=bS9 e;dsimp only at e;split at e
 .split at e
  .rename_i hl;cases e;obtain⟨B,s,sn,I⟩:=S.ex;have eo:=Q6 e4;obtain⟨w,w1,a,xs,rfl,hB,hf,hx,hdx⟩:=I.loc i _ eo;refine⟨_,w1,.inl ⟨rfl,xs,SqL.of hx⟩,hv G B E F σ H _ (.list _) _ I e1 λu H2 k2 f2 h2=>?_⟩;obtain⟨b,ys,rfl,hb,hdb⟩:=h2;have hd2:=hdx.same<|k2.hid I.fB;exact⟨a,b,xs,ys,rfl,rfl,k2 a _ hx hf,g6 _ _ hb,by rw[hdx.length,hdb.length];exact hl,q σ _<|(S.step k2 f2).write s sn (I.step k2 f2) eo w1<|c5.append hdb hd2⟩
  .cases e
 .cases e
def yX (i:Nat){x:Str}{ap cp:Pos}(hK:X.K=K)(hv:Eb K X e te m)(hN:X.N[i]? = some x:=by rfl)(hvis:Vis X.env.scope x:=by first | exact Or.inl rfl | exact Or.inr (Or.inl rfl) | exact Or.inr<|Or.inr rfl)(hd:(x == ("__debug__":Str))=false:=by decide)(hcd:(x == ("__classdict__":Str))=false:=by decide)
  (hbase:OC (.Name x px) "extend" X.env (eval (.Name x px) X.env)=eval (.Name x px) X.env:=by rfl)
  (hfew:((Ox cp<|Ot [e] X.env).all (λx=>!x.1)&&(OJ cp<|OL [] X.env).all (λx=>x.1.isSome)
   && decide ([e].length+([]:List Oy).length+(if ([]:List Oy).isEmpty then 0 else 1)<30))=true:=by rfl)
  (hline:(ap.endLine == cp.line)=true:=by rfl) (hst:Ot [e] X.env=(false,eval e X.env)::Ot [] X.env:=by rfl) (hplain:(Ox cp<|Ot [] X.env).any (·.1)=false:=by rfl)
  (hs:OB (.Call (.Attribute (.Name x px) "extend" ap) [e] [] cp) none pos.line X.env=pure false:=by rfl) :
  Ss K X (.Expr (.Call (.Attribute (.Name x px) "extend" ap) [e] [] cp) pos) (jL<|tBM K "list" iY (Q8 i)<|z8 te P1) (jK i m):=by subst hK;exact⟨oE (xI PySem.F.plainAttrs_list PySem.F.slot_list_extend PySem.F.type_list_extend qg (G5 hN hvis hd hcd) (l8 hv.pe A8 hst) hbase hfew hline hst hplain) hs,Ci hv.ok⟩
end
end
section
section
variable [Feeds]{K:Fg}{X:Cx}{a b c e:Oo}{tb:TE}{ma mb mc m:DE->M My}{p:Pos}
end
end
section
section
variable {X:Cx}
def su :Cd X (uy X.K):=by
 intro OM s σ H x y v u Q I rx ry h;obtain⟨p,xs,i,z,rfl,rfl,hq,he,q⟩:=h;cases rx;obtain⟨t,rfl⟩:=ry;obtain⟨its,r,pl,hz⟩:=I.list hq;obtain⟨j,h1,h2,h3,h4,h5⟩:=dH he;obtain⟨w,ew,rw'⟩:=r.get h2;have hl:=r.length;have hn:=Z6;have fin:EP X OM σ Q w s:=⟨z,H,I,rw',q⟩;by_cases h0:0<=i
 .have hj:i.toNat=j:=by rw[seqIndex_of h0 h5]at h1;exact IS h1
  exact wpAny_getItem_list pl.isList h0 (by omega) (by rw[hj];simpa using ew) fin
 .have hj:(i+(its.toArray.size:Int)).toNat=j:=by rw[seqIndex_neg (by omega) h4]at h1;rw[IW,<-hl];exact IS h1
  exact wpAny_getItem_list_neg pl.isList (by omega) (by rw[IW] <;> omega) (by omega) (by rw[hj];simpa using ew) fin
end
section
variable [Feeds]{K:Fg}{X:Cx}{a b c e:Oo}{tb:TE}{ma mb mc m:DE->M My}{p pos2:Pos}
def xh {α:Type}{xs:List α}{n:Int}{j:Nat}{v:α}(h:ixN xs.length n=some j)(e:xs[j]? = some v):atI xs n=some v:=by unfold atI;rw[h];exact e
noncomputable def fP (f:Int->Int->Int)(i:Nat)(k v:DE->M My):DE->M Out:=λE F=>(k E F).bind λp=>(fk p.1).bind λn=>(az E i).bind λds=>(ixN ds.length n).bind λj=>(ds[j]?).bind λd=>(fk d).bind λx=>(v E p.2).bind λq=>(fk q.1).bind λy=>some (.nx<|E.set i<|some<|.own<|ds.set j<|.int<|f x y,q.2)
def wI {f:Int->Int->Int}{i:Nat}(hk:TEd K tb mb)(hv:TEd K te m):TSd K (ur (Q8 i) tb te (uy K) (ipI f) rJ) (fP f i mb m):=λG B0 H0 E F σ H D r F' S e q=>by obtain⟨⟨n,F1⟩,e1,e⟩:=bS9 e;obtain⟨k,e2,e⟩:=bS9 e;obtain⟨ds,e3,e⟩:=bS9 e;obtain⟨j,e4,e⟩:=bS9 e;obtain⟨d,e5,e⟩:=bS9 e;obtain⟨x,e6,e⟩:=bS9 e;obtain⟨⟨z,F2⟩,e7,e⟩:=bS9 e;obtain⟨y,e8,e⟩:=bS9 e;cases e;obtain⟨B,s,sn,I⟩:=S.ex;have eo:=Q6 e3;obtain⟨w,w1,a,xs,rfl,hB,hf,hx,hdx⟩:=I.loc i _ eo;refine⟨_,w1,hk G B E F σ H _ n F1 I e1 λu H1 k1 f1 h1=>?_⟩;have:=aL e2;simp only at this;subst this;simp only[c6]at h1;subst h1;have I1:=I.step k1 f1;have hd1:=hdx.same<|k1.hid I.fB;obtain⟨v,v1,v2⟩:=c5.item hd1 e5;have:=aL e6;subst this;simp only[c6]at v2;subst v2;refine⟨a,xs,k,_,rfl,rfl,SqL.of<|k1 a _ hx hf,xh (by rw[hd1.length];exact e4) v1,hv G B E F1 σ H1 _ z _ I1 e7 λw H2 k2 f2 h2=>?_⟩;have:=aL e8;simp only at this;subst this;simp only[c6]at h2;subst h2;refine⟨x,y,rfl,rfl,?_⟩;have I2:=I1.step k2 f2;have S2:=S.step (k1.trans k2) f2;have hd2:=hd1.same<|k2.hid I.fB;exact⟨a,xs,k,j,rfl,rfl,k2 a _ (k1 a _ hx hf) hf,by rw[hd2.length];exact e4,q σ _<|S2.write s sn I2 eo w1<|c5.set j hd2 c6.int⟩
def uF (i:Nat){x:Str}{tpos:Pos}(hK:X.K=K)(hk:Ev K X b tb mb)(hv:Ev K X e te m)(hN:X.N[i]? = some x:=by rfl)(hvis:Vis X.env.scope x:=by first | exact Or.inl rfl | exact Or.inr (Or.inl rfl) | exact Or.inr<|Or.inr rfl)(hd:(x == ("__debug__":Str))=false:=by decide)(hcd:(x == ("__classdict__":Str))=false:=by decide)
  (ha:∀ov iv new,augStore b ov iv new=(do holding [new,ov,iv] (setItem ov iv new);release [new,ov,iv] [];pure .next):=by intros;rfl) :
  Ss K X (.AugAssign (.Subscript (.Name x px) b tpos) .Add e pos) (ur (Q8 i) tb te (uy K) (ipI λi j=>i+j) rJ) (fP (λi j=>i+j) i mb m):=by subst hK;exact⟨wR (G5 hN hvis hd hcd) hk.pe su hv.pe Ar bL ha,wI hk.ok hv.ok⟩
end
end
variable {R:Result->Og->Prop}
section
abbrev R4 (h:Oq)(e it:Of)(i:Int)(T:Of)(f:Bool)(old:Oe):Prop :=
 h.get? e=some { cls:=.type "enumerate",dict:=none,data:=.fields #[rawInt T,.bool f,.ref it,rawInt i,.none,old],slots:=#[] }
section
variable {w:Oi}{A:Oj}{E:Oe->Og->Prop}{s:Og}
def By {a:Of}{o:Ou}{Q:Option Ou->Og->Prop}(ho:s.heap.get? a=some o)(h:Q (some o) s):Oz (model prog w) A (loadIfAlive a) Q E s:=by
 have h':Q (s.heap.get? a) s:=by rw[ho];exact h
 exact λ_ _ _=>h'
def gb {e it T0:Of}{oT:Ou}{fp:List Of}{n i:Nat}{f:Bool}{P:Nat->Oe->Prop}{St:Nat->Oq->Prop}{old:Oe}{Q:Oe->Og->Prop}
  (D:Draws prog w A it fp n P St) (he:R4 s.heap e it i T0 f old) (hT0:s.heap.get? T0=some oT) (hTe:T0≠e) (hTi:T0≠it) (hst:St i s.heap) (hlt:i<n) (hne:e≠it) (hef:e ∉ fp)
  (hQ:∀x h' tk,P i x->R4 h' e it ((i:Int)+1) T0 true old->St (i+1) h' ->
   h'.get? s.heap.objs.size=some { cls:=.type "tuple",data:=.seq #[.int i tk,x] }->h'.objs.size=s.heap.objs.size+1 ->
   (∀b o,b≠e->b≠it->s.heap.get? b=some o->h'.get? b=some o)->Q (.ref s.heap.objs.size) { s with heap:=h',toks:=tk+1 }) :
  Oz (model prog w) A (Builtin.«enumerate.__next__» ⟨[.ref e],[]⟩) (λfin s'=>∃v,fin = .done (.ret v)/\Q v s') E s:=by
 obtain⟨hp,g,d,tk₀,os⟩:=s;show Oz _ _ (field (.ref e) 2 >>= _) _ _ _;refine Iw<|Kk he rfl (x:=.ref it) rfl ?_;refine Iw (D.item i _ _ _ hlt hst λx h₁ tk hPx hit₁ hs₁=>?_);replace hs₁:Oq.SameBut it hp h₁:=hs₁;have he₁:R4 h₁ e it i T0 f old:=(hs₁.2 e hne).trans he;show Oz _ _ (field (.ref e) 3 >>= _) _ _ ⟨h₁,g,d,tk,os⟩;refine Iw<|Kk he₁ rfl (x:=rawInt i) rfl ?_;show Oz _ _ (field (.ref e) 4 >>= _) _ _ ⟨h₁,g,d,tk,os⟩;refine Iw<|Kk he₁ rfl (x:=.none) rfl ?_;show Oz _ _ (mkInt i >>= _) _ _ ⟨h₁,g,d,tk,os⟩;refine Iw<|wpAny_mkInt ?_;show Oz _ _ (setField (.ref e) 3 (rawInt<|(i:Int)+1) >>= _) _ _ ⟨h₁,g,d,tk+1,os⟩;refine Iw (NC he₁ (by simp) λh₂ he₂ hs₂=>?_);replace hs₂:Oq.SameBut e h₁ h₂:=hs₂;replace he₂:R4 h₂ e it ((i:Int)+1) T0 f old:=he₂;show Oz _ _ (setField (.ref e) 4 .none >>= _) _ _ ⟨h₂,g,d,tk+1,os⟩;refine Iw (NC he₂ (by simp) λh₃ he₃ hs₃=>?_);replace hs₃:Oq.SameBut e h₂ h₃:=hs₃;replace he₃:R4 h₃ e it ((i:Int)+1) T0 f old:=he₃;show Oz _ _ (newTuple [.int i tk,x] >>= _) _ _ ⟨h₃,g,d,tk+1,os⟩;refine Iw<|wpAny_newTuple ?_;have he₄:R4 (h₃.push { cls:=.type "tuple",data:=.seq #[.int i tk,x] }) e it ((i:Int)+1) T0 f old:=ID _ he₃;generalize hh₄:h₃.push { cls:=.type "tuple",data:=.seq #[.int i tk,x] }=h₄ at he₄;have hsz:h₃.objs.size=hp.objs.size:=by rw[hs₃.1,hs₂.1,hs₁.1]
 have hel:e<hp.objs.size:=IF he;have ht₄:h₄.get? hp.objs.size=some { cls:=.type "tuple",data:=.seq #[.int i tk,x] }:=by rw[<-hh₄,<-hsz];exact Jc _ rfl
 have hz₄:h₄.objs.size=hp.objs.size+1:=by rw[<-hh₄,Kj,hsz]
 have hk₄:∀b o,b≠e->b≠it->hp.get? b=some o->h₄.get? b=some o:=λb o hbe hbi hb=>by rw[<-hh₄];exact ID _<|hs₃.extBut b o hbe<|hs₂.extBut b o hbe<|hs₁.extBut b o hbi hb
 have hit₄:St (i+1) h₄:=D.frame _ _ _ hit₁ λb hb o y=>by
  have hbe:b≠e:=λq=>hef<|q▸hb
  rw[<-hh₄];exact ID _<|hs₃.extBut b o hbe<|hs₂.extBut b o hbe y
 have hT₄:h₄.get? T0=some oT:=hk₄ T0 oT hTe hTi hT0;show Oz _ _ (Builtin.SmallTypes.ownedTupleIsFree (.ref e) >>= _) _ _ ⟨h₄,g,d,tk+1,os⟩;rw[hsz];clear hh₄ he₃ hs₃ he₂ hs₂ he₁ hs₁ hit₁ hsz h₃ h₂ h₁;refine Iw ?_
 .unfold Builtin.SmallTypes.ownedTupleIsFree;refine Iw<|Kk he₄ rfl (x:=rawInt T0) rfl ?_;show Oz _ _ (loadIfAlive ((T0:Int).toNat) >>= _) _ _ _;rw[Jx];refine Iw<|By (s:=⟨h₄,g,d,tk+1,os⟩) hT₄ ?_;show Oz _ _ (field (.ref e) 1 >>= _) _ _ ⟨h₄,g,d,tk+1,os⟩;refine Iw<|Kk he₄ rfl (x:=.bool f) rfl ?_;cases f with
  | true =>show Oz _ _ (pure false) _ _ _;refine Iy ?_;exact Iy ⟨_,rfl,hQ x h₄ tk hPx he₄ hit₄ ht₄ hz₄ hk₄⟩
  | false =>
   show Oz _ _ (setField (.ref e) 1 (.bool true) >>= λ_=>pure false) _ _ ⟨h₄,g,d,tk+1,os⟩;refine Iw (NC he₄ (by simp) λh₅ he₅ hs₅=>?_);replace hs₅:Oq.SameBut e h₄ h₅:=hs₅;replace he₅:R4 h₅ e it ((i:Int)+1) T0 true old:=he₅;refine Iy ?_;refine Iy ⟨_,rfl,hQ x h₅ tk hPx he₅ ?_ ?_ ?_ ?_⟩
   .exact D.frame _ _ _ hit₄ λb hb o y=>hs₅.extBut b o (λq=>hef<|q▸hb) y
   .exact hs₅.extBut _ _ (Jt hel) ht₄
   .rw[hs₅.1,hz₄]
   .exact λb o hbe hbi hb=>hs₅.extBut b o hbe<|hk₄ b o hbe hbi hb
def kM (h:Oq)(e it:Of)(i:Nat):Prop:=(∃old,IsEnum h e it i old)\/∃T o f old,R4 h e it i T f old/\(h.get? T=some o/\o.cls = .type "tuple")/\T≠e/\T≠it
def kM.at {h:Oq}{e it:Of}{i:Nat}(x:kM h e it i)(k:∀b o,(b=e\/o.cls = .type "tuple")->h.get? b=some o->h'.get? b=some o):kM h' e it i:=by
 rcases x with ⟨old,he⟩ | ⟨T,o,f,old,he,⟨hT,hc⟩,h1,h2⟩
 .exact .inl ⟨old,k e _ (.inl rfl) he⟩
 .exact .inr ⟨T,o,f,old,k e _ (.inl rfl) he,⟨k T o (.inr hc) hT,hc⟩,h1,h2⟩
def qm {e it l:Of}{b:Bool}{items:Array Oe}{i:Nat}{Q:Option Oe->Og->Prop}(hh:A.handled=none)(hs:kM s.heap e it i)(hit:X4 b s.heap it l i)(hl:dm b s.heap l items)(hlt:i<items.size)(hne:e≠it)(hle:l≠e)(hli:l≠it)
  (hQ:∀x h' tk,items[i]? = some x->kM h' e it (i+1)->X4 b h' it l (i+1) ->
   h'.get? s.heap.objs.size=some { cls:=.type "tuple",data:=.seq #[.int i tk,x] }->h'.objs.size=s.heap.objs.size+1 ->
   (∀b o,b≠e->b≠it->s.heap.get? b=some o->h'.get? b=some o)->Q (some<|.ref s.heap.objs.size) { s with heap:=h',toks:=tk+1 }) :
  Oz (model prog w) A (pyNext<|.ref e) Q E s:=by
 have hil:it<s.heap.objs.size:=by obtain⟨o,z,_⟩:=hit.obj;exact IF z
 rcases hs with ⟨old,he⟩ | ⟨T,o,f,old,he,⟨hT,hcl⟩,h1,h2⟩
 .have hel:e<s.heap.objs.size:=IF he;refine wpAny_pyNext_enum_itemD (X6 b (A:=A.in1) hh it l hli items) he ⟨hit,hl⟩ hlt hne (by simp[hne,JC hle]) λx h' tk hx ho hst ht hz hk=>?_
  exact hQ x h' tk hx (.inr ⟨_,_,false,x,by simpa using ho,⟨ht,rfl⟩,Jt hel,Jt hil⟩) hst.1 ht hz hk
 .have hTy:s.TypeIs (.ref e) "enumerate":=⟨_,he,rfl⟩;unfold pyNext;refine Iw (LB (KC (name:=Str.ofString "__next__") hTy Lg
   (JT Lg hTy Nq
    (gb (X6 b (A:=A.in1) hh it l hli items) he hT h1 h2 ⟨hit,hl⟩ hlt hne (by simp[hne,JC hle]) λx h' tk hx ho hst ht hz hk=>Iy ?_) (Nn _))))
  exact hQ x h' tk hx (.inr ⟨T,o,true,old,by simpa using ho,⟨hk T o h1 h2 hT,hcl⟩,h1,h2⟩) hst.1 ht hz hk
def uj {e it l:Of}{b:Bool}{items:Array Oe}{Q:Option Oe->Og->Prop}(hh:A.handled=none)(hs:kM s.heap e it items.size)(hit:X4 b s.heap it l items.size)(hl:dm b s.heap l items)(hli:l≠it)
  (hQ:∀h',Oq.ExtBut it s.heap h'->Q none { s with heap:=h' }):Oz (model prog w) A (pyNext<|.ref e) Q E s:=by
 have hT:s.TypeIs (.ref e) "enumerate":=by
  rcases hs with ⟨old,he⟩ | ⟨T,o,f,old,he,_⟩
  .exact⟨_,he,rfl⟩
  .exact⟨_,he,rfl⟩
 unfold pyNext;refine Iw (LB (KC (name:=Str.ofString "__next__") hT Lg
  (JT Lg hT Nq ?_<|Nn _)))
 have D:=X6 (prog:=prog) (w:=w) b (A:=A.in1) hh it l hli items;show Oz _ _ (field (.ref e) 2 >>= _) _ _ _;have fin:Oz (model prog w) A.in1 (Builtin.SmallTypes.nextOf<|.ref it) (λ_ _=>False) (λx s'=>∃h',Oq.ExtBut it s.heap h'/\s'={ s with heap:=h' }/\∃e,x = .ref e/\∃o,h'.get? e=some o/\o.cls = .type "StopIteration") s :=
  D.done _ _ _ ⟨hit,hl⟩ λh' x he' hx'=>⟨h',he',rfl,x,rfl,hx'⟩
 rcases hs with ⟨old,he⟩ | ⟨T,o,f,old,he,_⟩
 .refine Iw<|Kk he rfl (x:=.ref it) rfl ?_;refine Iw (D.done _ _ _ ⟨hit,hl⟩ λh' x he' hx'=>?_);obtain⟨o,ho,hc⟩:=hx';refine Iw<|LY (T:="StopIteration") (b:=true) ⟨o,ho,hc⟩ isSubtype_stop ?_;exact Iy<|hQ _ he'
 .refine Iw<|Kk he rfl (x:=.ref it) rfl ?_;refine Iw (D.done _ _ _ ⟨hit,hl⟩ λh' x he' hx'=>?_);obtain⟨o,ho,hc⟩:=hx';refine Iw<|LY (T:="StopIteration") (b:=true) ⟨o,ho,hc⟩ isSubtype_stop ?_;exact Iy<|hQ _ he'
structure Tups (h:Oq) (S e it:Of) (items acc:Array Oe) (i:Nat):Prop where
 sz:acc.size=i
 at_:∀(j:Nat) v,acc[j]? = some v->∃T tk x,v = .ref T/\items[j]? = some x/\h.get? T=some { cls:=.type "tuple",data:=.seq #[.int j tk,x] }/\S<T/\T≠e/\T≠it
def Tups.keep {h:Oq}{S e it:Of}{items acc:Array Oe}{i:Nat}(x:Tups h S e it items acc i)(k:∀b o,b≠S->b≠e->b≠it->h.get? b=some o->h'.get? b=some o):Tups h' S e it items acc i :=
 ⟨x.sz,λj v hv=>by obtain⟨T,tk,y,h1,h2,h3,h4,h5,h6⟩:=x.at_ j v hv;exact⟨T,tk,y,h1,h2,k T _ (Jt h4) h5 h6 h3,h4,h5,h6⟩⟩
def wO {e it l S:Of}{b:Bool}{items:Array Oe}(hh:A.handled=none)(hn:items.size<=Os)(hne:e≠it)(hle:l≠e)(hli:l≠it)(hSe:S≠e)(hSi:S≠it)(hSl:S≠l)(res:Oe) :
  ∀(k i:Nat) (s:Og) (acc:Array Oe) (c:Nat),items.size-i=k->i<=items.size->kM s.heap e it i->X4 b s.heap it l i->dm b s.heap l items->s.heap.get? S=some { cls:=.type "list",dict:=none,data:=.seq acc c,slots:=#[] }->Tups s.heap S e it items acc i ->
  (∀h' tk acc' c',(∀b o,b≠S->b≠e->b≠it->s.heap.get? b=some o->h'.get? b=some o)->h'.get? S=some { cls:=.type "list",dict:=none,data:=.seq acc' c',slots:=#[] }->Tups h' S e it items acc' items.size->R (.ok<|.ret res) { s with heap:=h',toks:=tk }) ->
  codeAny (model prog w) A (.builtin "list.extend.loop" ⟨[.ref S,.ref e,res],[]⟩) R s:=by
 intro k;induction k with
 | zero =>
  intro i s acc c hk hi hst hit hl hS ht hR;have hin:i=items.size:=by omega
  subst hin;refine LI F.entry_extend_loop ?_;rw[KP Mh _];show Oz _ A.in1 (pyNext (.ref e) >>= _) _ _ s;refine Iw (uj hh hst hit hl hli λh' eb=>?_);exact Iy (hR h' s.toks acc c (λb o _ _ h3 z=>eb b o h3 z) (eb S _ hSi hS)<|ht.keep λb o _ _ h3 z=>eb b o h3 z)
 | succ k ih =>
  intro i s acc c hk hi hst hit hl hS ht hR;have hlt:i<items.size:=by omega
  have hSlt:S<s.heap.objs.size:=IF hS;have hel:e<s.heap.objs.size:=by
   rcases hst with ⟨old,he⟩ | ⟨T,o,f,old,he,_⟩
   .exact IF he
   .exact IF he
  have hil:it<s.heap.objs.size:=by obtain⟨o,z,_⟩:=hit.obj;exact IF z
  refine LI F.entry_extend_loop ?_;rw[KP Mh _];show Oz _ A.in1 (pyNext (.ref e) >>= _) _ _ s;refine Iw (qm hh hst hit hl hlt hne hle hli λx h' tk hx hst' hit' hT hz hkp=>?_);have hS':=hkp S _ hSe hSi hS;show Oz _ A.in1 (updateSeq S (·.push (.ref s.heap.objs.size)) >>= _) _ _ _;refine Iw ?_;have oth:∀b,b≠S->(h'.update S<|Ou.mapSeq (·.push (Oe.ref s.heap.objs.size))).get? b=h'.get? b:=λb hb=>JF _ _<|JC hb
  have hTS:s.heap.objs.size≠S:=Jt hSlt;refine Lm hS' rfl (Iy ⟨LC Mh _,ih (i+1) _ (acc.push<|.ref s.heap.objs.size) _ (by omega) hlt ?_ ?_ ?_ (JD _ hS' rfl) ⟨by rw[Array.size_push,ht.sz],λj v hv=>?_⟩ λh'' tk' acc' c' hk'' hS'' ht''=>?_⟩)
   (by rw[ht.sz];omega) (by show(acc.push _).size<=Os+1;rw[Array.size_push,ht.sz];omega)
  .refine hst'.at λb o hb z=>?_
   rcases hb with rfl | hc
   .exact(oth _<|JC hSe).trans z
   .refine(oth b λq=>?_).trans z;subst q;rw[hS']at z;cases z;simp at hc
  .exact hit'.at λo z=>(oth it<|JC hSi).trans z
  .exact(hl.at λo z=>hkp l o hle hli z).at λo z=>(oth l<|JC hSl).trans z
  .rw[Array.getElem?_push]at hv;split at hv
   .rename_i ej;cases hv;rw[ht.sz]at ej;subst ej;exact⟨_,tk,x,rfl,hx,(oth _ hTS).trans hT,hSlt,Jt hel,Jt hil⟩
   .obtain⟨T,tk2,y,h1,h2,h3,h4,h5,h6⟩:=ht.at_ j v hv;exact⟨T,tk2,y,h1,h2,(oth T<|Jt h4).trans<|hkp T _ h5 h6 h3,h4,h5,h6⟩
  .exact hR h'' tk' acc' c' (λb o h1 h2 h3 z=>hk'' b o h1 h2 h3<|(oth b h1).trans<|hkp b o h2 h3 z) hS'' ht''
def za :typeLookup (.type "enumerate") "__len__" = pure none:=by rw[typeLookup_type,builtinLookup_eq_fast];kernel_rfl
def vC :typeLookup (.type "enumerate") "__length_hint__" = pure none:=by rw[typeLookup_type,builtinLookup_eq_fast];kernel_rfl
def pN {e:Of}{Q:Bool->Og->Prop}(hT:s.TypeIs (.ref e) "enumerate")(h:Q true s):Oz (model prog w) A (Builtin.List.listLengthHint<|.ref e) Q E s:=by unfold Builtin.List.listLengthHint;refine Iw<|KO hT za ?_;wp_delta;refine wpAny_ite_split (λhab=>absurd hab<|by decide) (λ_=>?_);refine wpAny_ite_split (λhab=>absurd hab<|by decide) (λ_=>?_);refine Iw<|KO hT vC ?_;exact Iy h
def ql {e it l S:Of}{b:Bool}{items:Array Oe}(hh:A.handled=none)(hn:items.size<=Os)(he:IsEnum s.heap e it 0 .none)(hit:X4 b s.heap it l 0)(hl:dm b s.heap l items)(hne:e≠it)(hle:l≠e)(hli:l≠it)(hSe:S≠e)(hSi:S≠it)(hSl:S≠l)(res:Oe)(c₀:Nat)(hS:s.heap.get? S=some { cls:=.type "list",data:=.seq #[] c₀ })
  (hR:∀h' tk acc' c',(∀b o,b≠S->b≠e->b≠it->s.heap.get? b=some o->h'.get? b=some o)->h'.get? S=some { cls:=.type "list",dict:=none,data:=.seq acc' c',slots:=#[] }->Tups h' S e it items acc' items.size->R (.ok<|.ret res) { s with heap:=h',toks:=tk }) :
  Oz (model prog w) A.in1 (Builtin.List.listExtendWith (.ref S) (.ref e) res)
   (λfin s'=>match fin with | .done f=>R (.ok f) s' | .again c'=>c'.quiet=true/\codeAny (model prog w) A c' R s') (λe s'=>R (.error e) s') s:=by
 have hT:s.TypeIs (.ref e) "enumerate":=⟨_,he,rfl⟩;unfold Builtin.List.listExtendWith;refine Iw<|wpAny_typeOf (T:="enumerate") hT ?_;have h1:Builtin.List.listSameRef (.ref S) (.ref e)=false:=by simp[Builtin.List.listSameRef,hSe]
 have h2:(Oe.type "enumerate" == Oe.type "list")=false:=by decide
 have h3:(Oe.type "enumerate" == Oe.type "tuple")=false:=by decide
 simp only[h1,h2,h3,Bool.or_false,Jk,JI];refine Iw<|wpAny_pyIter_enum he ?_;refine Iw<|JL<|pN hT ?_;refine wpAny_ite_split (λ_=>?_) (λhab=>absurd (by simp) hab);refine Iw<|KN ?_;refine Iw ?_;show Oz _ _ (updateSeq S (·.push .none) >>= λ_=>updateSeq S (·.pop)) _ _ _;refine Iw<|Lm hS rfl ?_;have hS₂:=JD (Ou.mapSeq (·.push Oe.none)) hS rfl;refine Lm (hz:=by seq_fits) hS₂ rfl ?_;have hS₃:=JD (Ou.mapSeq (·.pop)) hS₂ rfl;have oth:∀b o,b≠S->s.heap.get? b=some o->((s.heap.update S<|Ou.mapSeq (·.push Oe.none)).update S<|Ou.mapSeq (·.pop)).get? b=some o:=λb o hb z=>(JF _ _<|JC hb).trans<|(JF _ _<|JC hb).trans z
 refine Iy ⟨LC Mh _,?_⟩;refine wO hh hn hne hle hli hSe hSi hSl res items.size 0 _ #[] _ (by omega) (JV _) (.inl ⟨_,oth e _ (JC hSe) he⟩) (hit.at λo z=>oth it o (JC hSi) z) (hl.at λo z=>oth l o (JC hSl) z) hS₃ ⟨rfl,λj v hv=>by simp at hv⟩ λh' tk acc' c' hk hS' ht=>?_
 exact hR h' tk acc' c' (λb o h1 h2 h3 z=>hk b o h1 h2 h3<|oth b o h1 z) hS' ht
def vI {e it l S:Of}{b:Bool}{items:Array Oe}(hh:A.handled=none)(hn:items.size<=Os)(he:IsEnum s.heap e it 0 .none)(hit:X4 b s.heap it l 0)(hl:dm b s.heap l items)(hne:e≠it)(hle:l≠e)(hli:l≠it)(hSe:S≠e)(hSi:S≠it)(hSl:S≠l)(hS:s.heap.get? S=some { cls:=.type "list",data:=.seq #[] })
  (hR:∀h' tk acc' c',(∀b o,b≠S->b≠e->b≠it->s.heap.get? b=some o->h'.get? b=some o)->h'.get? S=some { cls:=.type "list",dict:=none,data:=.seq acc' c',slots:=#[] }->Tups h' S e it items acc' items.size->R (.ok<|.ret .none) { s with heap:=h',toks:=tk }) :
  Oz (model prog w) A.in1 (Builtin.«list.__init__» ⟨[.ref S,.ref e],[]⟩)
   (λfin s'=>match fin with | .done f=>R (.ok f) s' | .again c'=>c'.quiet=true/\codeAny (model prog w) A c' R s') (λe s'=>R (.error e) s') s:=by
 show Oz _ _ (do let old <-Builtin.List.listItems (.ref S);Builtin.List.listUpdate (.ref S) (λ_=>#[]);letGo old.toList.reverse;Builtin.List.listExtendWith (.ref S) (.ref e) .none) _ _ s;refine Iw ?_;unfold Builtin.List.listItems;refine Iw<|KY hS rfl<|Iy ?_;show Oz _ _ (updateSeq S (λ_=>#[]) >>= λ_=>letGo (#[]:Array Oe).toList.reverse >>= λ_=>Builtin.List.listExtendWith (.ref S) (.ref e) .none) _ _ s;refine Iw<|Lm hS rfl ?_;have hS₂:=JD (Ou.mapSeq<|λ_=>(#[]:Array Oe)) hS rfl;have oth:∀b o,b≠S->s.heap.get? b=some o->(s.heap.update S<|Ou.mapSeq<|λ_=>(#[]:Array Oe)).get? b=some o :=
  λb o hb e=>(JF _ _<|JC hb).trans e
 refine Iw<|Nv ?_;refine ql hh hn (oth e _ (JC hSe) he) (hit.at λo z=>oth it o (JC hSi) z) (hl.at λo z=>oth l o (JC hSl) z) hne hle hli hSe hSi hSl .none _ hS₂ λh' tk acc' c' hk hS' hacc=>?_
 exact hR h' tk acc' c' (λb o h1 h2 h3 e=>hk b o h1 h2 h3<|oth b o h1 e) hS' hacc
def eZ {Q:Oe->Og->Prop}{e it l:Of}{b:Bool}{items:Array Oe}(hh:A.handled=none)(hn:items.size<=Os)(he:IsEnum s.heap e it 0 .none)(hit:X4 b s.heap it l 0)(hl:dm b s.heap l items)(hne:e≠it)(hle:l≠e)(hli:l≠it)
  (hQ:∀h' tk acc' c',(∀b o,b≠e->b≠it->s.heap.get? b=some o->h'.get? b=some o) ->
   h'.get? s.heap.objs.size=some { cls:=.type "list",dict:=none,data:=.seq acc' c',slots:=#[] }->Tups h' s.heap.objs.size e it items acc' items.size->Q (.ref s.heap.objs.size) { s with heap:=h',toks:=tk }) :
  Oz (model prog w) A (call (.type "list") [.ref e]) Q E s:=by
 have lt:∀{a o},s.heap.get? a=some o->s.heap.objs.size≠a:=λz=>Jt<|IF z
 have hll:s.heap.objs.size≠l:=by
  cases b
  .obtain⟨o,z,_⟩:=(show s.heap.IsTuple l items from hl);exact lt z
  .obtain⟨o,z,_⟩:=(show s.heap.IsList l items from hl);exact lt z
 have hil:s.heap.objs.size≠it:=by obtain⟨o,z,_⟩:=hit.obj;exact lt z
 refine callType_codes (Q₁:=λobj s₁=>obj = .ref s.heap.objs.size/\s₁={ s with heap:=s.heap.push { cls:=.type "list",data:=.seq #[] } }) F.called_list (F.typeCall_list_1 _) F.entry_list_init
  (code_list_new _ ⟨rfl,rfl⟩) λobj s₁ h₁=>?_
 obtain⟨rfl,rfl⟩:=h₁;have hS:(s.heap.push { cls:=.type "list",data:=.seq #[] }).get? s.heap.objs.size=some { cls:=.type "list",data:=.seq #[] }:=Jc _ rfl;refine⟨⟨_,hS,rfl⟩,F.args_list_init_2 _ _,vI (A:=A.in1) hh hn (ID _ he) (hit.at λo z=>ID _ z) (hl.at λo z=>ID _ z) hne hle hli (lt he) hil hll hS λh' tk acc' c' hk hS' hacc=>?_⟩;exact⟨rfl,hQ h' tk acc' c' (λb o h1 h2 e=>hk b o (JC<|lt e) h1 h2<|ID _ e) hS' hacc⟩
end
section
variable {X:Cx}{K:Fg}{p pos2:Pos}
def phE (n0 e it a:Nat):Oq->Prop:=λh=>IsEnum h e it 0 .none/\n0<=e/\n0<=it/\e≠it/\a≠e/\a≠it
def phI (b:Bool)(it a:Of):Oq->Prop:=λh=>X4 b h it a 0
def tEn (n0:Nat)(K:Fg)(tl:TA):TE:=λσ H Q=>tl σ H λxs H1=>∃a,xs=[.ref a]/\∃b ys,SqA b K H1 a ys/\∀it e,H1 it=none->H1 e=none->it≠e->Q (.ref e) (upd (upd H1 it<|.ext<|phI b it a) e<|.ext<|phE n0 e it a)
def xu {l:Oo}{tl:TA}(hK:X.K=K)(hg:Gl X "enumerate")(hm:X.mg "enumerate" = none)(ha:PA X [l] tl)(hs:Ot [l] X.env=[(false,eval l X.env)]:=by rfl):PE X (.Call (.Name "enumerate" p) [l] [] pos) (tEn X.s₀.heap.objs.size K tl):=by
 subst hK;intro OM s σ H R I h;refine Call_ (aT I hg hm boot_enumerate<|Lc (thn (ha pos OM s σ H _ I h) λus s1 ⟨vs,H1,I1,r1,q1⟩=>?_) hs rfl);obtain⟨a,e,b,ys,hq,q⟩:=q1;subst e;cases r1 with
 | cons r rr =>
  cases rr;cases r;obtain⟨its,rv,p⟩:=SqA.get I1 hq;refine gN p λh' he hit hz hk=>?_
  have hal:a<s1.heap.objs.size:=by
   cases b
   .obtain⟨o,z,_⟩:=(show s1.heap.IsTuple a its.toArray from p);exact IF z
   .obtain⟨o,z,_⟩:=(show s1.heap.IsList a its.toArray from p);exact IF z
  have n0:H1 s1.heap.objs.size=none:=I1.hok.fresh<|IT _;have n1:H1 (s1.heap.objs.size+1)=none:=I1.hok.fresh<|Md _;refine⟨.ref<|s1.heap.objs.size+1,_,?_,rfl,q s1.heap.objs.size (s1.heap.objs.size+1) n0 n1<|IX<|Kd _⟩;have hne:s1.heap.objs.size+1≠s1.heap.objs.size:=Nat.succ_ne_self _;have sm:∀c o,H1 c=some o->upd (upd H1 s1.heap.objs.size<|.ext<|phI b s1.heap.objs.size a) (s1.heap.objs.size+1) (.ext<|phE X.s₀.heap.objs.size (s1.heap.objs.size+1) s1.heap.objs.size a) c=some o:=λc o z=>by rw[h8<|l6 z n1,h8<|l6 z n0];exact z
  refine I1.un (t':=s1.toks) ⟨λb u q _ _ _=>hk b u q,λb u q _ _ _=>⟨u.slots,hk b u q⟩,λb u q n _=>?_,λb u q _=>⟨u,hk b u q⟩,λb xs q=>sm _ _ q,λb u xs q=>sm _ _ q,λb ps q=>⟨#[],by rw[sm _ _ q];simp⟩⟩ λc u ec=>?_
  .have hb:=IF q;rw[h8<|IX<|Kh hb,h8<|IX hb];exact n
  .by_cases c1:c=s1.heap.objs.size+1
   .subst c1;rw[i7]at ec;cases ec;refine⟨⟨he,Nat.le_succ_of_le I1.sz,I1.sz,hne,IX<|Kh hal,IX hal⟩,⟨_,he⟩,λh1 h2 z k=>⟨k _ z.1,z.2⟩⟩
   .rw[h8 c1]at ec;by_cases c2:c=s1.heap.objs.size
    .subst c2;rw[i7]at ec;cases ec;exact⟨hit,let ⟨o,z,_⟩:=hit.obj;⟨o,z⟩,λh1 h2 z k=>X4.at (show X4 b h1 _ a 0 from z) k⟩
    .rw[h8 c2]at ec;exact(I1.hok c u ec).stay (λd v _ z=>hk d v z) (λd z=>sm d _ z) λd xs z=>sm d _ z
def enH (H:Hp)(S e it:Of)(acc:Array Oe)(ts:List Of)(ys:List V):Hp:=λb =>
 open Classical in
 if b=e\/b=it then none else if b=S then some (.lst<|ts.map V.ref) else if h:∃j:Nat,ts[j]? = some b then some (.tup [.int (h.choose:Nat),ys.getD h.choose .non]) else H b
def Ao (n0:Nat)(K:Fg):List V->Hp->VK->Prop:=λxs H Q=>∃e it a b ys,xs=[.ref e]/\H e=some (.ext<|phE n0 e it a)/\H it=some (.ext<|phI b it a)/\SqA b K H a ys/\ys.length<=1000 /\
 ∀H' l (ts:List Of),H l=none->ts.length=ys.length->(∀(j:Nat) t,ts[j]? = some t->H t=none/\∃y,ys[j]? = some y/\H' t=some (.tup [.int (j:Nat),y]))->H' l=some (.lst<|ts.map V.ref) ->
  (∀c o,c≠e->c≠it->H c=some o->H' c=some o)->Q (.ref l) H'
def sF {xs:List V}{us:List Oe}(h:n5 xs us):us.length=xs.length:=by
 induction h with
 | nil=>rfl
 | cons _ _ ih=>simp[ih]
theorem gO:∀ts:List Of,n5 (ts.map V.ref) (ts.map Oe.ref)
 | []=>.nil
 | _::r=>.cons rfl<|gO r
def iF (hK:X.K=K)(hc:X.calm=true):A3 X (.type "list") (Ao X.s₀.heap.objs.size K):=by
 subst hK;walk_at "kg";obtain⟨e,it,a,b,ys,rfl,he,hi,hq,hz,q⟩:=h;obtain⟨u,rfl,ru⟩:=L8 r;cases ru;obtain⟨⟨pe,p1,p2,n1,n2,n3⟩,_,_⟩:=I.hok e _ he;obtain⟨pi,_,_⟩:=I.hok it _ hi;obtain⟨its,rv,pq⟩:=SqA.get I hq;have hlen:its.length=ys.length:=sF rv;refine eZ (I.ok.hd hc) (by rw[IW,hlen];exact Ka<|cN hz) pe pi pq n1 n2 n3 λh' tk acc c' hk hS ht=>?_
 obtain⟨ts,hts,hacc⟩:∃ts:List Of,acc.toList=ts.map Oe.ref/\ts.length=ys.length:=by
  have all:∀l:List Oe,(∀v∈l,∃T,v = .ref T)->∃ts:List Of,l=ts.map Oe.ref:=by
   intro l;induction l with
   | nil=>intro _;exact⟨[],rfl⟩
   | cons v r ih =>
    intro hv;obtain⟨T,rfl⟩:=hv v (by simp);obtain⟨ts,rfl⟩:=ih λw hw=>hv w (by simp[hw])
    exact⟨T::ts,rfl⟩
  obtain⟨ts,e1⟩:=all acc.toList λv hv=>by obtain⟨j,hj⟩:=List.getElem?_of_mem hv;obtain⟨T,_,_,rfl,_⟩:=ht.at_ j v (by rw[<-Kv];exact hj);exact⟨T,rfl⟩
  refine⟨ts,e1,?_⟩;have:acc.toList.length=ts.length:=by rw[e1,Iz]
  rw[<-this,JM,ht.sz,IW,hlen]
 have at_:∀(j:Nat) T,ts[j]? = some T->∃tk x y,its[j]? = some x/\ys[j]? = some y/\u0 y x/\h'.get? T=some { cls:=.type "tuple",data:=.seq #[.int j tk,x] }/\s.heap.objs.size<T/\T≠e/\T≠it:=λj T hj=>by
  obtain⟨T',tk,x,e1,e2,e3,e4,e5,e6⟩:=ht.at_ j (.ref T) (by rw[<-Kv,hts,IU,hj];rfl);cases e1;have e2:its[j]? = some x:=by simpa using e2
  have hjl:j<ys.length:=by rw[<-hlen];exact(IH.1 e2).1
  obtain⟨u,hu,ru⟩:=rv.get<|IM hjl;rw[e2]at hu;cases hu;exact⟨tk,x,_,e2,IM hjl,ru,e3,e4,e5,e6⟩
 have uni:∀(i j:Nat) T,ts[i]? = some T->ts[j]? = some T->i=j:=λi j T hi hj=>by obtain⟨_,_,_,_,_,_,z1,_⟩:=at_ i T hi;obtain⟨_,_,_,_,_,_,z2,_⟩:=at_ j T hj;rw[z1]at z2;simp at z2;omega
 have nS:H s.heap.objs.size=none:=I.hok.fresh<|IT _;have hel:e<s.heap.objs.size:=I.hok.lt he;have hil:it<s.heap.objs.size:=I.hok.lt hi;have low:∀c,c<s.heap.objs.size->c≠e->c≠it->enH H s.heap.objs.size e it acc ts ys c=H c:=λc hc h1 h2=>by
  have hn:¬ ∃j:Nat,ts[j]? = some c:=λ⟨j,hj⟩=>by obtain⟨_,_,_,_,_,_,_,z,_⟩:=at_ j c hj;exact absurd (LN hc z)<|KF _
  unfold enH;rw[II (by simp[h1,h2]),II<|IX hc,dif_neg hn]
 have hold:∀c o,c≠e->c≠it->H c=some o->enH H s.heap.objs.size e it acc ts ys c=some o:=λc o h1 h2 z=>by rw[low c (I.hok.lt z) h1 h2];exact z
 have topv:∀(j:Nat) T,ts[j]? = some T->∃y,ys[j]? = some y/\enH H s.heap.objs.size e it acc ts ys T=some (.tup [.int (j:Nat),y]):=λj T hj=>by obtain⟨_,_,y,_,hy,_,_,z,z1,z2⟩:=at_ j T hj;refine⟨y,hy,?_⟩;have ex:∃j:Nat,ts[j]? = some T:=⟨j,hj⟩;unfold enH;rw[II (by simp[z1,z2]),II<|Jt z,dif_pos ex];have:ex.choose=j:=uni _ _ T ex.choose_spec hj;rw[this];simp[hy]
 have eS:enH H s.heap.objs.size e it acc ts ys s.heap.objs.size=some (.lst<|ts.map V.ref):=by unfold enH;rw[II (by simp[Jt hel,Jt hil]),IE rfl]
 have ntr:∀c,H c=none->c≠e/\c≠it:=λc z=>⟨λw=>(by rw[w,he]at z;cases z),λw=>(by rw[w,hi]at z;cases z)⟩
 have npl:∀c o,H c=some o->(∀φ,o ≠ .ext φ)->c≠e/\c≠it:=λc o z w=>⟨λx=>(by rw[x,he]at z;cases z;exact w _ rfl),λx=>(by rw[x,hi]at z;cases z;exact w _ rfl)⟩
 have cin:∀c,c ∉ [e,it]->c≠e/\c≠it:=λc z=>⟨λw=>z (by simp[w]),λw=>z<|by simp[w]⟩
 have I1:Inv X OM σ (enH H s.heap.objs.size e it acc ts ys) { s with heap:=h',toks:=tk }:=by
  refine I.step (g':=s.gens) (d':=s.drawn) (ch:=[e,it]) (λc hc=>?_) (λc o _ _ hc z _=>hk c o (cin c hc).1 (cin c hc).2 z) (λc o _ _ hc z _=>⟨o.slots,hk c o (cin c hc).1 (cin c hc).2 z⟩)
   (λc o hc z n=>by rw[low c (IF z) (cin c hc).1 (cin c hc).2];exact n) (λc o hc z=>⟨o,hk c o (cin c hc).1 (cin c hc).2 z⟩)
   (λc xs z=>let w:=npl c _ z (λ_ y=>by cases y);hold c _ w.1 w.2 z) (λc o u z=>let w:=npl c _ z (λ_ y=>by cases y);hold c _ w.1 w.2 z)
   (λc ps z=>let w:=npl c _ z (λ_ y=>by cases y);⟨#[],by rw[hold c _ w.1 w.2 z];simp⟩) (λm hm=>?_) (λc u ec=>?_) I.bare
  .have hs:∃φ,H c=some (.ext φ):=by
    rcases IP.1 hc with rfl | hc
    .exact⟨_,he⟩
    .rw[Jy.1 hc];exact⟨_,hi⟩
   obtain⟨φ,hs⟩:=hs;refine⟨.inr ?_,λz=>?_,λx d z w=>?_,λpp hp w=>?_⟩
   .rcases IP.1 hc with rfl | hc
    .exact p1
    .rw[Jy.1 hc];exact p2
   .rw[z,I.free]at hs;cases hs
   .rw[<-w,I.freeC x d z]at hs;cases hs
   .rw[<-w,(I.pin pp hp).2.1]at hs;cases hs
  .obtain⟨o,es,ep,ho,r⟩:=hm;have w:=ntr _ I.free;exact⟨o,es,ep,hk _ o w.1 w.2 ho,r⟩
  .by_cases c0:c=e\/c=it
   .unfold enH at ec;rw[IE c0]at ec;cases ec
   have c1:c≠e:=λz=>c0<|.inl z
   have c2:c≠it:=λz=>c0<|.inr z
   by_cases c3:c=s.heap.objs.size
   .subst c3;rw[eS]at ec;cases ec;refine⟨by rw[Iz,hacc];exact Ka<|cN hz,acc.toList,c',?_,by rw[hS]⟩;rw[hts];exact gO ts
   .by_cases ex:∃j:Nat,ts[j]? = some c
    .obtain⟨j,hj⟩:=ex;obtain⟨y,hy,e2⟩:=topv j c hj;obtain⟨tk,x,y',hx,hy',ry,z,_⟩:=at_ j c hj;rw[hy]at hy';cases hy';rw[e2]at ec;cases ec;exact⟨IV (show 2<=10000 by decide) (by rw[Jr];decide),[.int j tk,x],.cons ⟨tk,rfl⟩<|.cons ry .nil,⟨_,z,rfl,_,rfl⟩⟩
    .have ec':H c=some u:=by unfold enH at ec;rwa [II c0,II c3,dif_neg ex]at ec
     refine(I.hok c u ec').stay (λd v hd z=>?_) (λd z=>let w:=npl d _ z (λ_ y=>by cases y);hold d _ w.1 w.2 z) λd xs z=>let w:=npl d _ z (λ_ y=>by cases y);hold d _ w.1 w.2 z
     rcases hd with rfl | hd
     .exact hk _ v c1 c2 z
     .have w:=npl d _ hd (λ_ y=>by cases y);exact hk d v w.1 w.2 z
 refine⟨.ref s.heap.objs.size,_,I1,rfl,q _ _ ts nS hacc (λj T hj=>?_) eS hold⟩;obtain⟨y,hy,e2⟩:=topv j T hj;obtain⟨_,_,_,_,_,_,_,z,_⟩:=at_ j T hj;exact⟨I.hok.fresh<|Ka z,y,hy,e2⟩
end
section
variable {w:Oi}{A:Oj}{E:Oe->Og->Prop}{s:Og}
def jc {l:Of}{xs:Array (Int×Tok)}{Q:Oe->Og->Prop}(hh:A.handled=none)(hl:s.heap.IsTuple l (intItems xs))
  (h:∀h' tk t',(∀b o,s.heap.get? b=some o->h'.get? b=some o)->Q (.int (preSum (numAt xs) xs.size) t') { s with heap:=h',toks:=tk }) :
  Oz (model prog w) A (call (.builtin "sum") [.ref l]) Q E s:=by
 have hlt:l<s.heap.objs.size:=by obtain⟨_,e,_⟩:=hl;exact IF e
 refine call_sum_walkG<|Le hl ?_;refine⟨s.heap.objs.size,[s.heap.objs.size,l],[s.heap.objs.size],_,_,_,numAt xs,rfl,Walks.tuple (A:=A.in1) hh _ l (IX hlt)<|intItems xs,⟨⟨_,Jc _ rfl,rfl,rfl⟩,hl.push _⟩,λb hb=>?_,(λ_ _=>MQ),λh' tk t' hk=>?_⟩
 .show b<(s.heap.push _).objs.size;rw[Kj];rcases IP.1 hb with rfl | hb
  .exact Kd _
  .rw[Jy.1 hb];exact Kh hlt
 .have:=h h' tk t' λb o e=>hk b o (λhm=>by rw[Jy.1 hm]at e;exact absurd (IF e)<|KF _)<|ID _ e
  simpa [intItems] using this
end
section
variable {X:Cx}{K:Fg}{p pos2:Pos}
def pG (hc:X.calm=true):A3 X (.builtin "sum") (λxs H Q=>∃(a:Of) (ns:List Int),xs=[.ref a]/\SqT X.K H a (ns.map V.int)/\Q (.int ns.sum) H):=by
 walk_at "kg";obtain⟨a,ns,rfl,hq,q⟩:=h;obtain⟨u,rfl,ru⟩:=L8 r;cases ru;obtain⟨its,rv,p,hz⟩:=I.tuple hq;have hi:=W4 rv;obtain⟨zs,hzs⟩:=hi.allInts.items;have hl:s.heap.IsTuple a (intItems zs):=hzs▸p;refine jc (I.ok.hd hc) hl λh' tk t' hk=>⟨.int ns.sum,H,I.kept hk,⟨t',?_⟩,q⟩
 have hn:=hi.numsOf;have e:numsOf (intItems zs).toList=ns:=by rw[<-hzs];exact hn
 rw[nums_intItems]at e;rw[preSum_eq,MN (by simp),e]
def Q9:List My->Option My
 | [.list ds]=>(T3 ds).map λns=>.int ns.sum
 | [.tuple ds]=>(T3 ds).map λns=>.int ns.sum
 | _=>none
def R7 (hK:X.K=K)(hc:X.calm=true):A3 X (.builtin "sum") (rDN K Q9):=by
 subst hK;walk_at "kc";unfold Q9 at hf;walk_at "kh"
 .obtain⟨ns,e,rfl⟩:=Ja.1 hf;cases J5 e;obtain⟨v,rfl,a,xs,rfl,ha,hd⟩:=aZ h1 rfl;cases cm hd;exact rj hc OM s σ H _ us Q I r ⟨a,ns,rfl,SqL.of<|g6 _ _ ha,q _ H (k8.refl H) c6.int⟩
 .obtain⟨ns,e,rfl⟩:=Ja.1 hf;cases J5 e;obtain⟨v,rfl,a,xs,rfl,ha,hd⟩:=aZ h1 rfl;cases cm hd;exact pG hc OM s σ H _ us Q I r ⟨a,ns,rfl,ha.same g6,q _ H (k8.refl H) c6.int⟩
theorem nO {H':Hp}:∀(ys:List My) (xs:List V) (ts:List Of) (k:Nat),ts.length=xs.length->c5 K H' ys xs->(∀(j:Nat) t,ts[j]? = some t->∃y,xs[j]? = some y/\H' t=some (.tup [.int<|(k+j:Nat),y]))->c5 K H' (O5 k ys) (ts.map V.ref)
 | [],xs,ts,k,hl,h,_=>by
  simp only[c5]at h;subst h;cases ts with
  | nil=>exact c5.nil
  | cons t r=>simp at hl
 | y::ys,xs,ts,k,hl,h,ha=>by
  simp only[c5]at h;obtain⟨x,r,rfl,h1,h2⟩:=h;cases ts with
  | nil=>simp at hl
  | cons t ts =>obtain⟨z,e1,e2⟩:=ha 0 t rfl;cases e1;refine⟨_,_,rfl,c6.tup e2 ⟨_,_,rfl,c6.int,_,_,rfl,h1,rfl⟩,nO ys r ts (k+1) (by simpa using hl) h2 λj u hu=>?_⟩;obtain⟨z,e1,e2⟩:=ha (j+1) u (by simpa using hu);exact⟨z,by simpa using e1,by rw[show k+1+j=k+(j+1) by omega];exact e2⟩
variable [Feeds]
def wx (m:DE->M My):DE->M My:=λE F=>(m E F).bind λp=>(cR p.1).bind λds=>if ds.length<=1000 then some (.list<|O5 0 ds,p.2) else none
def yt {B:List Of}{H1:Hp}{a:Of}{b:Bool}{xs:List V}{ys:List My}{Q:VK}{n0:Nat}(hq:SqA b K H1 a xs)(hd:c5 K (hid H1 B) ys xs)(hz:ys.length<=1000)(bk:BOk H1 B)
  (q:∀H' l,k8 H1 H'->c6 K (hid H' B) (.list<|O5 0 ys) (.ref l)->Q (.ref l) H'):∀it e,H1 it=none->H1 e=none->it≠e->Ao n0 K [.ref e] (upd (upd H1 it<|.ext<|phI b it a) e<|.ext<|phE n0 e it a) Q:=by
 intro it e n1 n2 hne;have sm2:k8 H1 (upd (upd H1 it<|.ext<|phI b it a) e<|.ext<|phE n0 e it a):=λc o z=>by rw[h8<|l6 z n2,h8<|l6 z n1];exact z
 refine⟨e,it,a,b,xs,rfl,i7,by rw[h8 hne];exact i7,?_,by rw[hd.length];exact hz,λH' l ts hl hlen hat hl' hk=>?_⟩
 .cases b
  .exact SqT.same (show SqT K H1 a xs from hq) sm2
  .rcases(show SqL K H1 a xs from hq) with (z | ⟨o,z⟩) | z
   .exact .inl<|.inl<|sm2 _ _ z
   .exact .inl<|.inr ⟨o,sm2 _ _ z⟩
   .exact .inr z
 .have nn:∀c,upd (upd H1 it<|.ext<|phI b it a) e (.ext<|phE n0 e it a) c=none->H1 c=none:=λc z=>by
   cases w:H1 c with
   | none=>rfl
   | some o=>rw[sm2 c o w]at z;cases z
  have sm:k8 H1 H':=λc o z=>hk c o (l6 z n2) (l6 z n1)<|sm2 c o z
  refine q H' l sm (c6.lst (by rw[l9<|bk.nin<|nn l hl];exact hl')<|nO ys xs ts 0 hlen (hd.same<|(Kp.same (fp:=[]) sm).hid<|by simp) λj t hj=>?_);obtain⟨h1,y,h2,h3⟩:=hat j t hj;exact⟨y,h2,by rw[l9<|bk.nin<|nn t h1,Jv];exact h3⟩
def sA {e:Oo}{m:DE->M My}(h:Ev K X e te m)(hc:X.calm=true)(hm:X.mg "enumerate" = none)(hml:X.mg "list" = none)(hbt:OD "list" = some (.type "list"))(hK:X.K=K:=by rfl)(hg:Gl X "enumerate":=by rfl)(hgl:Gl X "list":=by rfl)(hs:Ot [e] X.env=[(false,eval e X.env)]:=by rfl)
  (he:Ot [.Call (.Name "enumerate" p2) [e] [] pos2] X.env=(false,eval (.Call (.Name "enumerate" p2) [e] [] pos2) X.env)::Ot [] X.env:=by rfl) (hpl:(Ox pos<|Ot [] X.env).any (·.1)=false:=by rfl) :
  Ev K X (.Call (.Name "list" p) [.Call (.Name "enumerate" p2) [e] [] pos2] [] pos) (tCB (Ao X.s₀.heap.objs.size K)<|z8 (tEn X.s₀.heap.objs.size K<|z8 te P1) P1) (wx m) :=
 ⟨gG (iF hK hc) hgl hml hbt (l8 (xu hK hg hm (l8 h.pe A8 hs) hs) A8 he) (by decide) (by decide) he hpl,λG B E F σ H Q d F' I e q=>by
  obtain⟨⟨y,F1⟩,e1,e⟩:=bS9 e;obtain⟨z,e2,e⟩:=bS9 e;split at e
  .rename_i hz;cases e;refine h.ok G B E F σ H _ y F1 I e1 λv H1 k1 f1 h1=>?_
   have bk1:=A6 I.bk k1 f1;cases y with
   | list ys =>cases e2;simp only[c6]at h1;obtain⟨a,xs,rfl,ha,hd⟩:=h1;exact⟨a,rfl,true,xs,SqL.of<|g6 _ _ ha,yt (SqL.of<|g6 _ _ ha) hd hz bk1 λH' l sm hh=>q _ _ (k1.trans<|Kp.same sm) (f1.same sm) hh⟩
   | tuple ys =>cases e2;simp only[c6]at h1;obtain⟨a,xs,rfl,ha,hd⟩:=h1;exact⟨a,rfl,false,xs,ha.same g6,yt (ha.same g6) hd hz bk1 λH' l sm hh=>q _ _ (k1.trans<|Kp.same sm) (f1.same sm) hh⟩
   | _=>cases e2
  .cases e⟩
end
end
section
section
variable {X:Cx}{K:Fg}
def K9:List Int->Int
 | []=>0
 | [x]=>x
 | x::y::r=>max x<|K9 (y::r)
theorem V7:∀{ns:List Int} {n:Int},n∈ns->n<=K9 ns
 | [],n,h=>by cases h
 | [x],n,h=>by simp at h;subst h;exact LL _
 | x::y::r,n,h=>by
  rw[K9];rcases IP.1 h with rfl | h
  .omega
  .have:=V7 (ns:=y::r) h;omega
theorem Q7:∀{ns:List Int},ns≠[]->K9 ns∈ns
 | [],h=>absurd rfl h
 | [x],_=>by simp[K9]
 | x::y::r,_=>by
  have:=Q7 (ns:=y::r) (by simp);rw[K9];rcases Int.le_total x (K9 (y::r)) with z | z
  .rw[Int.max_eq_right z];exact IA _ this
  .rw[Int.max_eq_left z];exact IG
def BF (K:Fg):List V->Hp->VK->Prop:=λxs H Q=>∃(a:Of) (ns:List Int),xs=[.ref a]/\SqL K H a (ns.map V.int)/\ns≠[]/\Q (.int<|K9 ns) H
def pI (hK:X.K=K)(hc:X.calm=true):A3 X (.builtin "max") (BF K):=by
 subst hK;walk_at "kg";obtain⟨a,ns,rfl,hq,hne,q⟩:=h;obtain⟨u,rfl,ru⟩:=L8 r;cases ru;obtain⟨its,rv,p,hz⟩:=I.list hq;have hlen:its.length=ns.length:=by rw[<-rv.length,Iz]
 have hpos:0<ns.length:=Mf.2 hne;have hi:=W4 rv;obtain⟨zs,hzs⟩:=hi.allInts.items;have hl:s.heap.IsList a (intItems zs):=hzs▸p.isList;have hsz:zs.size=ns.length:=by
  have:(intItems zs).size=its.length:=by rw[<-hzs];simp
  rw[<-hlen,<-this];simp[intItems]
 have hval:∀(i:Nat) (v:Oe),its.toArray[i]? = some v->∃t,v = .int (ns.getD i 0) t:=λi v hv=>by
  have hv:its[i]? = some v:=by simpa using hv
  obtain⟨hi,_⟩:=IH.1 hv;have hb:(ns.map V.int)[i]? = some (V.int<|ns.getD i 0):=by rw[IU,IM<|by omega];simp[List.getD,IM<|show i<ns.length by omega]
  obtain⟨u,hu,ru⟩:=rv.get hb;rw[hv]at hu;cases hu;exact ru
 have hnum:∀i,i<ns.length->numAt zs i=ns.getD i 0:=λi hi=>by
  have hi2:i<its.length:=by omega
  obtain⟨t,e⟩:=hval i its[i] (by simp[hi2]);have e2:(intItems zs)[i]? = some its[i]:=by rw[<-hzs];simp[hi2]
  have:=MQ e2;obtain⟨t2,e3⟩:=this;rw[e]at e3;injection e3 with e4 _
  exact e4.symm
 refine max_intList (I.ok.hd hc) hl (by omega) λv h' tk hv hk=>?_
 obtain⟨h1,h2⟩:=argBest_gt (numAt zs)<|zs.size-1;obtain⟨t,e⟩:=MQ hv;subst e;generalize argBest (λi j=>decide (numAt zs i > numAt zs j)) (zs.size-1)=j at *;have hj:j<ns.length:=by omega
 have em:numAt zs j=K9 ns:=by rw[hnum j hj];refine Int.le_antisymm (V7<|getD_mem hj) ?_;obtain⟨i,hi,e⟩:=mem_getD<|Q7 hne;have:=h2 i (by omega);rw[hnum i hi,hnum j hj]at this;rw[<-e];exact this
 rw[em];exact⟨.int<|K9 ns,H,I.kept hk,⟨t,rfl⟩,q⟩
def lq:List My->Option My
 | [.list ds]=>(T3 ds).bind λns=>if ns=[] then none else some (.int<|K9 ns)
 | _=>none
def ni (hK:X.K=K)(hc:X.calm=true):A3 X (.builtin "max") (rDN K lq):=by
 walk_at "kc";unfold lq at hf;walk_at "kh"
 obtain⟨ns,e,hf⟩:=bS9 hf;split at hf
 .cases hf
 .rename_i hne;cases hf;cases J5 e;obtain⟨v,rfl,a,xs,rfl,ha,hd⟩:=aZ h1 rfl;cases cm hd;exact pI hK hc OM s σ H _ us Q I r ⟨a,ns,rfl,SqL.of<|g6 _ _ ha,hne,q _ H (k8.refl H) c6.int⟩
variable {mg:Str->Option Oe}
def intsV:List Oe->Option (List Int)
 | []=>some []
 | .int x _::r=>(intsV r).map (x :: ·)
 | _=>none
theorem dU:∀{us:List Oe} {ss:List Int},intsV us=some ss->n5 (ss.map V.int) us/\∀H,c5 K H (ss.map .int) (ss.map V.int)
 | [],ss,h=>by cases h;exact⟨.nil,λH=>c5.nil⟩
 | u::r,ss,h=>by
  cases u with
  | int x t =>obtain⟨ss',e1,rfl⟩:=Ja.1 (show(intsV r).map (x :: ·)=some ss from h);obtain⟨h1,h2⟩:=dU e1;exact⟨.cons ⟨t,rfl⟩ h1,λH=>⟨_,_,rfl,c6.int,h2 H⟩⟩
  | _=>cases h
def gd_mkI {h:Oq}{x:Str}{t:Of}{its:Array Oe}{n:Nat}{dd:Option Of}{sl:Array (Option Oe)}{ss:List Int}(X:K.In h)(G:h.Ns OA mg)(hn:PySem.W.nsIn K OA x=some (some<|.ref t))(hl:K.lookup t=some ⟨.type "tuple",dd,.seq its n,sl⟩)(hs:intsV its.toList=some ss)(hz:ss.length<=1000):GD K mg x (.tuple<|ss.map .int):=by
 obtain⟨h1,h2⟩:=dU (K:=K) hs;refine⟨t,JY X G hn,λH=>⟨t,ss.map V.int,rfl,.inr ⟨_,its,n,hl,rfl,rfl,?_,h1⟩,h2 H⟩⟩;have:=h1.length;rw[Iz]at this;have e:its.size=ss.length:=by rw[this];simp
 rw[e];exact IV hz (by rw[Jr];decide)
end
section
variable [Feeds]{X:Cx}{K:Fg}
def sY (i:Nat)(m:DE->M Out):DE->M Out:=λE F=>(az E i).bind λds=>m (E.set i<|some<|.dat<|.list ds) F
def Cm {i:Nat}{ts:TS}{m:DE->M Out}(h:TSd K ts m):TSd K ts (sY i m):=λG B0 H0 E F σ H D r F' S e q=>by
 obtain⟨ds,e4,e⟩:=bS9 e;obtain⟨B,s,sn,I⟩:=S.ex;have eo:=Q6 e4;have hil:i<E.length:=(IH.1 eo).1;obtain⟨w,w1,a,xs,rfl,hB,hf,hx,hdx⟩:=I.loc i _ eo;have ha:=S.own i ds a eo w1;have sub:∀b∈B.filter (λb=>decide (b≠a)),b∈B:=λb hb=>(KM.1 hb).1
 have inB:∀b∈B,b≠a->b∈B.filter (λb=>decide (b≠a)):=λb hb hn=>KM.2 ⟨hb,Je hn⟩
 have ng:a ∉ B.filter (λb=>decide (b≠a)):=λhb=>absurd rfl<|Jg (KM.1 hb).2
 have sm:k8 (hid H B) (hid H<|B.filter<|λb=>decide (b≠a)):=R6 sub;have get:∀j,j≠i->(E.set i<|some<|.dat<|.list ds)[j]? = E[j]?:=λj hj=>by rw[IL<|JC hj]
 have geti:(E.set i<|some<|.dat<|.list ds)[i]? = some (some<|.dat<|.list ds):=by rw[IR hil]
 refine h G B0 H0 (E.set i<|some<|.dat<|.list ds) F σ H D r F' ⟨⟨_,λb hb=>inB b (s b hb) λz=>ha.2<|z▸hb,λb hb=>sn b<|sub b hb,⟨I.fd,λb hb=>inB b (I.fB b hb) λz=>hf<|z▸hb,λb hb=>I.bk b<|sub b hb,by rw[JH];exact I.ln,λj x ej=>?_⟩⟩,S.fB,S.kp,λj es b ej=>?_,λj k es fs b ej ek=>?_,S.dic.set1 nofun⟩ e q
 .by_cases hj:j=i
  .subst hj;rw[geti]at ej;cases ej;refine⟨_,w1,c6.lst (by rw[l9 ng];exact hx)<|hdx.same sm⟩
  .rw[get j hj]at ej;obtain⟨v,v1,hv⟩:=I.loc j x ej;refine⟨v,v1,?_⟩;cases x with
   | dat d=>exact c6.same (hv:c6 _ _ _ _) sm
   | feed=>exact hv
   | fn _=>exact hv
   | adr _=>exact hv
   | own es =>obtain⟨b,ys,e1,hb1,hb2,hb3,hb4⟩:=hv;subst e1;exact⟨b,ys,rfl,inB b hb1 λz=>hj<|S.inj j i es ds a ej eo (z▸v1) w1,hb2,hb3,hb4.same sm⟩
   | dic w c ps =>obtain⟨b,ys,e1,hb1,hb2,hb3,hn,hb4⟩:=hv;subst e1;exact⟨b,ys,rfl,inB b hb1 λz=>(by rw[z,hx]at hb3;cases hb3),hb2,hb3,hn,hb4.same sm⟩
 .by_cases hj:j=i
  .subst hj;rw[geti]at ej;cases ej
  .rw[get j hj]at ej;exact S.own j es b ej
 .by_cases hj:j=i
  .subst hj;rw[geti]at ej;cases ej
  .by_cases hk:k=i
   .subst hk;rw[geti]at ek;cases ek
   .rw[get j hj]at ej;rw[get k hk]at ek;exact S.inj j k es fs b ej ek
def zI (i:Nat){st:On}{ts:TS}{m:DE->M Out}(h:Ss K X st ts m):Ss K X st ts (sY i m):=⟨h.ps,Cm h.ok⟩
end
end
section
section
variable {X:Cx}
end
section
variable [Feeds]{X:Cx}{K:Fg}{e:Oo}{m:DE->M My}
end
end
section
section
variable {w:Oi}{A:Oj}{E:Oe->Og->Prop}{s:Og}
end
section
variable [Feeds]{K:Fg}{X:Cx}
end
end
section
section
variable [Feeds]{X:Cx}{K:Fg}{e:Oo}{m:DE->M My}
end
end
section
section
variable [Feeds]{X:Cx}{K:Fg}{e:Oo}{m:DE->M My}
end
end
section
def len_1 {us:List Oe}(h:us.length=1):∃a,us=[a]:=List.length_eq_one_iff.1 h
def tq {us:List Oe}{n:Nat}(h:us.length=n+1):∃a r,us=a::r/\r.length=n:=by
 cases us with
 | nil=>cases h
 | cons a r=>exact⟨a,r,rfl,Nat.succ.inj h⟩
def len_2 {us:List Oe}(h:us.length=2):∃a b,us=[a,b]:=by obtain⟨a,r,rfl,h2⟩:=tq h;obtain⟨b,rfl⟩:=len_1 h2;exact⟨a,b,rfl⟩
def len_3 {us:List Oe}(h:us.length=3):∃a b c,us=[a,b,c]:=by obtain⟨a,r,rfl,h2⟩:=tq h;obtain⟨b,c,rfl⟩:=len_2 h2;exact⟨a,b,c,rfl⟩
def len_4 {us:List Oe}(h:us.length=4):∃a b c d,us=[a,b,c,d]:=by obtain⟨a,r,rfl,h2⟩:=tq h;obtain⟨b,c,d,rfl⟩:=len_3 h2;exact⟨a,b,c,d,rfl⟩
section
variable {K:Fg}{H:Hp}{B A:List Of}
end
section
variable [Feeds]
variable {K:Fg}{X:Cx}{e:Oo}{m:DE->M My}{tl:TA}{ms:DE->M (List DV)}{p:Pos}
end
end
section
inductive Al (K:Fg) (H:Hp):List (Int×My)->List (Int×V)->Prop
 | nil:Al K H [] []
 | cons {k:Int} {d:My} {v:V} {l m}:c6 K H d v->Al K H l m->Al K H ((k,d)::l) ((k,v)::m)
theorem Al.ins {K:Fg}{H:Hp}{k:Int}{d:My}{v:V}(h:c6 K H d v):∀{l m},Al K H l m->Al K H (aH (k,d) l) (aH (k,v) m)
 | _,_,.nil=>.cons h .nil
 | _,_,.cons (k:=k') h' r=>by
  simp only[aH];split
  .exact .cons h<|.cons h' r
  .exact .cons h'<|Al.ins h r
theorem Al.sort {K:Fg}{H:Hp}:∀{l m},Al K H l m->Al K H (K5 l) (K5 m)
 | _,_,.nil=>.nil
 | _,_,.cons h r=>Al.ins h r.sort
theorem Al.dats {K:Fg}{H:Hp}:∀{l m},Al K H l m->c5 K H (l.map Prod.snd) (m.map Prod.snd)
 | _,_,.nil=>c5.nil
 | _,_,.cons h r=>c5.cons h r.dats
theorem lY {K:Fg}{H:Hp}:∀{ns:List Int} {ds:List My} {xs:List V},c5 K H ds xs->Al K H (ns.zip ds) (ns.zip xs)
 | [],_,_,_=>.nil
 | n::ns,[],xs,h=>by
  have e:xs=[]:=KU.1 (by rw[h.length];rfl);subst e;exact .nil
 | n::ns,d::ds,xs,h=>by
  cases xs with
  | nil=>have:=h.length;simp at this
  | cons x xs =>simp only[c5]at h;obtain⟨y,ys,e,h1,h2⟩:=h;cases e;exact .cons h1<|lY h2
section
variable [Feeds]{K:Fg}{X:Cx}
end
end
section
section
variable [Feeds]{K:Fg}{X:Cx}
end
end
end L3
namespace L2
open PySem PySem.Spec PyProof.Rows
section
variable {P:Oh}{w:Oi}{K:Fg}{mg:Str->Option Oe}{base:Oq}
end
end L2
namespace L3
open PySem PySem.Spec PyProof.Rows L2
section
section
variable [Feeds]{P:Oh}{w:Oi}{K:Fg}{mg:Str->Option Oe}{base:Oq}
end
end
section
abbrev BN :=List<|Str×Of×Of
def zY (ts:BN)(h:Oq):Prop:=∀t∈ts,PySem.W.CodeHd h t.2.1 t.2.2/\h.get? t.2.2=some (PySem.W.tabObj #[])
def pF {P:Oh}{w:Oi}{K:Fg}{mg mb:Str->Option Oe}{CX:CXT}{k:Nat}{fa a:Of}{fd:Om}{x:Str}{sp:Sp}{s₁:Og}{vs:List Oe}{ns:List Int}{ts:BN}
  (KX:K.In s₁.heap) (hns:s₁.heap.Ns OA mg) (hb:s₁.heap.Ns builtinsNs mb) (hbb:∀x:Str,x ≠ "__name__"->mb x=OD x) (hlim:s₁.heap.NoLimit) (hg:s₁.gens = #[])
  (ha:s₁.heap.get? a=some { cls:=.type "list",data:=.seq vs.toArray }) (hi:IntsAre vs ns) (hl:ns.length<=Os) (hr:Room k callerA)
  (hT:zY ts s₁.heap) (hnt:PySem.W.noTabs K=true) (BM:BMd s₁.heap mg)
  (F:∀base:Oq,K.In base->base.Ns OA mg->BMd base mg->(∀t∈ts,PySem.W.CodeHd base t.2.1 t.2.2)->FnOk P w K mg base CX k fa fd [x] sp) (hbind:∀(s:Og) (u:Oe),BindsTo s fd ⟨[u],[]⟩ [(x,u)])
  (hsp:∀H:Hp,SqL K H a (ns.map V.int)->Q0 ts H->sp [.ref a] H (λv _=>v = .bl true) λ_ _ _=>False)
  (hCX:∀H e s',CX [] H s₁ (λ_ _ _=>False) e s'->False) :
  codeAny (model P w) callerA (.call (.ref fa) ⟨[.ref a],[]⟩) (λr s'=>r = .ok (.ret<|.bool true)/\OldK s₁.heap s'.heap/\s'.os=s₁.os/\AllBare s'.gens) s₁:=by
 have rv:=gM hi;have lenV:=hi.length;have aP:∀t∈ts,t.2.2≠a:=λt ht e=>by have:=(hT t ht).2;rw[e,ha]at this;cases this
 have core:∀H:Hp,(∀b,H b=none\/(b=a/\H b=some (.frz { cls:=.type "list",data:=.seq vs.toArray }<|.lst<|ns.map V.int))\/(b∈ts.map (·.2.2)/\H b=some (.tbl #[])))->(∀t∈ts,H t.2.2=some (.tbl #[]))->SqL K H a (ns.map V.int)->(H a≠none->K.lookup a=none) ->
   codeAny (model P w) callerA (.call (.ref fa) ⟨[.ref a],[]⟩) (λr s'=>r = .ok (.ret<|.bool true)/\OldK s₁.heap s'.heap/\s'.os=s₁.os/\AllBare s'.gens) s₁:=by
  intro H hO hTH hS hK;have tabO:∀{b:Of},b∈ts.map (·.2.2)->s₁.heap.get? b=some (PySem.W.tabObj #[]):=λ{b} hb=>by obtain⟨t,ht,rfl⟩:=Jm.1 hb;exact(hT t ht).2
  have hok:HOk P w H s₁.heap:=λb u e=>by
   rcases hO b with z | ⟨rfl,z⟩ | ⟨hb,z⟩
   .rw[z]at e;cases e
   .rw[z]at e;cases e;exact⟨ha,by rw[Iz];exact hl,vs,_,rv,ha⟩
   .rw[z]at e;cases e;exact tabO hb
  have base_of:∀{b:Of} {o:Ou},s₁.heap.get? b=some o->H b=none->(eQ s₁.heap H).get? b=some o:=λe n=>rf e n
  have other:∀{b:Of} {o:Ou},s₁.heap.get? b=some o->o≠{ cls:=.type "list",data:=.seq vs.toArray }->o≠PySem.W.tabObj #[]->H b=none:=λ{b o} e h1 h2=>by
   rcases hO b with z | ⟨rfl,z⟩ | ⟨hb,z⟩
   .exact z
   .rw[ha]at e;exact absurd (IS e).symm h1
   .rw[tabO hb]at e;exact absurd (IS e).symm h2
  have nsK:∀{b:Of} {m:Str->Option Oe},s₁.heap.Ns b m->(eQ s₁.heap H).Ns b m:=λ{b m} ⟨o,es,ep,e,d,r⟩=>⟨o,es,ep,base_of e (other e (λz=>by rw[z]at d;cases d) λz=>by rw[z]at d;cases d),d,r⟩
  have hKb:K.In (eQ s₁.heap H):=λb o e=>base_of (KX b o e) (by
   rcases hO b with z | ⟨rfl,z⟩ | ⟨hb,z⟩
   .exact z
   .rw[hK (by rw[z];simp)]at e;cases e
   .have e2:=KX b o e;rw[tabO hb]at e2;cases e2;have h2:=Ma.1 hnt _<|PySem.W.mem_of_lookupK e;exact absurd (show false=true from h2) IZ)
  have hM:Mod K mg (eQ s₁.heap H):=⟨hKb,nsK hns,⟨mb,nsK hb,hbb⟩,let ⟨mc,h1,h2⟩:=hlim;⟨mc,nsK h1,h2⟩⟩;have hBM:BMd (eQ s₁.heap H) mg:=by obtain⟨bm,ob,b1,b2,b3,b4,b5,b6⟩:=BM;exact⟨bm,ob,b1,b2,base_of b3 (other b3 (λz=>by rw[z]at b4;have b4:Oe.type "list" = Oe.type "module":=b4;exact absurd b4<|by decide) λz=>by rw[z]at b4;have b4:Oe.none=Oe.type "module":=b4;exact absurd b4<|by decide),b4,b5,b6⟩
  have hCd:∀t∈ts,PySem.W.CodeHd (eQ s₁.heap H) t.2.1 t.2.2:=λt ht=>by obtain⟨o,vs',file,tf,flags,tg,inF,text,tt,e1,r1,r2⟩:=(hT t ht).1;exact⟨o,vs',file,tf,flags,tg,inF,text,tt,base_of e1 (other e1 (λz=>by rw[z]at r1;have r1:Oe.type "list" = Oe.type "code":=r1;exact absurd r1<|by decide) λz=>by rw[z]at r1;have r1:Oe.none=Oe.type "code":=r1;exact absurd r1<|by decide),r1,r2⟩
  have e0:Env0 P w K mg (eQ s₁.heap H) callerA [] s₁ H:=⟨rfl,hM,λb o e=>xp e,Nat.le_of_eq<|pE _ _,trivial,λb hb=>absurd (show b∈([]:List Of) from hb) (by simp),hok,.of_eq hg⟩;have hTO:Q0 ts H:=λt ht=>⟨#[],hTH t ht,trivial,λpos cv e=>by cases e⟩
  refine Nd ((F _ hKb (nsK hns) hBM hCd).run callerA [] s₁ H ⟨[.ref a],[]⟩ [.ref a] [.ref a] _ _ hr e0 (hbind s₁<|.ref a) (.cons rfl .nil)<|hsp H hS hTO) λr s' h=>?_
  cases r with
  | error e=>exact(hCX H e s' h).elim
  | ok fl =>
   cases fl with
   | next=>exact False.elim h
   | brk=>exact False.elim h
   | cont=>exact False.elim h
   | ret u =>
    obtain⟨v,H',os,bare,un,hok',r',q⟩:=h;have q':v = .bl true:=q;subst q';obtain rfl:u=Oe.bool true:=r';have kept:∀b o,s₁.heap.get? b=some o->H b=none->s'.heap.get? b=some o:=λb o e q=>un.keep b o e q (by intro z;exact absurd (show b∈([]:List Of) from z)<|by simp) (by simp)
    have scr:∀b o,s₁.heap.get? b=some o->b=a->H b=some (.frz { cls:=.type "list",data:=.seq vs.toArray }<|.lst<|ns.map V.int)->s'.heap.get? b=some o:=λb o e hb z=>by have z2:=un.frzs b _ _ z;obtain⟨e1,_⟩:=hok b _ z;obtain⟨e2,_⟩:=hok' b _ z2;rw[e]at e1;cases e1;exact e2
    have tab:∀b,H b=some (.tbl #[])->∃more,s'.heap.get? b=some (PySem.W.tabObj more):=λb z=>by obtain⟨more,z2⟩:=un.tbls b _ z;exact⟨_,hok' b _ z2⟩
    refine⟨rfl,⟨λb o e=>?_,λb o e=>?_⟩,os,bare⟩
    .rcases hO b with z | ⟨hb,z⟩ | ⟨hb,z⟩
     .exact .inl<|kept b o e z
     .exact .inl<|scr b o e hb z
     .obtain⟨more,e2⟩:=tab b z;have e3:=tabO hb;rw[e]at e3;cases e3;obtain⟨t,ht,rfl⟩:=Jm.1 hb;refine .inr (.inl ⟨((hT t ht).1.tab (hT t ht).2).isCodeTable,rfl,#[],more,rfl,by rw[Array.empty_append];exact e2⟩)
    .rcases hO b with z | ⟨hb,z⟩ | ⟨hb,z⟩
     .exact⟨o,kept b o e z⟩
     .exact⟨o,scr b o e hb z⟩
     .obtain⟨more,e2⟩:=tab b z;exact⟨_,e2⟩
 cases hk:K.lookup a with
 | some o =>
  have e:=KX a o hk;rw[ha]at e;cases e;have haT:a ∉ ts.map (·.2.2):=λz=>by obtain⟨t,ht,e⟩:=Jm.1 z;exact aP t ht e
  refine core (λb=>if b∈ts.map (·.2.2) then some (.tbl #[]) else none) (λb=>?_) (λt ht=>IE<|Mg ht) (.inr ⟨_,vs.toArray,_,hk,rfl,rfl,rfl,by rw[IW,lenV];exact hl,by simpa using rv⟩) λz=>absurd (II haT) z
  by_cases hb:b∈ts.map (·.2.2)
  .exact .inr<|.inr ⟨hb,IE hb⟩
  .exact .inl<|II hb
 | none =>
  refine core (λb=>if b=a then some (.frz { cls:=.type "list",data:=.seq vs.toArray }<|.lst<|ns.map V.int) else if b∈ts.map (·.2.2) then some (.tbl #[]) else none) (λb=>?_) (λt ht=>?_) (.inl<|.inr ⟨{ cls:=.type "list",data:=.seq vs.toArray },IE rfl⟩) λ_=>hk
  .by_cases hb:b=a
   .exact .inr<|.inl ⟨hb,IE hb⟩
   .by_cases hb2:b∈ts.map (·.2.2)
    .exact .inr (.inr ⟨hb2,by rw[II hb,IE hb2]⟩)
    .exact .inl (by rw[II hb,II hb2])
  .rw[II<|aP t ht];exact IE (Mg (f:=λt:Str×Of×Of=>t.2.2) ht)
def walk_ofT {l:PySem.W.OpenLaw}{n k:Nat}{q:Oh}{loose:List Str}{XP:(Str->Option Oe)->Oq->Prop}{YP:Oi->Oq->Prop}{d:DefRec}{K:Params->Fg}{CX:Oi->CXT}{sp:Oi->Sp}{x:Str}(lam:List Str)
  (hn:l.most=some n) (hn2:n<=Os) (hdf:d.params.defaults=[]) (hr:Room k callerA)
  (hrec:(lam.all λx=>((recsOf q).find? λe=>e.name == x).isSome)=true) (hnt:∀w:Oi,PySem.W.noTabs (K w.params)=true)
  (hY:∀(w:Oi) (h:Oq),YP w h->(K w.params).In h)
  (F:∀(w:Oi) (mg:Str->Option Oe) (fa:Of) (h:Oq),(K w.params).In h->h.Ns OA mg->mg d.name=some (.ref fa) ->
   ∃fd:Om,(∀(s:Og) (u:Oe),BindsTo s fd ⟨[u],[]⟩ [(x,u)]) /\
    ∀base:Oq,(K w.params).In base->base.Ns OA mg->BMd base mg->(∀t∈tabsK lam (K w.params),PySem.W.CodeHd base t.2.1 t.2.2)->FnOk l.prog w (K w.params) mg base (CX w) k fa fd [x] (sp w))
  (hsp:∀(w:Oi) (H:Hp) (a:Of) (ns:List Int),ns.length<=n->SqL (K w.params) H a (ns.map V.int)->Q0 (tabsK lam<|K w.params) H->sp w [.ref a] H (λv _=>v = .bl true) λ_ _ _=>False)
  (hCX:∀(w:Oi) (H:Hp) (s:Og) (e:Oe) (s':Og),CX w [] H s (λ_ _ _=>False) e s'->False) :
  PySem.W.WalkO q loose XP YP l.row.toRowW d [] (λf vs=>PySem.call f vs):=by
 refine Att.attach_call hn hdf λw s₀ s₁ mg mb fa o pm cd doc a vs ns G Y ho hd hcd hmg hobj hints hlen hg=>?_
 have KX:=hY w _ Y;obtain⟨fd,hb,hF⟩:=F w mg fa _ KX G.T.g hmg;refine pF (ts:=tabsK lam<|K w.params) KX G.T.g G.T.b G.T.builtins G.T.nolimit hg hobj hints (IV hlen hn2) hr (λt ht=>?_) (hnt w) G.T.bmain hF hb (λH hS hT=>hsp w H a ns hlen hS hT) λH e s'=>hCX w H s₁ e s'
 obtain⟨x,hx,e⟩:=Nw.1 ht;obtain⟨⟨c,P⟩,e1,e2⟩:=Ja.1 e;cases e2;obtain⟨dr,hdr⟩:=JS.1<|Ma.1 hrec x hx;exact PySem.W.tab_of G.T KX hdr e1
end
variable {te:TE}{pos:Pos}
section
section
variable [Feeds]{K:Fg}{X:Cx}{e a b c:Oo}
def rG (K:Fg)(B:List Of)(H H':Hp):DV->V->Prop
 | .dat d,v=>c6 K (hid H' B) d v
 | .own ds,v=>∃a vs,v = .ref a/\H a=none/\H' a=some (.lst vs)/\c5 K (hid H' (a::B)) ds vs
 | .feed,_=>False
 | .fn _,_=>False
 | .adr _,_=>False
 | .dic w c ps,v=>w=true/\∃a xs,v = .ref a/\H a=none/\H' a=some (.ext<|NDi (B3 c) a xs)/\(∃h,NDi (B3 c) a xs h)/\KVs K (hid H' (a::B)) c ps xs
def fU (B:List Of):DV->V->List Of
 | .own _,.ref a=>a::B
 | .dic _ _ _,.ref a=>a::B
 | _,_=>B
def TCd (K:Fg)(te:TE)(mc:DE->M DV):Prop:=∀(G:GF) (B:List Of) (E:DE) (F:FS) (σ:St) (H:Hp) (Q:VK) (dv:DV) (F':FS),SitE K G B E F σ H->mc E F=some (dv,F') ->
 (∀v H',Kp (m7 K G) H H'->FAt K G H' F'->rG K B H H' dv v->Q v H')->te σ H Q
structure Ec (K:Fg) (X:Cx) (e:Oo) (te:TE) (m:DE->M DV):Prop where
 pe:PE X e te
 ok:TCd K te m
def cD (m:DE->M My):DE->M DV:=λE F=>(m E F).bind λp=>some (.dat p.1,p.2)
def cO (m:DE->M (List My)):DE->M DV:=λE F=>(m E F).bind λp=>some (.own p.1,p.2)
def CI {m:DE->M My}(h:Ev K X e te m):Ec K X e te (cD m):=⟨h.pe,λG B E F σ H Q dv F' I e q=>by obtain⟨⟨d,F1⟩,e1,e⟩:=bS9 e;cases e;exact h.ok G B E F σ H _ d F1 I e1 λv H' k f r=>q v H' k f r⟩
def Cp {m:DE->M (List My)}(h:Ef K X e te m):Ec K X e te (cO m):=⟨h.pe,λG B E F σ H Q dv F' I e q=>by obtain⟨⟨d,F1⟩,e1,e⟩:=bS9 e;cases e;exact h.ok G B E F σ H _ d F1 I e1 λa vs H' h1 h2 k f r=>q _ H' k f ⟨a,vs,rfl,h1,h2,r⟩⟩
section
variable {G:GF}{B B0:List Of}{E:DE}{F F1:FS}{σ:St}{H H1 H0:Hp}{dv:DV}{v:V}{i:Nat}
def zK (I:SitE K G B E F σ H)(k1:Kp (m7 K G) H H1)(r:rG K B H H1 dv v):k8 (hid H B) (hid H1<|fU B dv v):=by
 cases dv with
 | dat d=>exact k1.hid I.fB
 | feed=>exact r.elim
 | fn _=>exact r.elim
 | adr _=>exact r.elim
 | own ds =>
  obtain⟨a,vs,rfl,hn,ha,h1⟩:=r;intro b o eb;by_cases hb:b∈B
  .rw[G2 hb]at eb;cases eb
  .rw[l9 hb]at eb;have hne:=l6 eb hn;show hid H1 (a::B) b=some o;rw[l9<|by simp[hne,hb]];exact k1 b o eb λz=>hb<|I.fB b z
 | dic w c ps =>
  obtain⟨_,a,vs,rfl,hn,ha,_,h1⟩:=r;intro b o eb;by_cases hb:b∈B
  .rw[G2 hb]at eb;cases eb
  .rw[l9 hb]at eb;have hne:=l6 eb hn;show hid H1 (a::B) b=some o;rw[l9<|by simp[hne,hb]];exact k1 b o eb λz=>hb<|I.fB b z
def bH :∀b∈B,b∈fU B dv v:=λb hb=>by cases dv <;> cases v <;> first | exact hb | exact IA _ hb
def SitE.moreC (I:SitE K G B E F σ H)(k1:Kp (m7 K G) H H1)(f1:FAt K G H1 F1)(r:rG K B H H1 dv v):SitE K G (fU B dv v) E F1 σ H1:=by
 have sm:=zK I k1 r;refine⟨f1,λb hb=>bH b<|I.fB b hb,λb hb=>?_,I.ln,λj x ej=>?_⟩
 .have old:b∈B->∃o,H1 b=some o:=λhb=>(I.step k1 f1).bk b hb
  cases dv with
  | dat d=>cases v <;> exact old hb
  | feed=>exact r.elim
  | fn _=>exact r.elim
  | adr _=>exact r.elim
  | own ds =>
   obtain⟨a,vs,rfl,hn,ha,h1⟩:=r;rcases IP.1 hb with rfl | hb
   .exact⟨_,ha⟩
   .exact old hb
  | dic w c ps =>
   obtain⟨_,a,vs,rfl,hn,ha,h1⟩:=r;rcases IP.1 hb with rfl | hb
   .exact⟨_,ha⟩
   .exact old hb
 .obtain⟨w,v1,v2⟩:=I.loc j x ej;refine⟨w,v1,?_⟩;cases x with
  | dat d=>exact c6.same (show c6 K (hid H B) d w from v2) sm
  | feed=>exact v2
  | fn _=>exact v2
  | adr _=>exact v2
  | own es =>obtain⟨a',xs',rfl,hB',hf',ha',hd'⟩:=v2;exact⟨a',xs',rfl,bH _ hB',hf',k1 _ _ ha' hf',hd'.same sm⟩
  | dic w c ps =>obtain⟨a',xs',rfl,hB',hf',ha',hn',hd'⟩:=v2;exact⟨a',xs',rfl,bH _ hB',hf',k1 _ _ ha' hf',hn',hd'.same sm⟩
def Sit.putC (S:Sit K G B0 H0 E F σ H)(s:∀b∈B0,b∈B)(sn:∀b∈B,b∈B0\/H0 b=none)(I:SitE K G B E F σ H)(k1:Kp (m7 K G) H H1)(f1:FAt K G H1 F1)(r:rG K B H H1 dv v)(hl:i<E.length) :
  Sit K G B0 H0 (E.set i<|some dv) F1 (σ.set i<|some v) H1/\(∀b∈B0,b∈fU B dv v)/\(∀b∈fU B dv v,b∈B0\/H0 b=none)/\SitE K G (fU B dv v) (E.set i<|some dv) F1 (σ.set i<|some v) H1:=by
 have hsl:i < σ.length:=by rw[<-I.ln];exact hl
 have s':∀b∈B0,b∈fU B dv v:=λb hb=>bH b<|s b hb
 have newB:∀ds,dv = .own ds->∃a vs,v = .ref a/\H1 a=some (.lst vs)/\c5 K (hid H1 (a::B)) ds vs/\a ∉ B/\a ∉ m7 K G/\H0 a=none:=λds e=>by
  subst e;obtain⟨a,vs,rfl,hn,ha,h1⟩:=r;have haB:a ∉ B:=I.bk.nin hn;have haf:a ∉ m7 K G:=λz=>haB<|I.fB a z
  exact⟨a,vs,rfl,ha,h1,haB,haf,S.kp.none hn haf⟩
 have newD:∀w c ps,dv = .dic w c ps->∃a xs,v = .ref a/\H1 a=some (.ext<|NDi (B3 c) a xs)/\(∃h,NDi (B3 c) a xs h)/\KVs K (hid H1 (a::B)) c ps xs/\a ∉ B/\a ∉ m7 K G/\H0 a=none:=λw c ps e=>by
  subst e;obtain⟨_,a,vs,rfl,hn,ha,hs,h1⟩:=r;have haB:a ∉ B:=I.bk.nin hn;have haf:a ∉ m7 K G:=λz=>haB<|I.fB a z
  exact⟨a,vs,rfl,ha,hs,h1,haB,haf,S.kp.none hn haf⟩
 have sn':∀b∈fU B dv v,b∈B0\/H0 b=none:=λb hb=>by
  cases dv with
  | dat d=>cases v <;> exact sn b hb
  | feed=>exact r.elim
  | fn _=>exact r.elim
  | adr _=>exact r.elim
  | own ds =>
   obtain⟨a,vs,rfl,ha,h1,haB,haf,h0⟩:=newB ds rfl;rcases IP.1 hb with rfl | hb
   .exact .inr h0
   .exact sn b hb
  | dic w c ps =>
   obtain⟨a,vs,rfl,ha,hs,h1,haB,haf,h0⟩:=newD w c ps rfl;rcases IP.1 hb with rfl | hb
   .exact .inr h0
   .exact sn b hb
 have IC:=I.moreC k1 f1 r;have I':SitE K G (fU B dv v) (E.set i<|some dv) F1 (σ.set i<|some v) H1:=by
  refine⟨IC.fd,IC.fB,IC.bk,by rw[JH,JH];exact I.ln,λj x ej=>?_⟩;by_cases hj:i=j
  .subst hj;rw[IR hl]at ej;cases ej;refine⟨v,by rw[IR hsl],?_⟩;cases dv with
   | dat d=>cases v <;> exact r
   | feed=>exact r.elim
   | fn _=>exact r.elim
   | adr _=>exact r.elim
   | own ds =>obtain⟨a,vs,rfl,ha,h1,haB,haf,h0⟩:=newB ds rfl;exact⟨a,vs,rfl,IG,haf,ha,h1⟩
   | dic w c ps =>obtain⟨a,vs,rfl,ha,hs,h1,haB,haf,h0⟩:=newD w c ps rfl;exact⟨a,vs,rfl,IG,haf,ha,hs,h1⟩
  .rw[IL hj]at ej;obtain⟨w,v1,v2⟩:=IC.loc j x ej;exact⟨w,by rw[IL hj];exact v1,v2⟩
 have other:∀(ds:List My) (j:Nat) (es:List My) (a:Of),dv = .own ds->v = .ref a->E[j]? = some (some<|DV.own es)->σ[j]? ≠ some (some<|V.ref a):=λds j es a e ev ej z=>by obtain⟨a1,vs,ev1,ha,h1,haB,haf,h0⟩:=newB ds e;rw[ev]at ev1;cases ev1;obtain⟨w,v1,a',xs',rfl,hB',_⟩:=I.loc j _ ej;rw[v1]at z;cases z;exact haB hB'
 refine⟨⟨⟨fU B dv v,s',sn',I'⟩,S.fB,S.kp.trans k1,λj es a' ej sj=>?_,λj k es es' a' ej ek sj sk=>?_,λj c ps a' ej sj=>?_⟩,s',sn',I'⟩;rotate_left 2
 .have otherD:∀(k:Nat) (w:Bool) (c:Nat) (ps:List (My×My)),E[k]? = some (some<|DV.dic w c ps)->σ[k]? = some (some<|V.ref a')->a'∈B:=λk w c ps ek sk=>by obtain⟨v9,w1,a9,xs9,rfl,hB9,_⟩:=I.loc k _ ek;rw[w1]at sk;cases sk;exact hB9
  by_cases hj:i=j
  .subst hj;rw[IR hl]at ej;rw[IR hsl]at sj;have e1:dv = .dic true c ps:=IS<|IS ej;have e2:v = .ref a':=IS<|IS sj;obtain⟨a,vs,ev,ha,hs,h1,haB,haf,h0⟩:=newD _ _ _ e1;rw[e2]at ev;cases ev;refine⟨⟨h0,λz=>haB<|s _ z⟩,λk w' c' ps' ek sk=>?_⟩;by_cases hk:i=k
   .exact hk
   .rw[IL hk]at ek sk;exact absurd (otherD k w' c' ps' ek sk) haB
  .rw[IL hj]at ej sj;obtain⟨h1,h2⟩:=S.dic j c ps a' ej sj;refine⟨h1,λk w' c' ps' ek sk=>?_⟩;by_cases hk:i=k
   .subst hk;rw[IR hl]at ek;rw[IR hsl]at sk;have e1:dv = .dic w' c' ps':=IS<|IS ek;have e2:v = .ref a':=IS<|IS sk;obtain⟨a,vs,ev,ha,hs,h3,haB,haf,h0⟩:=newD _ _ _ e1;rw[e2]at ev;cases ev;exact absurd (otherD j true c ps ej sj) haB
   .rw[IL hk]at ek sk;exact h2 k w' c' ps' ek sk
 .by_cases hj:i=j
  .subst hj;rw[IR hl]at ej;rw[IR hsl]at sj;have e1:dv = .own es:=IS<|IS ej;have e2:v = .ref a':=IS<|IS sj;obtain⟨a,vs,ev,ha,h1,haB,haf,h0⟩:=newB es e1;rw[e2]at ev;cases ev;exact⟨h0,λz=>haB<|s _ z⟩
  .rw[IL hj]at ej sj;exact S.own j es a' ej sj
 .by_cases hj:i=j
  .by_cases hk:i=k
   .rw[<-hj,<-hk]
   .subst hj;rw[IR hl]at ej;rw[IR hsl]at sj;rw[IL hk]at ek sk;have e1:dv = .own es:=IS<|IS ej;have e2:v = .ref a':=IS<|IS sj;exact absurd sk<|other es k es' a' e1 e2 ek
  .by_cases hk:i=k
   .subst hk;rw[IR hl]at ek;rw[IR hsl]at sk;rw[IL hj]at ej sj;have e1:dv = .own es':=IS<|IS ek;have e2:v = .ref a':=IS<|IS sk;exact absurd sj<|other es' j es a' e1 e2 ej
   .rw[IL hj]at ej sj;rw[IL hk]at ek sk;exact S.inj j k es es' a' ej ek sj sk
end
noncomputable def oA (i j:Nat)(c1 c2:DE->M DV):DE->M Out:=λE F=>(c1 E F).bind λp=>(c2 E p.2).bind λq=>if i<E.length/\j<E.length then some (.nx<|(E.set i<|some p.1).set j<|some q.1,q.2) else none
def xj (i j:Nat){x y:Str}{t1 t2:TE}{c1 c2:DE->M DV}{px py pt:Pos}{kt k2 pt2}(hc:X.calm=true)(hN:X.N.Nodup)(h1:Ec K X a t1 c1)(h2:Ec K X b t2 c2)(hi:X.N[i]? = some x:=by rfl)(hj:X.N[j]? = some y:=by rfl)(hij:i≠j:=by decide)
  (hx:X.env.scope.names.lookup x=some .local:=by rfl) (hy:X.env.scope.names.lookup y=some .local:=by rfl)
  (hw:swappedStores [.Tuple [.Name x px,.Name y py] kt pt] (.Tuple [a,b] k2 pt2) X.env=pure (some [x,y]):=by rfl)
  (hs:swapsWithSole [.Tuple [.Name x px,.Name y py] kt pt] (.Tuple [a,b] k2 pt2) pos.line X.env=pure false:=by rfl)
  (hs1:Ot [a,b] X.env=(false,eval a X.env)::Ot [b] X.env:=by rfl) (hs2:Ot [b] X.env=(false,eval b X.env)::Ot [] X.env:=by rfl) :
  Ss K X (.Assign [.Tuple [.Name x px,.Name y py] kt pt] (.Tuple [a,b] k2 pt2) pos) (Aa i j<|z8 t1<|z8 t2 P1) (oA i j c1 c2):=⟨qN hc hN hi hj hij hx hy (l8 h1.pe (l8 h2.pe A8 hs2) hs1) hw hs,λG B0 H0 E F σ H D r F' S e q=>by
 obtain⟨⟨d1,F1⟩,e1,e⟩:=bS9 e;obtain⟨⟨d2,F2⟩,e2,e⟩:=bS9 e;split at e;case isFalse=>cases e
 rename_i hl;cases e;obtain⟨B,s,sn,I⟩:=S.ex;refine h1.ok G B E F σ H _ d1 F1 I e1 λv H1 k1 f1 r1=>?_
 obtain⟨S1,s1,sn1,I1⟩:=S.putC s sn I k1 f1 r1 hl.1;refine h2.ok G _ E F1 σ H1 _ d2 F2 (I.moreC k1 f1 r1) e2 λw H2 k2' f2 r2=>?_
 obtain⟨S2,_⟩:=S1.putC s1 sn1 I1 k2' f2 r2 (i:=j) (by rw[JH];exact hl.2);exact⟨v,w,rfl,q _ _ S2⟩⟩
end
end
section
section
variable {K:Fg}{X0:Cx}{tg iter:Oo}
def fx {env:Ov}:∀{names:List (Str×OI)} {x:Str},names.lookup x=some .cell\/names.lookup x=some .free ->
  (names.map λ(n,k)=>if (k == OI.free&&env.scope.kind == .function&&env.kindOf n == some .cell) then(n,OI.cell) else(n,k)).lookup x=some .cell\/(names.map λ(n,k)=>if (k == OI.free&&env.scope.kind == .function&&env.kindOf n == some .cell) then(n,OI.cell) else(n,k)).lookup x=some .free
 | [],_,h=>by simp at h
 | (n,k)::r,x,h=>by
  have ih:=@fx env r x;show List.lookup x ((if (k == OI.free&&env.scope.kind == .function&&env.kindOf n == some .cell)=true then(n,OI.cell) else(n,k))::_)=_\/List.lookup x ((if (k == OI.free&&env.scope.kind == .function&&env.kindOf n == some .cell)=true then(n,OI.cell) else(n,k))::_)=_;cases hx:x == n with
  | true =>
   simp only[Jp,hx]at h;by_cases hc:(k == OI.free&&env.scope.kind == .function&&env.kindOf n == some .cell)=true
   .rw[IE hc];simp[Jp,hx]
   .rw[II hc];simpa [Jp,hx] using h
  | false =>
   simp only[Jp,hx]at h;by_cases hc:(k == OI.free&&env.scope.kind == .function&&env.kindOf n == some .cell)=true
   .rw[IE hc];simp only[Jp,hx];exact ih h
   .rw[II hc];simp only[Jp,hx];exact ih h
def zq [Feeds]{elt:Oo}{ifs:List Oo}{scope0 scope:Ol}{N0 N:List Str}{cl0 C0 ex0 pins0 s0 H0}{k:Nat}{cap:List Nat}{wi:TI}{g:TG}{tt:TT}{mi:DE->M (List My)}{bd:My->DE->Option DE}{mt:DE->M Bool}{me:DE->M My}
  (hc:(cxC X0 N0 scope0 cl0 C0 ex0 pins0 s0 H0).calm=true) (hcap:Caps N0 scope0 N k cap scope) (hi:Eib K (cxC X0 N0 scope0 cl0 C0 ex0 pins0 s0 H0) tg iter wi mi)
  (hg:∀cl C ex OM s H,Eg K (cxC (cxC X0 N0 scope0 cl0 C0 ex0 pins0 s0 H0) N scope cl C ex OM s H) tg g bd)
  (ht:∀cl C ex OM s H,Ets K (cxC (cxC X0 N0 scope0 cl0 C0 ex0 pins0 s0 H0) N scope cl C ex OM s H) ifs tt mt)
  (he:∀cl C ex OM s H,Ev K (cxC (cxC X0 N0 scope0 cl0 C0 ex0 pins0 s0 H0) N scope cl C ex OM s H) elt te me)
  (hs:∀x,OE iter (cxC X0 N0 scope0 cl0 C0 ex0 pins0 s0 H0).env x=pure x:=by intro _;rfl) :
  Ev K (cxC X0 N0 scope0 cl0 C0 ex0 pins0 s0 H0) (.ListComp elt [⟨tg,iter,ifs,0⟩] scope pos) (tLC wi k cap g tt te) (sLC mi k cap bd mt me) :=
 K3 (osc:=relabel scope0 X0.env) hc rfl ⟨hcap.kind,hcap.cell,hcap.loc,λy hy e=>fx<|hcap.free y hy e,hcap.len,hcap.capx,hcap.capf⟩ hi hg ht he hs
end
section
variable {K:Fg}{X:Cx}[Feeds]
end
end
section
end
section
section
variable {K:Fg}{X:Cx}[Feeds]
end
end
section
section
variable {M:Lang}{A:Oj}{E:Oe->Og->Prop}{s:Og}
def fX :seqSlot? (.type "list") (dunderI "add")=pure (some<|.builtin "list.__iadd__"):=PySem.seqSlot_of MR.lookup (by decide +kernel)
def eF :fillsInplaceSlot (.type "list") "add" (Operator.Add == .Add)=pure false:=by
 unfold fillsInplaceSlot;show(typeLookup (.type "list") (dunderI "add") >>= λfi=>pure<|fi.isSome && !isSeqSlot fi)=pure false;rw[MR.lookup];show(pure ((some<|Oe.builtin "list.__iadd__").isSome && !isSeqSlotId "list.__iadd__"):Sem Bool)=pure false;have:isSeqSlotId "list.__iadd__" = true:=by decide +kernel
 rw[this];rfl
end
section
variable {prog:Oh}{w:Oi}{A:Oj}{E:Oe->Og->Prop}{s:Og}
def oV {a b:Oe}{Q:Oe->Og->Prop}(ha:s.TypeIs a "list")(hb:s.TypeIs b "list")(hc:Oz (model prog w) A (call (.builtin "list.__iadd__") [a,b]) Q E s):Oz (model prog w) A (inplaceOp .Add a b) Q E s:=by unfold inplaceOp;refine JL ?_;refine Iw<|wpAny_typeOf ha<|Iw<|Nu eF ?_;show Oz _ A (if false=true then _ else _) Q E s;rw[II IZ];refine Iw<|binaryOp1_none (nm:="add") ha hb noFill_list_add ?_;refine Iw<|Nu fX ?_;exact Iw<|KN hc
end
section
variable {K:Fg}{X:Cx}[Feeds]
def ipE :TIp:=λx y H Q=>∃l b xs zs,x = .ref l/\y = .ref b/\H l=some (.lst xs)/\H b=some (.lst zs)/\xs.length+zs.length<=Os/\Q (.ref l) (upd H l<|.lst<|xs++zs)
def Af :PIp X .Add ipE:=by
 intro OM s σ H x y v u Q I rx ry h;obtain⟨l,b,xs,zs,rfl,rfl,hH,hB,hz,q⟩:=h;cases rx;cases ry;obtain⟨z,its,n,r,hl,e⟩:=I.lstM hH;obtain⟨z2,its2,n2,r2,hl2,e2⟩:=I.lstM hB;have hsz:its.toArray.size+its2.toArray.size<=Os:=by rw[IW,IW];omega
 have hlong:¬(!its.toArray.isEmpty&&Builtin.List.listTooLong (its.toArray.size+its2.toArray.size))=true:=by rw[eI hsz,Bool.and_false];exact IZ
 refine oV ⟨_,e,rfl⟩ ⟨_,e2,rfl⟩ ?_;refine Lp MR ⟨_,e,rfl⟩ PySem.F.entry_list_iadd (PySem.F.args_list_iadd_2 _ _)
  (AutoSeq1.list___iadd___list_list_0 l its.toArray n b its2.toArray n2 hlong (by rw[IW];omega)<|by omega) ⟨e,e2,?_⟩
 refine⟨.ref l,_,I.lset (its':=its++its2) hH e (by simp) (r.append r2) ?_,rfl,q⟩;rw[JJ];omega
theorem kh {α:Type}:∀{l:List α} {i:Nat} {a:α},l[i]? = some a->l.set i a=l
 | [],_,_,h=>by simp at h
 | x::l,0,a,h=>by simp at h;simp[h]
 | x::l,i+1,a,h=>by simp at h;simp[kh h]
variable {e:Oo}{m:DE->M My}
def AD {i:Nat}(hv:TEs K te m):TSd K (zm i te ipE) (jK i m):=λG B0 H0 E F σ H D r F' S e q=>by
 obtain⟨⟨d,F1⟩,e1,e⟩:=bS9 e;obtain⟨ds,e4,e⟩:=bS9 e;dsimp only at e;split at e
 .split at e
  .rename_i hl;cases e;obtain⟨B,s,sn,I⟩:=S.ex;have eo:=Q6 e4;obtain⟨w,w1,a,xs,rfl,hB,hf,hx,hdx⟩:=I.loc i _ eo;refine⟨_,w1,hv G B E F σ H _ (.list _) _ I e1 λu H2 k2 f2 h2=>?_⟩;obtain⟨b,ys,rfl,hb,hdb⟩:=h2;have hd2:=hdx.same<|k2.hid I.fB;refine⟨a,b,xs,ys,rfl,rfl,k2 a _ hx hf,g6 _ _ hb,by rw[hdx.length,hdb.length];exact hl,?_⟩;show D.nx (List.set σ i<|some<|V.ref a) _;rw[kh w1];exact q σ _<|(S.step k2 f2).write s sn (I.step k2 f2) eo w1<|c5.append hdb hd2
  .cases e
 .cases e
def wz (i:Nat){x:Str}{pos':Pos}(hN:X.N.Nodup)(he:Eb K X e te m)(hi:X.N[i]? = some x:=by rfl)(hx:Loc X.env.scope x:=by walk_at "v")(hf:X.fn x=true\/X.env.scope.names.lookup x=some .local:=by walk_at "v") :
  Ss K X (.AugAssign (.Name x pos') .Add e pos) (zm i te ipE) (jK i m):=⟨Am hN hi hx he.pe Af hf,AD he.ok⟩
variable {a b:Oo}
end
end
section
section
variable [Feeds]
variable {K:Fg}{X:Cx}{e i v1 v2 v3:Oo}{es:List Oo}{t1 t2 t3 ti:TE}{m1 m2 m3 mi:DE->M My}{p p1 p2 p3:Pos}
variable {P:Oh}{w:Oi}{mg:Str->Option Oe}{base:Oq}
end
end
section
section
variable {prog:Oh}{w:Oi}{A:Oj}{E:Oe->Og->Prop}{s:Og}
variable {b1 b2:Bool}{z TI TO i1 i2 l1 l2:Of}{k:Nat}{xs ys:Array Oe}{x y a b:Oe}
end
end
section
section
variable {prog:Oh}{w:Oi}{A:Oj}{E:Oe->Og->Prop}{s:Og}
end
section
variable [Feeds]{K:Fg}{X:Cx}{tg e1 e2:Oo}{te1 te2:TE}{m1 m2:DE->M My}{p tp:Pos}{es:List Oo}{tk:Nat}
end
end
end L3
namespace L2
open PySem PySem.Spec PyProof.Rows
variable {elt iter:Oo}{scope:Ol}{pos:Pos}{ifs ifs1:List Oo}
section
def sO (target iter:Oo)(ifs:List Oo)(it:Oe)(env:Ov)(act:Sem Unit)(more:Sem Fin):Sem Fin:=do
 standAt iter.pos
 match <-pyNext it with
 | none=>pure<|.done .next
 | some v =>
  letOwnedTupleGo target it v
  assign target env v
  let mut ok:=true
  for c in ifs do
   if ok then ok <-isTrue c env (eval c env)
  if ok then act
  more
def nB (e:Oo)(iter1:Oo)(acc:Oe)(env:Ov)(k:Sem Fin):Sem Fin:=do
 let x <-eval iter1 env
 standAt iter1.pos
 let x <-OE iter1 env x
 let _ <-runOwn (.compStart e 1 (<-holding [x] (pyIter x)) acc env) env
 k
def qO (elt tg iter tg1 iter1:Oo)(ifs ifs1:List Oo)(scope:Ol)(pos:Pos)(it acc:Oe)(env:Ov) :
  compTurn (.ListComp elt [⟨tg,iter,ifs,0⟩,⟨tg1,iter1,ifs1,0⟩] scope pos) 0 it acc env=nq tg iter ifs it env (nB (.ListComp elt [⟨tg,iter,ifs,0⟩,⟨tg1,iter1,ifs1,0⟩] scope pos) iter1 acc env) (again<|.compLoop (.ListComp elt [⟨tg,iter,ifs,0⟩,⟨tg1,iter1,ifs1,0⟩] scope pos) 0 it acc env):=by rfl
def wm (elt tg iter tg1 iter1:Oo)(ifs ifs1:List Oo)(scope:Ol)(pos:Pos)(it acc:Oe)(env:Ov) :
  compTurn (.ListComp elt [⟨tg,iter,ifs,0⟩,⟨tg1,iter1,ifs1,0⟩] scope pos) 1 it acc env=sO tg1 iter1 ifs1 it env (kn elt acc env) (again<|.compLoop (.ListComp elt [⟨tg,iter,ifs,0⟩,⟨tg1,iter1,ifs1,0⟩] scope pos) 1 it acc env):=by rfl
section
variable {prog:Oh}{w:Oi}{A:Oj}{R:Result->Og->Prop}{s:Og}
def Ce {gens:List Comprehension}{d:Nat}{it acc:Oe}{env:Ov}{target:Oo}{act:Sem Unit}(I:Nat->Og->Prop)
  (ht:compTurn (.ListComp elt gens scope pos) d it acc env=sO target iter ifs it env act (again<|.compLoop (.ListComp elt gens scope pos) d it acc env))
  (turn:∀n s,I n s->Oz (model prog w) A (pyNext it) (λr s₁=>match r with
   | none=>R (.ok .next) s₁
   | some v=>Oz (model prog w) A (letOwnedTupleGo target it v) (λ_ s₀=>Oz (model prog w) A (assign target env v) (λ_ s₂ =>
     Oz (model prog w) A (forIn ifs true λc r=>if r=true then do let ok <-isTrue c env (eval c env);pure (ForInStep.yield ok) else pure (ForInStep.yield r)) (λok s₃ =>
      if ok=true then Oz (model prog w) A act (λ_ s₅=>∃m,m<n/\I m s₅) (λ_ _=>False) s₃
      else ∃m,m<n/\I m s₃) (λ_ _=>False) s₂) (λ_ _=>False) s₀) (λ_ _=>False) s₁) (λ_ _=>False) s)
  (n:Nat) (h:I n s):codeAny (model prog w) A (.compLoop (.ListComp elt gens scope pos) d it acc env) R s:=by
 refine codeAny_loop rfl I (λn s hI=>?_) n h;show Oz _ A ((compTurn (.ListComp elt gens scope pos) d it acc env).onRaise (λx=>do noteFrame x env;theTreesLotGoes x)) _ _ s;refine wpAny_noted ?_;rw[ht];unfold sO;refine Iw (KG<|Iw<|Jh (turn n s hI) (λr s₁ h₁=>?_) λ_ _ h'=>h'.elim);cases r with
 | none=>exact Iy h₁
 | some v =>
  refine Iw (Jh h₁ (λ_ s₀ h₀=>?_) λ_ _ h'=>h'.elim);refine Iw (Jh h₀ (λ_ s₂ h₂=>Iw<|Jh h₂ (λok s₃ h₃=>?_) λ_ _ h'=>h'.elim) λ_ _ h'=>h'.elim);cases ok with
  | false=>exact Iy ⟨rfl,h₃⟩
  | true=>exact Iw (Jh h₃ (λ_ s₅ h₅=>Iy ⟨rfl,h₅⟩) λ_ _ h'=>h'.elim)
def rK {g0:Comprehension}{target:Oo}{rest:List Comprehension}{it acc:Oe}{env:Ov}
  (h0:codeAny (model prog w) A (.compLoop (.ListComp elt (g0::⟨target,iter,ifs,0⟩::rest) scope pos) 1 it acc env) R s)
  (h:Oz (model prog w) A (pyIter it) (λit' s'=>codeAny (model prog w) A (.compLoop (.ListComp elt (g0::⟨target,iter,ifs,0⟩::rest) scope pos) 1 it' acc env) R s') (notedBy (model prog w) A env λx s'=>R (.error x) s') s) :
  codeAny (model prog w) A (.compStart (.ListComp elt (g0::⟨target,iter,ifs,0⟩::rest) scope pos) 1 it acc env) R s:=by
 refine codeAny_of_tree ?_;show Oz _ _ ((compStart (.ListComp elt (g0::⟨target,iter,ifs,0⟩::rest) scope pos) 1 it acc env).onRaise (λx=>do noteFrame x env;standAt theWindowsPlace)) _ _ s;refine wpAny_notedAt ?_;unfold compStart;show Oz _ _ (ask >>= _) _ _ s;refine Iw<|wpAny_askSetting<|wpAny_ite ?_;split
 .first | exact Iw (Iy<|Iy<|And.intro rfl h0) | exact Iy<|And.intro rfl h0
 .first | exact Iw (KN<|Iw<|KG<|Iw<|Jh h (λit' s' h'=>Iy<|And.intro rfl h') λ_ _ x=>x) | (refine Iw<|KN ?_;show Oz _ _ (standAt iter.pos >>= _) _ _ s;exact Iw<|KG<|Iw<|Jh h (λit' s' h'=>Iy<|And.intro rfl h') λ_ _ x=>x)
end
def tIn (wi:TI)(g:TG)(tt:TT)(te:TE)(D:Of):TM:=λσ H Q=>wi σ H λJ H1 =>
 ∃W:Nat->Nat->St->List V->Hp->Prop,(∃m acc,H1 D=some (.lst acc)/\W 0 m σ acc H1)/\∀i m O' acc H',W i m O' acc H' ->
  (J.stop i H'/\Q O' H') \/
  (J.go i H'/\∀x H2,J.yld i H' x H2->g x O' H2 λσ2 H3=>tt σ2 H3 λok H4=>if ok=true then te σ2 H4 λy H5=>H5 D=some (.lst acc)/\acc.length<Os/\∃m',m'<m/\W (i+1) m' σ2 (acc++[y]) (upd H5 D<|.lst<|acc++[y])
   else H4 D=some (.lst acc)/\∃m',m'<m/\W (i+1) m' σ2 acc H4)
def Bh {Y:Cx}{tg tg1 iter1:Oo}{wi:TI}{g:TG}{tt:TT}{te:TE}{D:Of}(hx:Y.xe = λ_ _=>False)(hc:Y.calm=true)(hi:PI Y tg1 iter1 wi)(hg:PG Y tg1 g)(ht:PTs Y ifs1 tt)(he:PE Y elt te)
  (hs:∀x,OE iter1 Y.env x=pure x):PM Y (nB (.ListComp elt [⟨tg,iter,ifs,0⟩,⟨tg1,iter1,ifs1,0⟩] scope pos) iter1 (.ref D) Y.env) (tIn wi g tt te D):=by
 intro OM s σ H Q I h k R E hk;unfold nB;have hxe:∀{a b},Y.xe a b->False:=λ{a b} z=>by rw[hx]at z;exact z
 refine Iw (Jh (hi OM s σ H _ I h) (λv s1 h1=>Iw<|KG ?_) λ_ _ z=>(hxe z).elim);rw[hs];refine Iw (Iy<|Iw<|JL<|Jh h1 (λitv s2 h2=>?_) λ_ _ z=>(hxe z).elim);obtain⟨it,fp,tn,J,H2,e,I2,T,st2,f2,W,⟨m0,acc0,hD0,w0⟩,turn⟩:=h2;subst e;have stat:∀{H':Hp},(∀b∈fp,H' b=none)->∀b∈fp,bq Y OM H' b:=λhn b hb=>⟨hn b hb,(f2 b hb).2⟩
 refine Iw<|wpAny_runOwn ?_;have loop:codeAny (model Y.prog Y.w) (Y.A.mark none) (.compLoop (.ListComp elt [⟨tg,iter,ifs,0⟩,⟨tg1,iter1,ifs1,0⟩] scope pos) 1 (.ref it) (.ref D) Y.env) (λr s'=>match r with | .ok f=>Oz (model Y.prog Y.w) Y.A k R E s' | .error e=>cameBackBy (model Y.prog Y.w) Y.A Y.env E e s') s2:=by
  refine Ce (A:=Y.A) (λn s'=>∃i O' acc H',Inv Y OM O' H' s'/\tn i s'.heap/\(∀b∈fp,H' b=none)/\H' D=some (.lst acc)/\W i n O' acc H') (wm ..) ?_ m0 ⟨0,σ,acc0,H2,I2,st2,λb hb=>(f2 b hb).1,hD0,w0⟩;rintro n s5 ⟨i,σ5,acc,H5,I5,st5,fr5,hD5,w5⟩;rcases turn i n σ5 acc H5 w5 with ⟨stop,q⟩ | ⟨go,step⟩
  .refine Jh (T.done Y rfl rfl rfl hc i OM s5 σ5 H5 _ I5 (stat fr5) st5 stop) (λr s6 ⟨hr,I6⟩=>?_) λ_ _ z=>z
   subst hr;exact hk s6 σ5 H5 I6 q
  .refine Jh (T.item Y rfl rfl rfl hc i OM s5 σ5 H5 _ I5 (stat fr5) st5 go) (λr s6 ⟨u,hr,h6⟩=>?_) λ_ _ z=>z
   subst hr;refine Jh h6 (λ_ s7 ⟨x,H7,I7,r7,y7,st7,fr7⟩=>?_) λ_ _ z=>z
   have I7':=I7.pinned (stat fr7)<|T.obj _ _ st7;have keepI:∀{s':Og} {O':St} {H':Hp},Inv Y (OM++bY fp s7.heap) O' H' s'->tn (i+1) s'.heap/\∀b∈fp,H' b=none:=λ{s' O' H'} I'=>by refine⟨T.keep _ _ _ st7 λb hb o e=>(I'.pin (b,o)<|Jl _<|Jl _<|M2 hb e).1,λb hb=>?_⟩;obtain⟨o,e,d⟩:=T.obj _ _ st7 b hb;exact(I'.pin (b,o)<|Jl _<|Jl _<|M2 hb e).2.1
   refine Jh (hg _ s7 σ5 H7 x u _ I7' r7<|step x H7 y7) (λ_ s8 ⟨σ8,H8,I8,q8⟩=>?_) λ_ _ z=>hxe z
   refine Jh (ht _ s8 σ8 H8 _ I8 q8) (λok s9 ⟨H9,I9,q9⟩=>?_) λ_ _ z=>hxe z
   cases ok with
   | false =>have q9:H9 D=some (.lst acc)/\∃m',m'<n/\W (i+1) m' σ8 acc H9:=q9;obtain⟨hD9,m',hm,w9⟩:=q9;obtain⟨k1,k2⟩:=keepI I9;exact⟨m',hm,i+1,σ8,acc,H9,I9.unpinned,k1,k2,hD9,w9⟩
   | true =>show Oz _ _ (kn elt (.ref D) Y.env) _ _ _;unfold kn;refine Iw (Jh (he _ s9 σ8 H9 _ I9 q9) (λyv s10 ⟨y,H10,I10,r10,hD10,hz,m',hm,w10⟩=>?_) λ_ _ z=>hxe z);refine Iw (Jh (av (X:=Y) _ s10 σ8 H10 (.ref D) [y] (.ref D) [yv] (λ_ H'=>H'=upd H10 D (.lst<|acc++[y])) I10 rfl (.cons r10 .nil) ⟨D,acc,y,rfl,rfl,hD10,hz,rfl⟩) (λ_ s11 ⟨_,H11,I11,_,e11⟩=>Iy ?_) λ_ _ z=>hxe z);subst e11;obtain⟨k1,k2⟩:=keepI I11;exact⟨m',hm,i+1,σ8,acc++[y],_,I11.unpinned,k1,k2,i7,w10⟩
 exact rK loop<|T.self _ 0 _ _ _ st2 loop
end
section
def oZ {X:Cx}{tg tg1 iter1:Oo}{osc:Ol}{N:List Str}{k:Nat}{cap:List Nat}{g:TG}{tt:TT}{tm:TM}{cl:List (Str×Of)}
  {OM:List (Of×Ou)} {σ:St} {H3:Hp} {s3:Og} {D it:Of} {fp:List Of} {tn:Nat->Oq->Prop} {J:It} {Q:VK} {W:Nat->Nat->St->Hp->Prop} {m0:Nat}
  (hc:X.calm=true) (hosc:X.env.scope=osc) (hcap:Caps X.N osc N k cap scope)
  (hcl:∀{x:Str} {c:Of},cl.lookup x=some c->X.env.cells.lookup x=some c) (hhas:∀x,(x,OI.free)∈scope.names->∃c,cl.lookup x=some c)
  (hg:∀cl C ex OM s H,PG (cxC X N scope cl C ex OM s H) tg g)
  (ht:∀cl C ex OM s H,PTs (cxC X N scope cl C ex OM s H) ifs tt)
  (he:∀cl C ex OM s H,PM (cxC X N scope cl C ex OM s H) (nB (.ListComp elt [⟨tg,iter,ifs,0⟩,⟨tg1,iter1,ifs1,0⟩] scope pos) iter1 (.ref D) (cxC X N scope cl C ex OM s H).env) tm)
  (I3:Inv X OM σ H3 s3) (T:Turn X.prog X.w X.K tg J fp it tn) (st:tn 0 s3.heap) (f3:∀b∈fp,bq X OM H3 b) (w0:W 0 m0 (aG k cap σ) H3)
  (turn:∀i m O' H',W i m O' H'->(J.stop i H'/\Q (.ref D) H') \/
   (J.go i H'/\∀x H2,J.yld i H' x H2->g x O' H2 λσ2 H3=>tt σ2 H3 λok H4=>if ok=true then tm σ2 H4 λσ3 H5=>∃m',m'<m/\W (i+1) m' σ3 H5 else ∃m',m'<m/\W (i+1) m' σ2 H4)) :
  Oz (model X.prog X.w) X.A (newFunctionEnv scope X.env.globals cl [] X.env.qual none .none<|some X.env) (λcenv s₄ =>
   codeAny (model X.prog X.w) X.A (.compStart (.ListComp elt [⟨tg,iter,ifs,0⟩,⟨tg1,iter1,ifs1,0⟩] scope pos) 0 (.ref it) (.ref D) { cenv with scope:=relabel scope X.env }) (compPost (model X.prog X.w) X.A X.xe none (EP X OM σ Q) (.ref D) cenv.locals) s₄) X.xe s3:=by
 refine jo (P:=λC=>compPost (model X.prog X.w) X.A X.xe none (EP X OM σ Q) (.ref D) C) (Qs:=Q<|.ref D) (W:=W) (λenv=>qO ..) hc hosc hcap hcl hhas hg ht I3 T st f3 w0 (λs6 σ5 H5 I6 I7 q=>?_) λi m O' H' w=>?_
 .obtain⟨m,hn,_⟩:=id I6.loc;refine⟨m,hn,λh' hsb=>?_⟩;obtain⟨g0,g1,g2,g3,g4,g5⟩:=I3.fpOk (H':=H5) (b:=s3.heap.objs.size) (IT _) I6.free;exact⟨.ref D,H5,I7.turned (t':=s6.toks) (λb o hb e=>(hsb.2 b hb).trans e) g0 g1 g3 g4 g5,rfl,q⟩
 .rcases turn i m O' H' w with h | ⟨go,step⟩
  .exact .inl h
  .exact .inr ⟨go,_,step,λσ2 H4 h=>h,λpins' s σ2 H4 I h k R E hk=>he _ _ _ _ _ _ _ s σ2 H4 _ I h k R E hk⟩
def yW (wi:TI)(k:Nat)(cap:List Nat)(g:TG)(tt:TT)(wi1:TI)(g1:TG)(tt1:TT)(te:TE):TE:=λσ H Q=>wi σ H λJ H1=>∀D,H1 D=none ->
 ∃W:Nat->Nat->St->Hp->Prop,(∃m,W 0 m (aG k cap σ)<|upd H1 D<|.lst [])/\∀i m O' H',W i m O' H' ->
  (J.stop i H'/\Q (.ref D) H') \/
  (J.go i H'/\∀x H2,J.yld i H' x H2->g x O' H2 λσ2 H3=>tt σ2 H3 λok H4=>if ok=true then tIn wi1 g1 tt1 te D σ2 H4 λσ3 H5=>∃m',m'<m/\W (i+1) m' σ3 H5 else ∃m',m'<m/\W (i+1) m' σ2 H4)
def yK {X:Cx}{tg tg1 iter1:Oo}{osc:Ol}{N:List Str}{k:Nat}{cap:List Nat}{wi:TI}{g:TG}{tt:TT}{wi1:TI}{g1:TG}{tt1:TT}{te:TE}
  (hc:X.calm=true) (hosc:X.env.scope=osc) (hcap:Caps X.N osc N k cap scope) (hi:PI X tg iter wi)
  (hg:∀cl C ex OM s H,PG (cxC X N scope cl C ex OM s H) tg g)
  (ht:∀cl C ex OM s H,PTs (cxC X N scope cl C ex OM s H) ifs tt)
  (hi1:∀cl C ex OM s H,PI (cxC X N scope cl C ex OM s H) tg1 iter1 wi1)
  (hg1:∀cl C ex OM s H,PG (cxC X N scope cl C ex OM s H) tg1 g1)
  (ht1:∀cl C ex OM s H,PTs (cxC X N scope cl C ex OM s H) ifs1 tt1)
  (he:∀cl C ex OM s H,PE (cxC X N scope cl C ex OM s H) elt te)
  (hs1:∀cl C ex OM s H x,OE iter1 (cxC X N scope cl C ex OM s H).env x=pure x:=by intros;rfl)
  (hs:∀x,OE iter X.env x=pure x:=by intro _;rfl) :
  PE X (.ListComp elt [⟨tg,iter,ifs,0⟩,⟨tg1,iter1,ifs1,0⟩] scope pos) (yW wi k cap g tt wi1 g1 tt1 te):=by
 intro OM s σ H Q I h;have hcell:∀y∈scope.names,y.2 = .free->∃c,X.env.cells.lookup y.1=some c:=λy hy hk=>I.ok.has y.1 (by show X.env.scope.names.lookup y.1=_\/X.env.scope.names.lookup y.1=_;rw[hosc];exact hcap.free y hy hk)
 let f:Str->Of:=λx=>(X.env.cells.lookup x).getD 0
 have hf:∀y∈scope.names,y.2 = .free->X.env.cells.lookup y.1=some (f y.1):=λy hy hk=>by obtain⟨c,e⟩:=hcell y hy hk;show _=some ((X.env.cells.lookup y.1).getD 0);rw[e];rfl
 have hclos:closureFor scope X.env=pure (G9 f scope.names []):=M1 λy hy hk=>by unfold cellOf;rw[hf y hy hk]
 have hcl:∀{x:Str} {c:Of},(G9 f scope.names []).lookup x=some c->X.env.cells.lookup x=some c:=λ{x c} e=>by
  rcases O7 _ _ e with ⟨h1,h2⟩ | h1
  .rw[h2];exact hf (x,.free) h1 rfl
  .simp at h1
 have hhas:∀x,(x,OI.free)∈scope.names->∃c,(G9 f scope.names []).lookup x=some c:=λx hx=>⟨_,ae _ _<|.inl hx⟩
 generalize G9 f scope.names []=cl at hclos hcl hhas;rw[eval_ListComp];refine Mm (use:=none) (cl:=cl) rfl hs hclos hcap.kind hcap.loc ?_;refine thn (hi OM s σ H _ I h) λv s1 h1=>thn h1 λitv s2 h2=>?_
 obtain⟨it,fp,tn,J,H2,e,I2,T,st2,f2,q2⟩:=h2;subst e;obtain⟨W,⟨m0,w0⟩,turn⟩:=q2 s2.heap.objs.size<|I2.hok.fresh<|IT _;refine JP ?_;have I3:Inv X OM σ (upd H2 s2.heap.objs.size<|.lst []) { s2 with heap:=s2.heap.push { cls:=.type "list",data:=.seq ([]:List Oe).toArray } }:=I2.lnew (ys:=[]) (its:=[]) (t':=s2.toks) .nil<|JV _;have lt2:∀b∈fp,b≠s2.heap.objs.size:=λb hb=>by obtain⟨o,e,_⟩:=T.obj _ _ st2 b hb;exact IX<|IF e
 exact oZ hc hosc hcap hcl hhas hg ht (λcl C ex OM s H=>Bh (Y:=cxC X N scope cl C ex OM s H) rfl hc (hi1 cl C ex OM s H) (hg1 cl C ex OM s H) (ht1 cl C ex OM s H) (he cl C ex OM s H)<|hs1 cl C ex OM s H) I3 T (T.keep _ _ (s2.heap.push { cls:=.type "list",data:=.seq ([]:List Oe).toArray }) st2 λb _ o e=>ID _ e) (λb hb=>⟨by rw[h8<|lt2 b hb];exact(f2 b hb).1,(f2 b hb).2⟩) w0 turn
end
end L2
namespace L3
open PySem PySem.Spec PyProof.Rows L2
variable {bd1:My->DE->Option DE}
section
section
variable [Feeds]
variable {K:Fg}{X:Cx}{tg iter tg1 iter1 elt:Oo}{te:TE}{pos:Pos}
noncomputable def jw (bd:My->DE->Option DE)(mt:DE->M Bool)(me:DE->M My):List My->DE->M (List My×DE)
 | [],E,F=>some (([],E),F)
 | d::r,E,F=>(bd d E).bind λE1=>(mt E1 F).bind λp=>if p.1=true then(me E1 p.2).bind λy=>(jw bd mt me r E1 y.2).bind λz=>some ((y.1::z.1.1,z.1.2),z.2) else jw bd mt me r E1 p.2
def bA (bd:My->DE->Option DE)(mt:DE->M Bool)(mi1:DE->M (List My))(bd1:My->DE->Option DE)(mt1:DE->M Bool)(me:DE->M My):List My->DE->M (List My)
 | [],_,F=>some ([],F)
 | d::r,E,F=>(bd d E).bind λE1=>(mt E1 F).bind λp=>if p.1=true then(mi1 E1 p.2).bind λits=>(jw bd1 mt1 me its.1 E1 its.2).bind λz=>(bA bd mt mi1 bd1 mt1 me r z.1.2 z.2).bind λw=>some (z.1.1++w.1,w.2) else bA bd mt mi1 bd1 mt1 me r E1 p.2
def lX (mi:DE->M (List My))(k:Nat)(cap:List Nat)(bd:My->DE->Option DE)(mt:DE->M Bool)(mi1:DE->M (List My))(bd1:My->DE->Option DE)(mt1:DE->M Bool)(me:DE->M My):DE->M My:=λE F =>
 (mi E F).bind λp=>(bA bd mt mi1 bd1 mt1 me p.1 (dO k cap E) p.2).bind λz=>if z.1.length<=Os then some (.list z.1,z.2) else none
def BH {wi wi1:TI}{mi mi1:DE->M (List My)}{k:Nat}{cap:List Nat}{g g1:TG}{bd:My->DE->Option DE}{tt tt1:TT}{mt mt1:DE->M Bool}{me:DE->M My}(hi:TIs K wi mi)(hg:TGd K g bd)(ht:TTd K tt mt)
  (hi1:TId K wi1 mi1) (hg1:TGd K g1 bd1) (ht1:TTd K tt1 mt1) (he:TEd K te me):TEd K (yW wi k cap g tt wi1 g1 tt1 te) (lX mi k cap bd mt mi1 bd1 mt1 me):=λG B E F σ H Q d F' I e q=>by
 obtain⟨⟨items,F1⟩,e1,e⟩:=bS9 e;obtain⟨⟨whole,F2⟩,e2,e⟩:=bS9 e;split at e
 .rename_i hsz;cases e;have hsz:whole.length<=Os:=hsz;refine hi G B E F σ H _ items F1 I e1 λJ H1 k1 f1 ok D hD=>?_
  have I1:SitE K G B E F1 σ H1:=I.step k1 f1;have hBD:D ∉ B:=I1.bk.nin hD;have hfD:D ∉ m7 K G:=λz=>hBD<|I.fB D z
  have stab:∀{H':Hp},Kp (m7 K G) H1 H'->Kp (m7 K G) H1 H'/\k8 (hid H1 B) (hid H' (D::B)):=λ{H'} k=>⟨k,λb o eb=>by
   by_cases hb:b∈B
   .rw[G2 hb]at eb;cases eb
   .rw[l9 hb]at eb;rw[l9 (by
     intro z;rcases IP.1 z with rfl | z
     .rw[hD]at eb;cases eb
     .exact hb z)]
    exact k b o eb λz=>hb<|I.fB b z⟩
  obtain⟨W,hW⟩:∃W:Nat->Nat->St->Hp->Prop,W = λi m O' H'=>m=items.length-i/\i<=items.length/\∃E F done rest acc,SitE K G (D::B) E F O' H'/\H' D=some (.lst acc)/\Kp (m7 K G) H1 H'/\(∀(j:Nat) (ds:List My),E[j]? = some (some<|DV.own ds)->O'[j]? ≠ some (some<|V.ref D))/\c5 K (hid H' (D::B)) done acc/\bA bd mt mi1 bd1 mt1 me (items.drop i) E F=some (rest,F2)/\whole=done++rest:=⟨_,rfl⟩
  have w0:W 0 items.length (aG k cap σ) (upd H1 D<|.lst []):=by rw[hW];refine⟨by simp,JV _,dO k cap E,F1,[],whole,[],(I1.cap k cap).more hD,i7,Kp.upd hD,λj ds ej z=>?_,c5.nil,e2,rfl⟩;obtain⟨v,v1,a,xs,rfl,_,_,ha,_⟩:=(I1.cap k cap).loc j _ ej;rw[v1]at z;cases z;rw[hD]at ha;cases ha
  refine⟨W,⟨_,w0⟩,λi m O' H' w=>?_⟩;have wn:∀{i m O' H'},(m=items.length-i/\i<=items.length/\∃E F done rest acc,SitE K G (D::B) E F O' H'/\H' D=some (.lst acc)/\Kp (m7 K G) H1 H'/\(∀(j:Nat) (ds:List My),E[j]? = some (some<|DV.own ds)->O'[j]? ≠ some (some<|V.ref D))/\c5 K (hid H' (D::B)) done acc/\bA bd mt mi1 bd1 mt1 me (items.drop i) E F=some (rest,F2)/\whole=done++rest)->W i m O' H':=λh=>by rw[hW];exact h
  rw[hW]at w;clear hW w0;obtain⟨rfl,hil,E',F3,done,rest,acc,I2,hD2,k2,ow,hd2,e3,ew⟩:=w;by_cases hlt:i<items.length
  .refine .inr ⟨((ok H' (D::B)<|stab k2).1 i items[i]<|by simp[hlt]).1,λx H2 y=>?_⟩;obtain⟨s2,hx⟩:=((ok H' (D::B)<|stab k2).1 i items[i]<|by simp[hlt]).2 x H2 y;have hx':=hx I2.bk;rw[Jw hlt,bA]at e3;obtain⟨E4,e4,e3⟩:=bS9 e3;obtain⟨⟨b,F5⟩,e5,e3⟩:=bS9 e3;have I3:SitE K G (D::B) E' F3 O' H2:=I2.step (Kp.same s2)<|I2.fd.same s2;refine hg G (D::B) E' F3 O' H2 x items[i] E4 _ I3 hx' e4 λσ4 I4 fr=>?_
   have ow4:∀(j:Nat) (ds:List My),E4[j]? = some (some<|DV.own ds)->σ4[j]? ≠ some (some<|V.ref D):=λj ds ej=>by
    obtain⟨a1,a2⟩:=fr j λy z=>by rw[ej]at z;cases z
    rw[a2];exact ow j ds<|a1▸ej
   refine ht G (D::B) E4 F3 σ4 H2 _ b F5 I4 e5 λH5 k5 f5=>?_
   have kall:Kp (m7 K G) H1 H5:=(k2.trans<|Kp.same s2).trans k5;have I5:SitE K G (D::B) E4 F5 σ4 H5:=I4.step k5 f5;have hD5:H5 D=some (.lst acc):=k5 D _ (s2 D _ hD2) hfD;have hd5:c5 K (hid H5 (D::B)) done acc:=(hd2.same<|(Kp.same s2).hid (fp:=[])<|by simp).same<|k5.hid I4.fB;cases b with
   | false=>exact⟨items.length-(i+1),by omega,wn ⟨rfl,hlt,E4,F5,done,rest,acc,I5,hD5,kall,ow4,hd5,e3,ew⟩⟩
   | true =>
    obtain⟨⟨its,F6⟩,e6,e3⟩:=bS9 e3;obtain⟨⟨⟨zs,Ez⟩,F7⟩,e7,e3⟩:=bS9 e3;obtain⟨⟨ws,F8⟩,e8,e3⟩:=bS9 e3;cases e3;refine hi1 G (D::B) E4 F5 σ4 H5 _ its F6 I5 e6 λJ1 H6 k6 f6 ok1=>?_
    have I6:SitE K G (D::B) E4 F6 σ4 H6:=I5.step k6 f6;have hD6:H6 D=some (.lst acc):=k6 D _ hD5 hfD;obtain⟨V5,hV⟩:∃V5:Nat->Nat->St->List V->Hp->Prop,V5 = λj n σ5 acc5 H7=>n=its.length-j/\j<=its.length/\∃E F done' rest',SitE K G (D::B) E F σ5 H7/\H7 D=some (.lst acc5)/\Kp (m7 K G) H1 H7/\k8 (hid H6 (D::B)) (hid H7 (D::B))/\(∀(j:Nat) (ds:List My),E[j]? = some (some<|DV.own ds)->σ5[j]? ≠ some (some<|V.ref D))/\c5 K (hid H7 (D::B)) done' acc5/\jw bd1 mt1 me (its.drop j) E F=some ((rest',Ez),F7)/\whole=done'++rest'++ws:=⟨_,rfl⟩
    have v0:V5 0 its.length σ4 acc H6:=by rw[hV];exact⟨by simp,JV _,E4,F6,done,zs,I6,hD6,kall.trans k6,λ_ _ z=>z,ow4,hd5.same<|k6.hid I5.fB,e7,by rw[ew,NL]⟩
    refine⟨V5,⟨its.length,acc,hD6,v0⟩,λj n σ5 acc5 H7 w=>?_⟩;have vn:∀{j n σ5 acc5 H7},(n=its.length-j/\j<=its.length/\∃E F done' rest',SitE K G (D::B) E F σ5 H7/\H7 D=some (.lst acc5)/\Kp (m7 K G) H1 H7/\k8 (hid H6 (D::B)) (hid H7 (D::B))/\(∀(j:Nat) (ds:List My),E[j]? = some (some<|DV.own ds)->σ5[j]? ≠ some (some<|V.ref D))/\c5 K (hid H7 (D::B)) done' acc5/\jw bd1 mt1 me (its.drop j) E F=some ((rest',Ez),F7)/\whole=done'++rest'++ws)->V5 j n σ5 acc5 H7:=λh=>by rw[hV];exact h
    rw[hV]at w;clear hV v0;obtain⟨rfl,hj,E5,F9,done5,rest5,I7,hD7,k7,s7,ow5,hd7,e9,ew9⟩:=w;by_cases hjl:j<its.length
    .refine .inr ⟨((ok1 H7 (D::B) s7).1 j its[j]<|by simp[hjl]).1,λx1 H8 y1=>?_⟩;obtain⟨s8,hx8⟩:=((ok1 H7 (D::B) s7).1 j its[j]<|by simp[hjl]).2 x1 H8 y1;have hx8':=hx8 I7.bk;rw[Jw hjl,jw]at e9;obtain⟨Ea,ea,e9⟩:=bS9 e9;obtain⟨⟨bb,Fb⟩,eb,e9⟩:=bS9 e9;have I8:SitE K G (D::B) E5 F9 σ5 H8:=I7.step (Kp.same s8)<|I7.fd.same s8;refine hg1 G (D::B) E5 F9 σ5 H8 x1 its[j] Ea _ I8 hx8' ea λσa Ia fra=>?_
     have owa:∀(j:Nat) (ds:List My),Ea[j]? = some (some<|DV.own ds)->σa[j]? ≠ some (some<|V.ref D):=λj ds ej=>by
      obtain⟨a1,a2⟩:=fra j λy z=>by rw[ej]at z;cases z
      rw[a2];exact ow5 j ds<|a1▸ej
     refine ht1 G (D::B) Ea F9 σa H8 _ bb Fb Ia eb λHb kb fb=>?_
     have kallb:Kp (m7 K G) H1 Hb:=(k7.trans<|Kp.same s8).trans kb;have Ib:SitE K G (D::B) Ea Fb σa Hb:=Ia.step kb fb;have hDb:Hb D=some (.lst acc5):=kb D _ (s8 D _ hD7) hfD;have s78:k8 (hid H7 (D::B)) (hid H8 (D::B)):=(Kp.same s8).hid (fp:=[]) (by simp);have s8b:k8 (hid H8 (D::B)) (hid Hb (D::B)):=kb.hid Ia.fB;have hdb:c5 K (hid Hb (D::B)) done5 acc5:=(hd7.same s78).same s8b;have s6b:k8 (hid H6 (D::B)) (hid Hb (D::B)):=λb o z=>s8b b o<|s78 b o<|s7 b o z
     cases bb with
     | false=>exact⟨hDb,its.length-(j+1),by omega,vn ⟨rfl,hjl,Ea,Fb,done5,rest5,Ib,hDb,kallb,s6b,owa,hdb,e9,ew9⟩⟩
     | true =>
      obtain⟨⟨yd,Fc⟩,ec,e9⟩:=bS9 e9;obtain⟨⟨⟨zs',Ez'⟩,Fd⟩,ed,e9⟩:=bS9 e9;cases e9;refine he G (D::B) Ea Fb σa Hb _ yd Fc Ib ec λv Hc kc fc hc=>?_
      have hDc:Hc D=some (.lst acc5):=kc D _ hDb hfD;have Ic:SitE K G (D::B) Ea Fc σa Hc:=Ib.step kc fc;have hdc:=hdb.same<|kc.hid Ib.fB;have hlen:acc5.length<Os:=by have h1:=hd7.length;have h2:=JX List.length ew9;simp only[JJ,IK]at h2;omega
      refine⟨hDc,hlen,its.length-(j+1),by omega,vn ⟨rfl,hjl,Ea,Fc,done5++[yd],zs',Ic.wr hfD owa hDc,i7,λb o eb nb=>?_,?_,owa,?_,ed,by rw[ew9];simp⟩⟩
      .have:=kc b o (kallb b o eb nb) nb;rw[h8];exact this;intro z;subst z;rw[hD]at eb;cases eb
      .rw[ax IG];exact λb o z=>kc.hid Ib.fB b o<|s6b b o z
      .rw[ax IG];exact hdc.snoc hc
    .have hje:j=its.length:=by omega
     subst hje;rw[MX,jw]at e9;cases e9;rw[Kb]at ew9;exact .inl ⟨(ok1 H7 (D::B) s7).2,items.length-(i+1),by omega,wn ⟨rfl,hlt,_,_,done5,ws,acc5,I7,hD7,k7,ow5,hd7,e8,ew9⟩⟩
  .have hie:i=items.length:=by omega
   subst hie;rw[MX,bA]at e3;cases e3;rw[Kb]at ew;subst ew;exact .inl ⟨(ok H' (D::B)<|stab k2).2,q _ H' (k1.trans k2) I2.fd<|c6.lst (by rw[l9 hBD];exact hD2)<|hd2.same<|R6 λb hb=>IA _ hb⟩
 .cases e
def mh {ifs ifs1:List Oo}{scope osc:Ol}{N:List Str}{k:Nat}{cap:List Nat}{wi wi1:TI}{g g1:TG}{tt tt1:TT}{mi mi1:DE->M (List My)}{bd:My->DE->Option DE}{mt mt1:DE->M Bool}{me:DE->M My}
  (hc:X.calm=true) (hosc:X.env.scope=osc) (hcap:Caps X.N osc N k cap scope) (hi:Eib K X tg iter wi mi)
  (hg:∀cl C ex OM s H,Eg K (cxC X N scope cl C ex OM s H) tg g bd)
  (ht:∀cl C ex OM s H,Ets K (cxC X N scope cl C ex OM s H) ifs tt mt)
  (hi1:∀cl C ex OM s H,Ei K (cxC X N scope cl C ex OM s H) tg1 iter1 wi1 mi1)
  (hg1:∀cl C ex OM s H,Eg K (cxC X N scope cl C ex OM s H) tg1 g1 bd1)
  (ht1:∀cl C ex OM s H,Ets K (cxC X N scope cl C ex OM s H) ifs1 tt1 mt1)
  (he:∀cl C ex OM s H,Ev K (cxC X N scope cl C ex OM s H) elt te me)
  (hs1:∀cl C ex OM s H x,OE iter1 (cxC X N scope cl C ex OM s H).env x=pure x:=by intros;rfl)
  (hs:∀x,OE iter X.env x=pure x:=by intro _;rfl) :
  Ev K X (.ListComp elt [⟨tg,iter,ifs,0⟩,⟨tg1,iter1,ifs1,0⟩] scope pos) (yW wi k cap g tt wi1 g1 tt1 te) (lX mi k cap bd mt mi1 bd1 mt1 me) :=
 ⟨yK hc hosc hcap hi.pi (λcl C ex OM s H=>(hg cl C ex OM s H).pg) (λcl C ex OM s H=>(ht cl C ex OM s H).pts) (λcl C ex OM s H=>(hi1 cl C ex OM s H).pi) (λcl C ex OM s H=>(hg1 cl C ex OM s H).pg) (λcl C ex OM s H=>(ht1 cl C ex OM s H).pts) (λcl C ex OM s H=>(he cl C ex OM s H).pe) hs1 hs,
  BH hi.ok (hg [] 0 [] [] X.s₀ X.H₀).ok (ht [] 0 [] [] X.s₀ X.H₀).ok (hi1 [] 0 [] [] X.s₀ X.H₀).ok (hg1 [] 0 [] [] X.s₀ X.H₀).ok (ht1 [] 0 [] [] X.s₀ X.H₀).ok (he [] 0 [] [] X.s₀ X.H₀).ok⟩
end
end
section
section
variable [Feeds]
variable {K:Fg}{X:Cx}{st:On}{rest:List On}{t u:TS}{mt:DE->M Out}{mu:DE->M (List My)}{p pos:Pos}
variable {P:Oh}{w:Oi}{mg:Str->Option Oe}{base:Oq}
end
end
end L3
namespace L2
open PySem PySem.Spec PyProof.Rows
section
variable {X:Cx}{K:Fg}
end
end L2
namespace L3
open PySem PySem.Spec PyProof.Rows L2
section
section
variable [Feeds]{K:Fg}{X:Cx}
end
end
section
section
variable [Feeds]
variable {K:Fg}{X:Cx}{e:Oo}{es:List Oo}{p pos:Pos}
end
end
section
section
variable [Feeds]
variable {K:Fg}{X:Cx}{e:Oo}{te:TE}{m:DE->M My}{p pos:Pos}
end
end
end L3
namespace L3
open PySem PySem.Spec PyProof.Rows L2 PySem.SeqAt
def zh (A:Oj)(s:Og)(y x:Oe)(r:Bool):Prop:=∀(P:Oh) (w:Oi) (E:Oe->Og->Prop) (Q:Oe->Og->Prop),Q (.bool r) s->Oz (model P w) A (richCompare .Lt y x) Q E s
def kJ (l b:Of)(xs ys:Array Oe)(n k:Nat)(dd de:Option Of)(sl sm:Array (Option Oe))(T:Nat->Prop)(r:Bool) :
  Meets (Builtin.«tuple.__lt__» ⟨[.ref l,.ref b],[]⟩)
   (λA R s=>s.heap.get? l=some ⟨.type "tuple",dd,.seq xs n,sl⟩/\s.heap.get? b=some ⟨.type "tuple",de,.seq ys k,sm⟩/\T 0 /\
    (∀j (h1:j<xs.size) (h2:j<ys.size),T j->∃e,EqAt A.in1 s xs[j] ys[j] e/\(e=true->T (j+1))/\(e=false->zh A.in1 s xs[j] ys[j] r)) /\
    (∀j,T j->min xs.size ys.size<=j->r=decide (xs.size<ys.size))/\R (.ok<|.ret<|.bool r) s) :=
 .of_wp λP w A R s h=>by
  obtain⟨hp,g,dr,tk,os⟩:=s;obtain⟨hl,hb,h0,st,fi,h⟩:=h;have tt:=Lv;have hz:(xs.toList.zip ys.toList).length=min xs.size ys.size:=by simp
  wp_walk using AutoSeq1.wpAny_loadPart' hl,AutoSeq1.wpAny_loadPart' hb,MV _ (λrest z s'=>z.1=none/\s'=⟨hp,g,dr,tk,os⟩/\∃i,rest=(xs.toList.zip ys.toList).drop i/\T i) _;case turn =>
   rintro ⟨y,x⟩ rest z s' ⟨hz1,rfl,i,hr,hT⟩
   have lt:i<(xs.toList.zip ys.toList).length:=by
    rcases LO i (xs.toList.zip ys.toList).length with q | q
    .exact q
    .rw[Lb q]at hr;cases hr
   have lm:i<min xs.size ys.size:=hz▸lt
   have l1:i<xs.size:=by omega
   have l2:i<ys.size:=by omega
   rw[Jw lt]at hr
   injection hr with hyx hrest
   obtain rfl:y=xs[i]:=by simpa using JX Prod.fst hyx
   obtain rfl:x=ys[i]:=by simpa using JX Prod.snd hyx
   obtain⟨e,he,e1,e2⟩:=st i l1 l2 hT
   refine Iw<|he P w _ _ ?_
   cases e with
   | true =>
    wp_walk
    exact⟨rfl,rfl,i+1,hrest,e1 rfl⟩
   | false =>
    have hq:∀{E:Oe->Og->Prop} {Q:Oe->Og->Prop},Q (.bool r) ⟨hp,g,dr,tk,os⟩->Oz (model P w) A.in1 (richCompare .Lt xs[i] ys[i]) Q E ⟨hp,g,dr,tk,os⟩:=λ{E Q} z=>e2 rfl P w E Q z
    wp_walk using hq
    exact⟨_,rfl,h⟩
  case fin =>
   rintro ⟨z1,z2⟩ s' ⟨hz1,rfl,i,hr,hT⟩
   simp only at hz1
   subst hz1
   have ge:min xs.size ys.size<=i:=by
    rcases LO i (xs.toList.zip ys.toList).length with q | q
    .rw[Jw q]at hr;cases hr
    .exact hz▸q
   have er:=fi i hT ge
   wp_walk
   exact⟨_,rfl,by rw[er]at h;simpa [Builtin.Tuple.tupleCompareSizes] using h⟩
  case h =>
   exact⟨rfl,rfl,0,rfl,h0⟩
theorem K6 {h:Oq}:∀{vs:List Oe} {xs:List My} {as:List Of},ReadsAll h vs xs as->vs.length=xs.length
 | _,_,_,.nil=>rfl
 | _,_,_,.cons _ r=>by rw[IK,IK,K6 r]
theorem N6 {h:Oq}:∀{vs:List Oe} {xs:List My} {as:List Of},ReadsAll h vs xs as->∀(j:Nat) (h1:j<vs.length) (h2:j<xs.length),∃bs,Reads h vs[j] xs[j] bs
 | _,_,_,.nil,j,h1,_=>absurd h1<|LH _
 | _,_,_,.cons r rs,0,_,_=>⟨_,r⟩
 | _,_,_,.cons r rs,j+1,h1,h2=>N6 rs j (Nat.lt_of_succ_lt_succ h1)<|Nat.lt_of_succ_lt_succ h2
theorem fg:∀{xs:List My},My.canLayAll0 xs=true->∀x∈xs,x.canLay0=true/\x.depth<=My.depthAll xs
 | [],_,x,hx=>by cases hx
 | y::ys,h,x,hx=>by
  have h':y.canLay0=true/\My.canLayAll0 ys=true:=by simpa [My.canLayAll0] using h
  rcases IP.1 hx with rfl | hx
  .exact⟨h'.1,Nat.le_max_left _ _⟩
  .obtain⟨a,b⟩:=fg h'.2 x hx;exact⟨a,IV b<|Nat.le_max_right _ _⟩
section
variable [Feeds]{K:Fg}{X:Cx}
end
end L3
namespace L3
open PySem PySem.Spec PyProof.Rows L2
section
section
variable {prog:Oh}{w:Oi}{A:Oj}{E:Oe->Og->Prop}{s:Og}
variable {b1 b2 f:Bool}{z TI TO T0 i1 i2 l1 l2:Of}{k:Nat}{xs ys:Array Oe}{x y a b:Oe}{oT:Ou}
end
end
variable {pos:Pos}
section
section
variable {X:Cx}{K:Fg}{p p2 pos2:Pos}
end
section
variable [Feeds]{X:Cx}{K:Fg}{p p2 pos2:Pos}{e1 e2:Oo}{te1 te2:TE}{m1 m2:DE->M My}
end
end
section
section
variable {prog:Oh}{w:Oi}{A:Oj}{E:Oe->Og->Prop}{s:Og}
end
section
variable [Feeds]{K:Fg}{X:Cx}{tg e1 e2:Oo}{te1 te2:TE}{m1 m2:DE->M My}{p tp:Pos}{es:List Oo}{tk:Nat}
end
end
end L3
namespace L3
open PySem PySem.Spec PyProof.Rows L2 PySem.SeqAt
mutual
def ltW:My->My->Option Bool
 | .int i,.int j=>some<|decide (i<j)
 | .bool a,.bool b=>some (!a&&b)
 | .tuple xs,.tuple ys=>ltM xs ys
 | _,_=>none
def ltM:List My->List My->Option Bool
 | [],[]=>some false
 | [],_::_=>some true
 | _::_,[]=>some false
 | x::xs,y::ys=>if My.eqv x y=true then ltM xs ys else ltW x y
end
def Cf {P:Oh}{w:Oi}{A:Oj}{E:Oe->Og->Prop}{s:Og}{a b:Bool}{Q:Oe->Og->Prop}(q:Q (.bool (!a&&b)) s):Oz (model P w) A (richCompare .Lt (.bool a)<|.bool b) Q E s:=by
 refine lt_bool (p:=a) (q:=b) ?_;have e:decide (b2i a<b2i b)=(!a&&b):=by cases a <;> cases b <;> rfl
 rw[e];exact q
def Z7:∀(m:Nat) (da db:My) (A:Oj) (s:Og) (a b:Oe) (as bs:List Of) (r:Bool),sizeOf da<m->Reads s.heap a da as->Reads s.heap b db bs->da.canLay0=true->db.canLay0=true ->
  A.units+min da.depth db.depth<OG->ltW da db=some r->zh A s a b r
 | 0,_,_,_,_,_,_,_,_,_,hm,_,_,_,_,_,_=>absurd hm<|LH _
 | m+1,da,db,A,s,a,b,as,bs,r,hm,ra,rb,ha,hb,hu,hr=>by
  cases ra with
  | int i t =>
   cases rb with
   | int j u =>rw[ltW]at hr;cases hr;exact λP w E Q q=>lt_int q
   | _=>simp[ltW]at hr
  | bool a1 =>
   cases rb with
   | bool b1 =>rw[ltW]at hr;cases hr;exact λP w E Q q=>Cf q
   | _=>simp[ltW]at hr
  | tuple k1 k2 k3 k4 =>
   rename_i la oa va na xs;cases rb with
   | tuple q1 q2 q3 q4 =>
    rename_i lb ob vb nb ys;rw[ltW]at hr;obtain⟨oc,od,dt,osl⟩:=oa;obtain⟨oc',od',dt',osl'⟩:=ob;dsimp only at k2 k3 q2 q3;subst k2 k3 q2 q3;have lx:=K6 k4;have ly:=K6 q4;rw[JM]at lx ly;have ha':My.canLayAll0 xs=true:=ha;have hb':My.canLayAll0 ys=true:=hb;have hu1:A.units+min (My.depthAll xs+1) (My.depthAll ys+1)<OG:=hu;intro P w E Q q;refine richCompare_meets_room (op:=.Lt) ⟨_,k1,rfl⟩ ⟨_,q1,rfl⟩ F.slot_tuple_lt F.entry_tuple_lt (F.args_tuple_lt_2 _ _)
     (kJ la lb va vb na nb od od' osl osl' (λj=>j<=min va.size vb.size/\ltM (xs.drop j) (ys.drop j)=some r) r)
     ⟨k1,q1,⟨JV _,hr⟩,λj h1 h2 hT=>?_,λj hT hj=>?_,show Oe.bool r≠Oe.notImplemented/\Q (.bool r) s from⟨(λz=>nomatch z),q⟩⟩ (room_here hu)
    .have j1:j<xs.length:=by omega
     have j2:j<ys.length:=by omega
     have hT2:=hT.2;rw[Jw j1,Jw j2,ltM]at hT2;have he:=eqAt_readsAll xs ys A.in1 s va.toList vb.toList _ _ k4 q4 ha' hb' (room_in hu1) j (by simpa using h1) (by simpa using h2);have ep:pairEq xs ys j=My.eqv xs[j] ys[j]:=by simp[pairEq,j1,j2]
     rw[ep]at he;refine⟨_,by simpa using he,λz=>⟨by omega,?_⟩,λz=>?_⟩
     .rw[IE z]at hT2;exact hT2
     .rw[II (by rw[z];decide)]at hT2;obtain⟨as',r1⟩:=N6 k4 j (by simpa using h1) j1;obtain⟨bs',r2⟩:=N6 q4 j (by simpa using h2) j2;obtain⟨c1,d1⟩:=fg ha' xs[j]<|JU j1;obtain⟨c2,d2⟩:=fg hb' ys[j]<|JU j2;have hsz:sizeOf xs[j]<sizeOf xs:=Nb<|JU j1;have hsz2:sizeOf (My.tuple xs)=1+sizeOf xs:=by simp
      have hr2:A.in1.units+min xs[j].depth ys[j].depth<OG:=by have:=room_in hu1;have e1:A.in1.units=A.units+1:=rfl;omega
      have:=Z7 m xs[j] ys[j] A.in1 s _ _ as' bs' r (by omega) (by simpa using r1) (by simpa using r2) c1 c2 hr2 hT2;simpa using this
    .obtain⟨t1,t2⟩:=hT;rcases LO va.size vb.size with z | z
     .have e1:xs.drop j=[]:=Lb (by omega);have j2:j<ys.length:=by omega
      rw[e1,Jw j2,ltM]at t2;cases t2;exact(Je z).symm
     .have e1:ys.drop j=[]:=Lb (by omega);rw[e1]at t2;have er:r=false:=by
       cases h:xs.drop j with
       | nil=>rw[h,ltM]at t2;cases t2;rfl
       | cons x l=>rw[h,ltM]at t2;cases t2;rfl
      rw[er];exact(Jf<|by omega).symm
   | _=>simp[ltW]at hr
  | _=>simp[ltW]at hr
end L3
namespace L3
open PySem PySem.Spec PyProof.Rows L2 PySem.SeqAt PySem.W
variable {ys:List My}
section
section
variable {prog:Oh}{w:Oi}{A:Oj}{s:Og}
def qV {p q:Oe}{r:Bool}{Q:Bool->Og->Prop}{E:Oe->Og->Prop}(l:zh A s p q r)(h:Q r s):Oz (model prog w) A (oneLt' false p q) Q E s :=
 kat_one p q (l prog w E _ h)
def jM {Q:Bool->Og->Prop}{r:Bool}:∀(xs ys:List My) (us vs:List Oe) (as bs:List Of) (i:Nat) (fin:Bool),ReadsAll s.heap us xs as->ReadsAll s.heap vs ys bs->My.canLayAll0 xs=true->My.canLayAll0 ys=true ->
  A.units+min (My.depthAll xs) (My.depthAll ys)<OG->ltM xs ys=some r->fin=decide (us.length<vs.length)->Q r s->KatLex prog w A false fin Q (us.zip vs) i s
 | [],[],us,vs,_,_,i,fin,ra,rb,_,_,_,hr,hf,q=>by
  cases ra;cases rb;rw[ltM]at hr;cases hr;subst hf;exact kat_nil (by simpa using q)
 | [],y::ys,us,vs,_,_,i,fin,ra,rb,_,_,_,hr,hf,q=>by
  cases ra;cases rb;rw[ltM]at hr;cases hr;subst hf;exact kat_nil (by simpa using q)
 | x::xs,[],us,vs,_,_,i,fin,ra,rb,_,_,_,hr,hf,q=>by
  cases ra;cases rb;rw[ltM]at hr;cases hr;subst hf;exact kat_nil (by simpa using q)
 | x::xs,y::ys,us,vs,_,_,i,fin,ra,rb,ha,hb,hu,hr,hf,q=>by
  cases ra with
  | cons r1 ra =>
   cases rb with
   | cons r2 rb =>
    have ha':x.canLay0=true/\My.canLayAll0 xs=true:=by simpa [My.canLayAll0] using ha
    have hb':y.canLay0=true/\My.canLayAll0 ys=true:=by simpa [My.canLayAll0] using hb
    have d1:My.depthAll (x::xs)=max x.depth (My.depthAll xs):=rfl;have d2:My.depthAll (y::ys)=max y.depth (My.depthAll ys):=rfl;rw[d1,d2]at hu;have hu1:A.units+min x.depth y.depth<OG:=by omega
    have hu2:A.units+min (My.depthAll xs) (My.depthAll ys)<OG:=by omega
    rw[ltM]at hr;rw[LG];refine kat_cons<|(eqAt_reads x y A s _ _ _ _ r1 r2 ha'.1 hb'.1 hu1) _ _ _ _ ?_;refine kat_go (λe=>kat_yes ?_) (λe=>kat_no ?_)
    .rw[IE e]at hr;exact jM xs ys _ _ _ _ (i+1) fin ra rb ha'.2 hb'.2 hu2 hr (by simpa using hf) q
    .rw[II (by rw[e];decide)]at hr;exact qV (Z7 _ x y A s _ _ _ _ r (Kd _) r1 r2 ha'.1 hb'.1 hu1 hr) q
def fO {xs:List My}{u v:Oe}{as bs:List Of}{r:Bool}{Q:Bool->Og->Prop}{E:Oe->Og->Prop}(ra:Reads s.heap u (.tuple xs) as)(rb:Reads s.heap v (.tuple ys) bs)(ha:My.canLayAll0 xs=true)(hb:My.canLayAll0 ys=true)
  (hu:A.units+min (My.depthAll xs) (My.depthAll ys)<OG) (hr:ltM xs ys=some r) (q:Q r s):Oz (model prog w) A (keyLt' (tuples' false) u v) Q E s:=by
 cases ra with
 | tuple k1 k2 k3 k4 =>
  cases rb with
  | tuple q1 q2 q3 q4 =>refine kat_lt k1 k3 q1 q3<|jM xs ys _ _ _ _ 0 _ k4 q4 ha hb hu hr ?_ q;simp
def iz {xs:List My}{u v:Oe}{as bs:List Of}{r:Bool}{Q:Oe->Og->Prop}{E:Oe->Og->Prop}(ra:Reads s.heap u (.tuple xs) as)(rb:Reads s.heap v (.tuple ys) bs)(ha':My.canLayAll0 xs=true)(hb':My.canLayAll0 ys=true)
  (hu1:A.units+min (My.depthAll xs+1) (My.depthAll ys+1)<OG) (hr:ltM xs ys=some r) (q:Q (.bool r) s):Oz (model prog w) A (call (.builtin "tuple.__lt__") [u,v]) Q E s:=by
 cases ra with
 | tuple k1 k2 k3 k4 =>
  rename_i la oa va na;cases rb with
  | tuple q1 q2 q3 q4 =>
   rename_i lb ob vb nb;obtain⟨oc,od,dt,osl⟩:=oa;obtain⟨oc',od',dt',osl'⟩:=ob;dsimp only at k2 k3 q2 q3;subst k2 k3 q2 q3;have lx:=K6 k4;have ly:=K6 q4;rw[JM]at lx ly;refine Lp F.slot_tuple_lt ⟨_,k1,rfl⟩ F.entry_tuple_lt (F.args_tuple_lt_2 _ _)
    (kJ la lb va vb na nb od od' osl osl' (λj=>j<=min va.size vb.size/\ltM (xs.drop j) (ys.drop j)=some r) r)
    ⟨k1,q1,⟨JV _,hr⟩,λj h1 h2 hT=>?_,λj hT hj=>?_,q⟩
   .have j1:j<xs.length:=by omega
    have j2:j<ys.length:=by omega
    have hT2:=hT.2;rw[Jw j1,Jw j2,ltM]at hT2;have he:=eqAt_readsAll xs ys A.in1 s va.toList vb.toList _ _ k4 q4 ha' hb' (room_in hu1) j (by simpa using h1) (by simpa using h2);have ep:pairEq xs ys j=My.eqv xs[j] ys[j]:=by simp[pairEq,j1,j2]
    rw[ep]at he;refine⟨_,by simpa using he,λz=>⟨by omega,?_⟩,λz=>?_⟩
    .rw[IE z]at hT2;exact hT2
    .rw[II (by rw[z];decide)]at hT2;obtain⟨as',r1⟩:=N6 k4 j (by simpa using h1) j1;obtain⟨bs',r2⟩:=N6 q4 j (by simpa using h2) j2;obtain⟨c1,d1⟩:=fg ha' xs[j]<|JU j1;obtain⟨c2,d2⟩:=fg hb' ys[j]<|JU j2;have hr2:A.in1.units+min xs[j].depth ys[j].depth<OG:=by have:=room_in hu1;have e1:A.in1.units=A.units+1:=rfl;omega
     have:=Z7 _ xs[j] ys[j] A.in1 s _ _ as' bs' r (Kd _) (by simpa using r1) (by simpa using r2) c1 c2 hr2 hT2;simpa using this
   .obtain⟨t1,t2⟩:=hT;rcases LO va.size vb.size with z | z
    .have e1:xs.drop j=[]:=Lb (by omega);have j2:j<ys.length:=by omega
     rw[e1,Jw j2,ltM]at t2;cases t2;exact(Je z).symm
    .have e1:ys.drop j=[]:=Lb (by omega);rw[e1]at t2;have er:r=false:=by
      cases h:xs.drop j with
      | nil=>rw[h,ltM]at t2;cases t2;rfl
      | cons x l=>rw[h,ltM]at t2;cases t2;rfl
     rw[er];exact(Jf<|by omega).symm
def rQ {xs:List My}{u:Oe}{as:List Of}(ra:Reads s.heap u (.tuple xs) as):s.TypeIs u "tuple":=by
 cases ra with
 | tuple k1 k2 k3 k4=>exact⟨_,k1,k2⟩
def gS {xs:List My}{u v:Oe}{as bs:List Of}{r:Bool}{Q:Bool->Og->Prop}{E:Oe->Og->Prop}(ra:Reads s.heap u (.tuple xs) as)(rb:Reads s.heap v (.tuple ys) bs)(ha:My.canLayAll0 xs=true)(hb:My.canLayAll0 ys=true)
  (hu:A.units+min (My.depthAll xs+1) (My.depthAll ys+1)<OG) (hr:ltM xs ys=some r) (q:Q r s):Oz (model prog w) A (keyLt' oneType' u v) Q E s:=by rw[keyLt'_oneType,oneLt'_eq];simp only[Kl];refine Iw (wpAny_cRoomFor_or (.inr<|by omega) ?_);refine Iw<|wpAny_callSpecialIfBound?_slot (rQ ra) F.slot_tuple_lt<|iz ra rb ha hb hu hr ?_;exact Kg q
def gZ {xs:List My}{u v:Oe}{as bs:List Of}{r:Bool}{Q:Bool->Og->Prop}{E:Oe->Og->Prop}(ra:Reads s.heap u (.tuple xs) as)(rb:Reads s.heap v (.tuple ys) bs)(ha:My.canLayAll0 xs=true)(hb:My.canLayAll0 ys=true)
  (hu:A.units+min (My.depthAll xs+1) (My.depthAll ys+1)<OG) (hr:ltM xs ys=some r) (q:Q r s):Oz (model prog w) A (keyLt' general' u v) Q E s :=
 qV (Z7 _ (.tuple xs) (.tuple ys) A s _ _ _ _ r (Kd _) ra rb ha hb hu (by rw[ltW];exact hr)) q
end
end
section
def O4 (h:Oq):List Oe->List (Option Oe)->Prop
 | [],[]=>True
 | v::vs,f::fs=>(∃a o xs n,v = .ref a/\h.get? a=some o/\o.cls = .type "tuple" /\ o.data = .seq xs n/\xs[0]? = f)/\O4 h vs fs
 | _,_=>False
theorem O4.len {h:Oq}:∀{vs:List Oe} {fs:List (Option Oe)},O4 h vs fs->vs.length=fs.length
 | [],[],_=>rfl
 | [],_::_,t=>t.elim
 | _::_,[],t=>t.elim
 | _::_,_::_,t=>by rw[IK,IK,O4.len t.2]
section
variable {M:Model}{A:Oj}{E:Oe->Og->Prop}{s:Og}
theorem kv:∀(vs:List Oe) (fs:List (Option Oe)) {Q:List (Option Oe)->Og->Prop},O4 s.heap vs fs->Q fs s->Oz M A (vs.mapM firstOfTuple') Q E s
 | [],[],_,_,h=>by rw[List.mapM_nil];exact Iy h
 | [],_::_,_,t,_=>t.elim
 | _::_,[],_,t,_=>t.elim
 | v::vs,f::fs,Q,t,h=>by obtain⟨⟨a,o,xs,n,rfl,ho,hc,hd,hf⟩,t⟩:=t;rw[List.mapM_cons];refine Iw ?_;rw[kas_first_eq];refine Iw (Looks.here (show Looks M s.heap (typeOf<|.ref a) o.cls from(MY ho).andThen .now) ?_);rw[hc,II (by first | decide | simp)];refine Iw<|listItems_at ho hd<|Iy ?_;rw[hf];exact Iw (kv vs fs (Q:=λbs s'=>Oz M A (pure (f::bs)) Q E s') t<|Iy h)
theorem hZ:∀{vs:List Oe} {fs:List (Option Oe)},O4 s.heap vs fs->∀v∈vs,Looks M s.heap (typeOf v) (.type "tuple")
 | [],[],_,v,hv=>by cases hv
 | [],_::_,t,_,_=>t.elim
 | _::_,[],t,_,_=>t.elim
 | v::vs,f::fs,t,u,hu=>by
  rcases IP.1 hu with rfl | hu
  .obtain⟨⟨a,o,xs,n,rfl,ho,hc,hd,hf⟩,_⟩:=t;rw[<-hc];exact(MY ho).andThen .now
  .exact hZ t.2 u hu
def ia (fs:List (Option Oe)):SortKind:=if fs.all (·.isSome) then tuples' false else if (fs.head?.bind id).isSome then general' else oneType'
def qI {vs:List Oe}{fs:List (Option Oe)}{Q:SortKind->Og->Prop}(t:O4 s.heap vs fs)(hne:0<fs.length)(hT:∀f,some f∈fs->Looks M s.heap (typeOf f) (.type "tuple"))(h:Q (ia fs) s):Oz M A (keyKind' vs.toArray) Q E s:=by
 unfold ia at h;rw[kat_kind_eq,NO,NQ];refine Iw<|Iw<|kv vs _ t<|Iy ?_;by_cases hall:fs.all (·.isSome)=true
 .rw[IE hall]at h;rw[IE<|by simpa using hall];refine Iw<|KN ?_;obtain⟨gs,rfl⟩:∃gs:List Oe,fs=gs.map some:=by
   refine⟨fs.filterMap id,?_⟩;clear h t hT hne;induction fs with
   | nil=>rfl
   | cons f fs ih =>rw[List.all_cons,LR]at hall;obtain⟨g,rfl⟩:=JS.1 hall.1;simp only[List.filterMap_cons_some (f:=id) (a:=some g) rfl,IJ];rw[<-ih hall.2]
  have hfm:((gs.map some).toArray.filterMap id)=gs.toArray:=by simp
  rw[hfm,oneTypeOnly'_eq,NO,NQ];refine Iw (Iw<|Iw<|kas_mapM (r:=.type "tuple") _ (λv hv Q' hq=>(hT v<|Mg hv).here hq)<|Iy ?_);have hall2:((List.map (λ_=>Oe.type "tuple") gs).toArray.all λx=>x == Oe.type "tuple")=true:=by simp only[List.all_toArray,List.all_map,Ma];intro _ _;rfl
  rw[Iz]at hne;have h0:(List.map (λ_=>Oe.type "tuple") gs).toArray[0]? = some (.type "tuple"):=by
   match gs,hne with
   | g::gs,_=>simp
  rw[h0];simp only[hall2,Kl];exact Iy<|Iy h
 .rw[II hall]at h;rw[II<|by simpa using hall];have e0:fs.toArray[0]? = fs.head?:=by cases fs <;> simp
  rw[e0];by_cases hh:(fs.head?.bind id).isSome=true
  .rw[IE hh]at h ⊢;exact Iy h
  .rw[II hh]at h ⊢;have hl:=t.len;rw[oneTypeOnly'_eq,NO,NQ];refine Iw (Iw<|Iw<|kas_mapM (r:=.type "tuple") _ (λv hv Q' hq=>(hZ t v hv).here hq)<|Iy ?_);have hall2:((List.map (λ_=>Oe.type "tuple") vs).toArray.all λx=>x == Oe.type "tuple")=true:=by simp only[List.all_toArray,List.all_map,Ma];intro _ _;rfl
   have h0:(List.map (λ_=>Oe.type "tuple") vs).toArray[0]? = some (.type "tuple"):=by
    match vs,(show 0<vs.length by omega) with
    | g::gs,_=>simp
   rw[h0];simp only[hall2,Kl];exact Iy<|Iy h
end
end
section
def cS (d:List My):Prop:=My.canLayAll0 d=true/\My.depthAll d<=20/\∀x,d.head? = some x->∃e,x = .tuple e
def StK (κ:Nat->Int)(xs ys:List V):Prop:=ys.length=xs.length/\∃p,SoS κ p xs.length/\∀i,i<xs.length->ys[i]? = xs[p i]?
def Ag (K:Frag):List V->Hp->VK->Prop:=λxs H Q=>∃(a:Of) (zs:List V) (ds:List (List My)) (κ:Nat->Int),xs=[.ref a]/\SqL K H a zs/\zs.length=ds.length/\(∀(i:Nat) (z:V) (d:List My),zs[i]? = some z->ds[i]? = some d->c6 K H (.tuple d) z)/\(∀d∈ds,cS d) /\
 (∀(i j:Nat) (di dj:List My),i≠j->ds[i]? = some di->ds[j]? = some dj->ltM di dj=some (decide (κ i < κ j)))/\ds.length<64/\∀(p:Of) (ys:List V),H p=none->StK κ zs ys->Q (.ref p) (upd H p<|.lst ys)
def X7 {h:Oq}:∀{vs:List Oe} {ds:List (List My)},vs.length=ds.length->(∀(i:Nat) (v:Oe) (d:List My),vs[i]? = some v->ds[i]? = some d->∃as,Reads h v (.tuple d) as)->(∀d∈ds,cS d) ->
  ∃fs,O4 h vs fs/\∀(M:Model) f,some f∈fs->Looks M h (typeOf f) (.type "tuple")
 | [],[],_,_,_=>⟨[],True.intro,λ_ f hf=>by cases hf⟩
 | [],_::_,hl,_,_=>by simp at hl
 | _::_,[],hl,_,_=>by simp at hl
 | v::vs,d::ds,hl,hr,hg=>by
  obtain⟨fs,t,hT⟩:=X7 (vs:=vs) (ds:=ds) (by simpa using hl) (λi v d e1 e2=>hr (i+1) v d (by simpa using e1)<|by simpa using e2) λd hd=>hg d<|IA _ hd
  obtain⟨as,r⟩:=hr 0 v d rfl rfl;cases r with
  | tuple k1 k2 k3 k4 =>
   rename_i a o va n;refine⟨va[0]? :: fs,⟨⟨a,o,va,n,rfl,k1,k2,k3,rfl⟩,t⟩,λM f hf=>?_⟩;rcases IP.1 hf with e | hf
   .have g:=(hg d IG).2.2;rw[<-Kv]at e;generalize va.toList=us at k4 e;cases k4 with
    | nil=>simp at e
    | cons r1 r2 =>
     simp at e;subst e;obtain⟨z,rfl⟩:=g _ rfl;cases r1 with
     | tuple q1 q2 q3 q4 =>rw[<-q2];exact(MY q1).andThen .now
   .exact hT M f hf
section
variable {X:Cx}{K:Fg}
def mY (hK:X.K=K)(hu:X.A.units+64<OG):A3 X (.builtin "sorted") (Ag K):=by
 subst hK;intro OM s σ H xs us Q I r h;obtain⟨a,zs,ds,κ,rfl,hq,hlz,hD,hG,hK,h64,q⟩:=h;obtain⟨u,rfl,ru⟩:=L8 r;cases ru;obtain⟨its,rv,p,hz⟩:=I.list hq;have hl2:its.length=zs.length:=rv.length.symm;have item:∀(i:Nat) (v:Oe) (d:List My),its[i]? = some v->ds[i]? = some d->∃as,Reads s.heap v (.tuple d) as:=λi v d e1 e2=>by
  have hi:i<zs.length:=by have:=(IH.1 e1).1;omega
  obtain⟨u,e3,e4⟩:=rv.get<|IM hi;rw[e1]at e3;cases e3;exact G8 I _ _ _ (hD i _ d (IM hi) e2) e4
 obtain⟨fs,tF,hT⟩:=X7 (h:=s.heap) (by omega) item hG;have tK:∀{h':Oq},(∀b o,s.heap.get? b=some o->h'.get? b=some o)->∀{vs:List Oe} {fs:List (Option Oe)},O4 s.heap vs fs->O4 h' vs fs:=by
  intro h' hk vs;induction vs with
  | nil=>intro fs t;cases fs with | nil=>exact t | cons _ _=>exact t.elim
  | cons v vs ih =>
   intro fs t;cases fs with
   | nil=>exact t.elim
   | cons f fs =>obtain⟨⟨a,o,xs,n,e1,e2,e3⟩,t⟩:=t;exact⟨⟨a,o,xs,n,e1,hk _ _ e2,e3⟩,ih t⟩
 refine pk (kd:=ia fs) (κ:=κ) p.isList (by omega) (λh2 h' Q' hk hQ=>?_) (λh' hk=>?_) λout p' a1 a2 a3=>?_
 .have item':∀(i:Nat) (v:Oe) (d:List My),its[i]? = some v->ds[i]? = some d->∃as,Reads h' v (.tuple d) as:=λi v d e1 e2=>let ⟨as,r⟩:=item i v d e1 e2;⟨as,Ky hk r⟩
  refine qI (s:={ s with heap:=h' }) (tK hk tF) (by have:=tF.len;omega) (λf hf=>?_) hQ;obtain⟨fs',tF',hT'⟩:=X7 (h:=h') (by omega) item' hG;have:∀{vs:List Oe} {fs fs':List (Option Oe)},O4 h' vs fs->O4 h' vs fs'->fs=fs':=by
   intro vs;induction vs with
   | nil =>
    intro fs fs' t t';cases fs with
    | cons _ _=>exact t.elim
    | nil =>
     cases fs' with
     | nil=>rfl
     | cons _ _=>exact t'.elim
   | cons v vs ih =>
    intro fs fs' t t';cases fs with
    | nil=>exact t.elim
    | cons f fs =>
     cases fs' with
     | nil=>exact t'.elim
     | cons f' fs' =>obtain⟨⟨a,o,xs,n,e1,e2,e3,e4,e5⟩,t⟩:=t;obtain⟨⟨a',o',xs',n',g1,g2,g3,g4,g5⟩,t'⟩:=t';rw[e1]at g1;cases g1;rw[e2]at g2;cases g2;rw[e4]at g4;cases g4;rw[<-e5,<-g5,ih t t']
  rw[this (tK hk tF) tF']at hf;exact hT' _ f hf
 .intro i j x y hij ex ey E Q' hQ;rw[<-Kv,pairsOf_toList,Lq]at ex ey;have hi:i<its.length:=(IH.1 ex.1).1;have hj:j<its.length:=(IH.1 ey.1).1;have di:ds[i]? = some (ds[i]'(by omega)):=IM (by omega);have dj:ds[j]? = some (ds[j]'(by omega)):=IM (by omega);obtain⟨as,r1⟩:=item i _ _ ex.1 di;obtain⟨bs,r2⟩:=item j _ _ ey.1 dj;have r1:=Ky hk r1;have r2:=Ky hk r2;have g1:=hG _ (JU<|show i<ds.length by omega);have g2:=hG _ (JU<|show j<ds.length by omega);have lt:=hK i j _ _ hij di dj;have hu2:X.A.in1.in1.units+min (My.depthAll ds[i]+1) (My.depthAll ds[j]+1)<OG:=by have e:X.A.in1.in1.units=X.A.units+1+1:=rfl;have:=g1.2.1;omega
  unfold ia;split
  .exact fO (s:={ s with heap:=h' }) r1 r2 g1.1 g2.1 (by omega) lt hQ
  .split
   .exact gZ (s:={ s with heap:=h' }) r1 r2 g1.1 g2.1 hu2 lt hQ
   .exact gS (s:={ s with heap:=h' }) r1 r2 g1.1 g2.1 hu2 lt hQ
 .have hlen:zs.length=its.length:=hl2.symm;obtain⟨e,he⟩:=sortedAll_at s.heap its out;have ysl:((List.range its.length).map λi=>zs.getD (p' i) .non).length=its.length:=by rw[Iz,JW]
  have ysg:∀i,i<its.length->((List.range its.length).map λi=>zs.getD (p' i) .non)[i]? = zs[p' i]?:=λi hi=>by rw[IU,Kf hi];have hpi:=a3.2.2 i hi;show some (zs.getD (p' i) .non)=_;rw[Jb,IM<|by omega];rfl
  have I1:Inv X OM σ (upd H (s.heap.objs.size+1)<|.lst<|(List.range its.length).map λi=>zs.getD (p' i) .non) { s with heap:=sortedAll s.heap its out,toks:=s.toks } :=
   I.laid (a:=s.heap.objs.size+1) (λb o ho=>sortedAll_old ho) (Md _) ⟨by rw[ysl,Jr];omega,out.toList,e,Z1 (by rw[ysl,atl out,a1]) (λi x u hx hu=>by
    have hi:i<its.length:=by have:=(IH.1 hx).1;rwa [ysl]at this
    rw[ysg i hi]at hx;rw[a2 i hi]at hu;obtain⟨u',g1,g2⟩:=rv.get hx;rw[g1]at hu;rw[<-IS hu];exact g2),by rw[he]⟩
  exact⟨.ref<|s.heap.objs.size+1,_,I1,rfl,q _ _ (I.hok.fresh<|Md _) ⟨by rw[ysl,hlen],p',by rw[hlen];exact a3,λi hi=>ysg i<|by omega⟩⟩
end
end
end L3
namespace L3
open PySem PySem.Spec PyProof.Rows L2
section
def R5 (c:Nat)(ps:List (My×My))(d:My):Option My:=(ps.find? λp=>decide (P0 c p.1=P0 c d)).map (·.2)
def ar (c:Nat)(ps:List (My×My))(d e:My):List (My×My):=if (R5 c ps d).isSome then ps.map (λp=>if P0 c p.1=P0 c d then(p.1,e) else p) else ps++[(d,e)]
section
variable {K:Fg}{H:Hp}{c:Nat}
theorem lG {d:My}{v:V}:∀{c:Nat} {k:(B3 c).K},P0 c d=some k->c6 K H d v->∃b,v = .ref b/\(B3 c).At K H k b
 | 0,_,e,h=>nH e h
 | 1,_,e,h=>uu e h
 | _+2,_,e,h=>kL e h
theorem xN:∀c:Nat,(B3 c).dp<=8
 | 0=>by decide
 | 1=>by decide
 | _+2=>by show T8.dp<=8;decide
theorem tj:∀{ps:List (My×My)} {xs:List ((B3 c).K×Of×V)},KVs K H c ps xs->xs.length=ps.length
 | [],_,h=>by cases h;rfl
 | _::_,_,⟨k,b,v,r,e,h1,h2,h3,h4⟩=>by rw[e,IK,IK,tj h4]
theorem iP:∀{ps:List (My×My)} {xs:List ((B3 c).K×Of×V)},KVs K H c ps xs->∀x∈xs,(B3 c).At K H x.1 x.2.1
 | [],_,h,x,hx=>by cases h;cases hx
 | _::_,_,⟨k,b,v,r,e,h1,h2,h3,h4⟩,x,hx=>by
  rw[e]at hx;rcases IP.1 hx with rfl | hx
  .obtain⟨b',e',ha⟩:=lG h1 h2;cases e';exact ha
  .exact iP h4 x hx
theorem lS {d:My}{k:(B3 c).K}(hk:P0 c d=some k):∀{ps:List (My×My)} {xs:List ((B3 c).K×Of×V)},KVs K H c ps xs->(∃e v,R5 c ps d=some e/\iQ xs k=some v/\c6 K H e v)\/(R5 c ps d=none/\iQ xs k=none)
 | [],_,h=>by cases h;exact .inr ⟨rfl,rfl⟩
 | p::ps,_,⟨k',b,v,r,e,h1,h2,h3,h4⟩=>by
  subst e;unfold R5 iQ;by_cases hz:k'=k
  .subst hz;refine .inl ⟨p.2,v,?_,?_,h3⟩
   .rw[Kn (by rw[h1,hk];exact Je rfl)];rfl
   .rw[Kn (p:=λx:(B3 c).K×Of×V=>decide (x.1=k'))<|Je rfl];rfl
  .rw[Ko (by rw[h1,hk];exact λz=>hz<|IS<|Jg z),Ko (p:=λx:(B3 c).K×Of×V=>decide (x.1=k))<|λz=>hz<|Jg z];exact lS hk h4
def mJ {d e:My}{k:(B3 c).K}{v:V}(hk:P0 c d=some k)(he:c6 K H e v):∀{ps:List (My×My)} {xs:List ((B3 c).K×Of×V)},KVs K H c ps xs ->
  KVs K H c (ps.map λp=>if P0 c p.1=P0 c d then(p.1,e) else p) (xs.map λx=>if x.1=k then(x.1,x.2.1,v) else x)
 | [],_,h=>by cases h;rfl
 | p::ps,_,⟨k',b,v',r,ex,h1,h2,h3,h4⟩=>by
  subst ex;rw[IJ,IJ];by_cases hz:k'=k
  .rw[IE (by rw[h1,hk,hz]),IE hz];exact⟨k',b,v,_,rfl,h1,h2,he,mJ hk he h4⟩
  .rw[II (by rw[h1,hk];exact λz=>hz<|IS z),II hz];exact⟨k',b,v',_,rfl,h1,h2,h3,mJ hk he h4⟩
theorem nj {d e:My}{k:(B3 c).K}{b:Of}{v:V}(hk:P0 c d=some k)(hd:c6 K H d (.ref b))(he:c6 K H e v):∀{ps:List (My×My)} {xs:List ((B3 c).K×Of×V)},KVs K H c ps xs->KVs K H c (ps++[(d,e)]) (xs++[(k,b,v)])
 | [],_,h=>by cases h;exact⟨k,b,v,[],rfl,hk,hd,he,rfl⟩
 | p::ps,_,⟨k',b',v',r,ex,h1,h2,h3,h4⟩=>by subst ex;exact⟨k',b',v',_,rfl,h1,h2,h3,nj hk hd he h4⟩
def yV {d e:My}{k:(B3 c).K}{b:Of}{v:V}{ps:List (My×My)}{xs:List ((B3 c).K×Of×V)}(h:KVs K H c ps xs)(hk:P0 c d=some k)(hd:c6 K H d (.ref b))(he:c6 K H e v):KVs K H c (ar c ps d e) (iV xs k b v):=by
 unfold ar iV;rcases lS hk h with ⟨e',v',g1,g2,_⟩ | ⟨g1,g2⟩
 .rw[g1,g2,IE (show(some e').isSome=true from rfl),IE<|show(some v').isSome=true from rfl];exact mJ hk he h
 .rw[g1,g2,II (show ¬(none:Option My).isSome=true from nofun),II<|show ¬(none:Option V).isSome=true from nofun];exact nj hk hd he h
theorem tI:∀{ps:List (My×My)} {xs:List ((B3 c).K×Of×V)},KVs K H c ps xs->c5 K H (ps.map (·.1)) (xs.map λx=>.ref x.2.1)
 | [],_,h=>by cases h;exact c5.nil
 | _::_,_,⟨k,b,v,r,e,h1,h2,h3,h4⟩=>by subst e;exact c5.cons h2<|tI h4
end
section
variable [Feeds]{K:Fg}{X:Cx}{e o i f value:Oo}{te ty tx:TE}{pos p px pos' apos cpos:Pos}
def FAt.dict {G:GF}{H:Hp}{F:FS}{x c:Nat}{a:Of}{xs:List ((B3 c).K×Of×V)}{o:HO}(h:FAt K G H F)(hf:a ∉ m7 K G)(ha:H a=some (.ext<|NDi (B3 c) a xs))(hs:∃h,NDi (B3 c) a xs h):FAt K G (upd H a o) F:=by
 refine⟨?_,λt ht=>?_⟩
 .have h1:=h.1;cases G with
  | none=>trivial
  | some q =>obtain⟨d,cc⟩:=q;exact Feeds.congr h1 (h8 λz=>hf (by rw[<-z];simp[m7])) (h8 λz=>hf (by rw[<-z];simp[m7]))
 .obtain⟨ps,h1,h2,h3⟩:=h.2 t ht;refine⟨ps,?_,h2,λpos cv q=>?_⟩
  .rw[h8 λz=>by rw[z,ha]at h1;cases h1];exact h1
  .obtain⟨c',r1,r2⟩:=h3 pos cv q;refine⟨c',r1,?_⟩;rw[h8 λz=>?_]
   .exact r2
   .rw[z,ha]at r2;have e:NDi (B3 c) a xs = λh=>h.CodeRec (.ref a) (AJ t.1):=by have:=IS r2;unfold cdO at this;injection this
    obtain⟨hp,n⟩:=hs;have n2:=n;rw[e]at n2;obtain⟨c2,o2,vs2,t2,e2,g2,d2,_⟩:=n2;cases e2;obtain⟨_,_,_,_,o3,es,ep,g3,_,d3,_⟩:=n;rw[g3]at g2;cases g2;rw[d3]at d2;cases d2
def Sit.writeD {G:GF}{B0 B:List Of}{H0:Hp}{E:DE}{F:FS}{σ:St}{H:Hp}{i c:Nat}{ps ps':List (My×My)}{x:Of}{xs':List ((B3 c).K×Of×V)}(S:Sit K G B0 H0 E F σ H)(s:∀b∈B0,b∈B)(sn:∀b∈B,b∈B0\/H0 b=none)(I:SitE K G B E F σ H)
  (ei:E[i]? = some (some<|DV.dic true c ps)) (si:σ[i]? = some (some<|V.ref x)) (hs:∃h,NDi (B3 c) x xs' h) (hd:KVs K (hid H B) c ps' xs') :
  Sit K G B0 H0 (E.set i<|some<|.dic true c ps') F σ (upd H x<|.ext<|NDi (B3 c) x xs'):=by
 have hl:i<E.length:=(IH.1 ei).1;obtain⟨v,v1,x',xs,rfl,hB,hf,hx,hn,_⟩:=I.loc i _ ei;rw[si]at v1;cases v1;have e1:hid (upd H x<|.ext<|NDi (B3 c) x xs') B=hid H B:=ax hB;obtain⟨⟨n1,n2⟩,n3⟩:=S.dic i c ps x ei si;refine⟨⟨B,s,sn,⟨I.fd.dict (x:=0) hf hx hn,I.fB,λb hb=>?_,by rw[JH];exact I.ln,λj y ej=>?_⟩⟩,S.fB,λb o eb nb=>?_,λj es a' ej sj=>?_,λj k es es' a' ej ek sj sk=>?_,λj c' ps2 a' ej sj=>?_⟩
 .by_cases h:b=x
  .subst h;exact⟨_,i7⟩
  .rw[h8 h];exact I.bk b hb
 .by_cases hj:i=j
  .subst hj;rw[IR hl]at ej;cases ej;exact⟨.ref x,si,x,xs',rfl,hB,hf,i7,hs,by rw[e1];exact hd⟩
  .rw[IL hj]at ej;obtain⟨w,w1,w2⟩:=I.loc j y ej;refine⟨w,w1,?_⟩;cases y with
   | dat d=>show c6 K (hid (upd H x _) B) d w;rw[e1];exact w2
   | feed=>exact w2
   | fn _=>exact w2
   | adr _=>exact w2
   | own es =>
    obtain⟨a',xs9,rfl,hB',hf',ha',hd'⟩:=w2;have hne:a'≠x:=λz=>by rw[z,hx]at ha';cases ha'
    exact⟨a',xs9,rfl,hB',hf',by rw[h8 hne];exact ha',by rw[e1];exact hd'⟩
   | dic w9 c9 ps9 =>
    obtain⟨a',xs9,rfl,hB',hf',ha',hn',hd'⟩:=w2;have hne:a'≠x:=λz=>hj<|n3 j w9 c9 ps9 ej<|z▸w1
    exact⟨a',xs9,rfl,hB',hf',by rw[h8 hne];exact ha',hn',by rw[e1];exact hd'⟩
 .rw[h8]
  .exact S.kp b o eb nb
  .intro z;subst z;rw[n1]at eb;cases eb
 .by_cases hj:i=j
  .subst hj;rw[IR hl]at ej;cases ej
  .rw[IL hj]at ej;exact S.own j es a' ej sj
 .by_cases hj:i=j
  .subst hj;rw[IR hl]at ej;cases ej
  .by_cases hk:i=k
   .subst hk;rw[IR hl]at ek;cases ek
   .rw[IL hj]at ej;rw[IL hk]at ek;exact S.inj j k es es' a' ej ek sj sk
 .have back:∀(j:Nat) (w:Bool) (c2:Nat) (q:List (My×My)),(E.set i<|some<|.dic true c ps')[j]? = some (some<|DV.dic w c2 q)->∃q,E[j]? = some (some<|DV.dic w c2 q):=λj w c2 q ej=>by
   by_cases hj:i=j
   .subst hj;rw[IR hl]at ej;cases ej;exact⟨ps,ei⟩
   .rw[IL hj]at ej;exact⟨q,ej⟩
  obtain⟨q1,ej'⟩:=back j _ _ _ ej;obtain⟨h1,h2⟩:=S.dic j c' q1 a' ej' sj;refine⟨h1,λk w' c'' ps'' ek sk=>?_⟩;obtain⟨q2,ek'⟩:=back k _ _ _ ek;exact h2 k w' c'' q2 ek' sk
def jZ (i c:Nat):DE->M Out:=λE F=>if i<E.length then some (.nx<|E.set i<|some<|.dic true c [],F) else none
def vd (i c:Nat){x:Str}(hN:X.N.Nodup)(hi:X.N[i]? = some x:=by rfl)(hx:Loc X.env.scope x:=by walk_at "v")(hs:OB (.Dict [] [] p) (some<|.Name x pos') pos.line X.env=pure false:=by rfl)(hf:X.fn x=true\/X.env.scope.names.lookup x=some .local:=by walk_at "v") :
  Ss K X (.Assign [.Name x pos'] (.Dict [] [] p) pos) (aU (xP<|B3 c)<|Q5 i) (jZ i c) :=
 ⟨N9 hN hi hx xo hs hf,λG B0 H0 E F σ H D r F' S e q=>by
  unfold jZ at e;split at e
  .rename_i hl;cases e;obtain⟨B,s,sn,I⟩:=S.ex;intro a hn hex;have k1:Kp (m7 K G) H (upd H a<|.ext<|NDi (B3 c) a []):=Kp.upd hn;have r:rG K B H (upd H a<|.ext<|NDi (B3 c) a []) (.dic true c []) (.ref a):=⟨rfl,a,[],rfl,hn,i7,hex,rfl⟩;exact q _ _ (S.putC s sn I k1 (I.fd.same<|k8.upd hn) r hl).1
  .cases e⟩
def bc (E:DE)(i:Nat):Option (Bool×Nat×List (My×My)):=match E[i]? with
 | some (some<|.dic w c ps)=>some (w,c,ps)
 | _=>none
def V9 {E:DE}{i:Nat}{w:Bool}{c:Nat}{ps:List (My×My)}(h:bc E i=some (w,c,ps)):E[i]? = some (some<|DV.dic w c ps):=by
 unfold bc at h;split at h
 .rename_i e;cases h;exact e
 .cases h
noncomputable def oR (i c:Nat)(v k:DE->M My):DE->M Out:=λE F=>(v E F).bind λp=>(k E p.2).bind λq=>(bc E i).bind λd=>if d.1=true/\d.2.1=c/\(P0 c q.1).isSome=true/\d.2.2.length<Os then some (.nx<|E.set i<|some<|.dic true c<|ar c d.2.2 q.1 p.1,q.2) else none
def vk (i c:Nat){x:Str}{m mb:DE->M My}(hu:X.A.units+9<OG)(hv:Ev K X value te m)(hk:Ev K X e ty mb)(hK:X.K=K)(hN:X.N[i]? = some x:=by rfl)(hvis:Vis X.env.scope x:=by first | exact Or.inl rfl | exact Or.inr (Or.inl rfl) | exact Or.inr<|Or.inr rfl)(hd:(x == ("__debug__":Str))=false:=by decide)(hcd:(x == ("__classdict__":Str))=false:=by decide)
  (hs:OB value (some<|.Subscript (.Name x px) e pos') pos.line X.env=pure false:=by rfl) :
  Ss K X (.Assign [.Subscript (.Name x px) e pos'] value pos) (yp (B3 c) K (Q8 i) ty te) (oR i c m mb):=by
 subst hK;refine⟨vt hu (xN c) (G5 hN hvis hd hcd) hk.pe hv.pe hs,λG B0 H0 E F σ H D r F' S e q=>?_⟩;obtain⟨⟨d,F1⟩,e1,e⟩:=bS9 e;obtain⟨⟨n,F2⟩,e2,e⟩:=bS9 e;obtain⟨⟨w,c',ps⟩,e4,e⟩:=bS9 e;dsimp only at e e2;split at e;case isFalse=>cases e
 rename_i hc;obtain⟨rfl,rfl,hks,hlen⟩:=hc;cases e;obtain⟨B,s,sn,I⟩:=S.ex;have eo:=V9 e4;refine hv.ok G B E F σ H _ d F1 I e1 λv H1 k1 f1 h1=>?_
 have I1:=I.step k1 f1;obtain⟨u,w1,a,xs,rfl,hB,hf,hx,hn,hdx⟩:=I1.loc i _ eo;refine⟨_,w1,hk.ok G B E F1 σ H1 _ n _ I1 e2 λy H2 k2 f2 h2=>?_⟩;have I2:=I1.step k2 f2;have S2:=S.step (k1.trans k2) f2;have hd2:=hdx.same<|k2.hid I.fB;obtain⟨k,ek⟩:=JS.1 hks;obtain⟨b,rfl,hb⟩:=lG ek h2;have up:∀cc xs,SqT X.K (hid H2 B) cc xs->SqT X.K H2 cc xs:=λcc xs z=>z.same g6
 refine⟨a,_,rfl,⟨xs,k,b,k2 a _ hx hf,λx hx=>(B3 c').keeps (iP hd2 x hx) up,rfl,(B3 c').keeps hb up,by rw[tj hd2];exact hlen,rfl⟩,λhex=>?_⟩;exact q σ _<|S2.writeD s sn I2 eo w1 (hex _ i7)<|yV hd2 ek h2<|h1.same<|k2.hid I.fB
noncomputable def jN (i c:Nat)(k:DE->M My):DE->M My:=λE F=>(k E F).bind λq=>(bc E i).bind λd=>if d.2.1=c/\(P0 c q.1).isSome=true then(R5 c d.2.2 q.1).bind λz=>some (z,q.2) else none
def vq (i c:Nat){x:Str}{mb:DE->M My}(hu:X.A.units+9<OG)(hk:Ev K X e ty mb)(hK:X.K=K)(hsl:zN e)(hN:X.N[i]? = some x:=by rfl)(hvis:Vis X.env.scope x:=by first | exact Or.inl rfl | exact Or.inr (Or.inl rfl) | exact Or.inr<|Or.inr rfl)(hd:(x == ("__debug__":Str))=false:=by decide)(hcd:(x == ("__classdict__":Str))=false:=by decide) :
  Ev K X (.Subscript (.Name x px) e pos) (xW (B3 c) K (Q8 i) ty) (jN i c mb):=by
 subst hK;refine⟨xt hu (xN c) (G5 hN hvis hd hcd) hk.pe hsl,λG B E F σ H Q r F' I e q=>?_⟩;obtain⟨⟨n,F2⟩,e2,e⟩:=bS9 e;obtain⟨⟨w,c',ps⟩,e4,e⟩:=bS9 e;dsimp only at e;split at e;case isFalse=>cases e
 rename_i hc;obtain⟨rfl,hks⟩:=hc;obtain⟨z,e5,e⟩:=bS9 e;cases e;have eo:=V9 e4;obtain⟨u,w1,a,xs,rfl,hB,hf,hx,hn,hdx⟩:=I.loc i _ eo;refine⟨_,w1,hk.ok G B E F σ H _ n _ I e2 λy H2 k2 f2 h2=>?_⟩;have hd2:=hdx.same<|k2.hid I.fB;obtain⟨k,ek⟩:=JS.1 hks;obtain⟨b,rfl,hb⟩:=lG ek h2;have up:∀cc xs,SqT X.K (hid H2 B) cc xs->SqT X.K H2 cc xs:=λcc xs z=>z.same g6
 rcases lS ek hd2 with ⟨z',v,g1,g2,g3⟩ | ⟨g1,_⟩
 .rw[g1]at e5;cases e5;exact⟨a,v,rfl,⟨xs,k,b,k2 a _ hx hf,λx hx=>(B3 c').keeps (iP hd2 x hx) up,rfl,(B3 c').keeps hb up,g2.symm⟩,q _ _ k2 f2 g3⟩
 .rw[g1]at e5;cases e5
def kg (i c:Nat):DE->M My:=λE F=>(bc E i).bind λd=>if d.2.1=c then some (.list<|d.2.2.map (·.1),F) else none
end
end
variable {ts:List (List My)}{κ:Nat->Int}
section
def pz (d:List My):List (List My)->List (List My)
 | []=>[d]
 | e::r=>if ltM e d=some true then e::pz d r else d::e::r
def cV:List (List My)->List (List My)
 | []=>[]
 | d::r=>pz d<|cV r
def jg (ts:List (List My))(κ:Nat->Int):Prop:=ts.length<64/\(∀d∈ts,cS d)/\∀(i j:Nat) (di dj:List My),i≠j->ts[i]? = some di->ts[j]? = some dj->ltM di dj=some (decide (κ i < κ j))
def el:List My->List (List My)
 | []=>[]
 | .tuple d::r=>d::el r
 | _::r=>el r
theorem V3:∀ts:List (List My),el (ts.map .tuple)=ts
 | []=>rfl
 | d::r=>by rw[IJ,el,V3 r]
open Classical in
def Y0:List My->Option My
 | [.list ds]=>if ∃ts κ,ds=ts.map .tuple/\jg ts κ then some (.list<|(cV<|el ds).map .tuple) else none
 | _=>none
def oP (h:jg ts κ):Y0 [.list<|ts.map .tuple]=some (.list<|(cV ts).map .tuple):=by unfold Y0;dsimp only;rw[IE ⟨ts,κ,rfl,h⟩,V3]
theorem oF {p:Int×List My}:∀{l:List (Int×List My)},(∀q∈l,ltM q.2 p.2=some (decide (q.1<p.1)))->(aH p l).map Prod.snd=pz p.2 (l.map Prod.snd)
 | [],_=>rfl
 | q::r,h=>by
  have h1:=h q IG;rw[aH,IJ,pz];by_cases hz:p.1<=q.1
  .rw[IE hz,II (by rw[h1];intro z;have:=Jg<|IS z;omega)];rfl
  .rw[II hz,IE (by rw[h1,Je<|by omega]),IJ,oF λq hq=>h q<|IA _ hq]
theorem nt:∀{l:List (Int×List My)},l.Pairwise (λp q=>ltM q.2 p.2=some (decide (q.1<p.1)))->(K5 l).map Prod.snd=cV (l.map Prod.snd)
 | [],_=>rfl
 | p::r,h=>by rw[KJ]at h;rw[K5,IJ,cV,<-nt h.2];exact oF λq hq=>h.1 q<|(R8 r).mem_iff.mp hq
def gr (h:jg ts κ):(K5<|((List.range ts.length).map κ).zip<|ts.map My.tuple).map Prod.snd=(cV ts).map .tuple:=by
 have e1:((List.range ts.length).map κ).zip (ts.map My.tuple)=(((List.range ts.length).map κ).zip ts).map λq=>(q.1,My.tuple q.2):=by rw[List.zip_map_right];rfl
 rw[e1,aV My.tuple,Jn];have e2:(((List.range ts.length).map κ).zip ts).map Prod.snd=ts:=by refine List.map_snd_zip ?_;simp
 rw[show(Prod.snd ∘ λq:Int×List My=>(q.1,My.tuple q.2))=My.tuple ∘ Prod.snd from rfl,<-Jn,nt,e2];rw[Lr];intro i j hi hj hij;have hj':j<ts.length:=by simpa using hj
 simp only[List.getElem_zip,LV,Ny];exact h.2.2 j i _ _ (by omega) (IM hj') (IM<|by omega)
theorem fy {K:Fg}{H:Hp}:∀{ts:List (List My)} {zs:List V},c5 K H (ts.map .tuple) zs->∀(i:Nat) (z:V) (d:List My),zs[i]? = some z->ts[i]? = some d->c6 K H (.tuple d) z
 | [],zs,h,i,z,d,_,e=>by simp at e
 | t::ts,zs,h,i,z,d,e1,e2=>by
  rw[IJ]at h;simp only[c5]at h;obtain⟨x,r,rfl,h1,h2⟩:=h;cases i with
  | zero=>cases e1;cases e2;exact h1
  | succ i=>exact fy h2 i z d (by simpa using e1) (by simpa using e2)
section
variable [Feeds]{K:Fg}{X:Cx}
def qB (hK:X.K=K)(hu:X.A.units+64<OG):A3 X (.builtin "sorted") (rDN K Y0):=by
 walk_at "kc";unfold Y0 at hf;split at hf;case h_2=>cases hf
 rename_i ds';split at hf;case isFalse=>cases hf
 rename_i hc;cases hf;obtain⟨ts,κ,rfl,hS⟩:=hc;obtain⟨v,rfl,a,xs,rfl,ha,hd⟩:=aZ h1 rfl;have hlen:xs.length=ts.length:=by rw[hd.length,Iz]
 refine mY hK hu OM s σ H _ us Q I r ⟨a,xs,ts,κ,rfl,SqL.of<|g6 _ _ ha,hlen,λi z d e1 e2=>(fy hd i z d e1 e2).same g6,hS.2.1,hS.2.2,hS.1,λp ys hp o=>?_⟩;have eo:rq ((List.range ts.length).map λi=>V.int<|κ i) xs ys:=by
  obtain⟨hy,p',hs,hp'⟩:=o;have ek:∀i,i<xs.length->dh ((List.range ts.length).map λi=>V.int<|κ i) i = κ i:=λi hi=>by unfold dh;rw[Jb,IU,Kf<|by omega];rfl
  refine⟨hy,p',⟨λi j hij hj=>?_,hs.2.1,hs.2.2⟩,hp'⟩;have:=hs.1 i j hij hj;unfold Lx at this ⊢;rw[ek _<|hs.2.2 i<|by omega,ek _<|hs.2.2 j hj];exact this
 have ey:=jR eo (by rw[Iz,JW,hlen]);rw[Jn,show(kQ ∘ λi=>V.int<|κ i) = κ from rfl]at ey;subst ey;have:=(lY (ns:=(List.range ts.length).map κ) hd).sort.dats;rw[gr hS]at this;rw[V3]at q;exact q _ _ (k8.upd hp)<|ai bk hp this
end
end
end L3
namespace L3
open PySem PySem.W PySem.Spec PyProof.Rows L2
variable {prog:Oh}{R:Result->Og->Prop}{C Wt:Of}
section
abbrev vMro :List Oe:=[.type "ValueError",.type "Exception",.type "BaseException",.type "object"]
structure ECls (K:Frag) (Wt C f:Of):Prop where
 obj:∃nm q N bs hdct sn sub ab col dd k0 k1 k2 k3 k5,K.lookup C=some (excClassObj nm q C N bs (.ref Wt::vMro) hdct sn sub ab col dd k0 k1 k2 k3 k5 "ValueError.__new__")
 top:∃c0 dd cd sl,K.lookup Wt=some { cls:=c0,dict:=dd,data:=.cls cd,slots:=sl }/\nsOkIn K cd.ns=true/\nsIn K cd.ns "__init__" = some none
 init:findIn K (.ref C) "__init__" = some (some<|.ref f)
 fn:typeIn K (.ref f)=some (.type "function")
 call:specialIn K (.ref C) "__call__" = some (some<|.builtin "type.__call__")
 typ:instIn K (.ref C) (.type "type")=some true
 kp:keepIn K (.ref C)=true
 dict:(clsIn K C).any (·.hasDict)=true
 sa:findIn K (.ref C) "__setattr__" = some (some<|.builtin "object.__setattr__")
abbrev Y5 (C t:Of)(dx:Option Of):Ou:={ cls:=.ref C,dict:=dx,data:=.fields #[.ref t,.none,.none,.none,.bool false,.none] }
section
variable {w:Oi}{A:Oj}{E:Oe->Og->Prop}{K:Frag}{f:Of}{h:Oq}{g:Array GenState}{d:Drawn}{t:Nat}{os:OsState}
def ECls.tail (c:ECls K Wt C f)(X:K.In h):OwnTail h vMro (.ref Wt::vMro):=by obtain⟨c0,dd,cd,sl,l,n1,n2⟩:=c.top;exact .own (X _ _ l) (.of_isNs<|isNs_of_in X n1) (nsMap_none_of_in X n1 n2) .base
def rC {rest:List Oe}(c:ECls K Wt C f)(X:K.In h)(hz:rest.length<=Os)
  (hq:codeAny (model prog w) (A.under<|.builtin "type.__call__" ⟨.ref C::rest,[]⟩) (.call (.ref f) ⟨.ref (h.objs.size+1)::rest,[]⟩) (InitBack (h.objs.size+1) R)
   ⟨(h.push { cls:=.type "tuple",data:=.seq rest.toArray }).push<|Y5 C h.objs.size none,g,d,t,os⟩) :
  codeAny (model prog w) A (.call (.ref C) ⟨rest,[]⟩) R ⟨h,g,d,t,os⟩:=by
 obtain⟨nm,q,N,bs,hdct,sn,sub,ab,col,dd,k0,k1,k2,k3,k5,lk⟩:=c.obj;have hC:=X _ _ lk;have T:=c.tail X;have call:=looks_specialIn (M:=model prog w) X c.call;have typ:=looks_instIn (M:=model prog w) X c.typ;have hi:=Ms (M:=model prog w) X c.init;have FB:=PySem.F.excBase_ValueError;refine codeAny_of_tree ?_;show Oz _ _ (callAny (.ref C) _) _ _ _;refine nd_load hC ?_;show Oz _ _ (callAny.viaDunder (.ref C) _) _ _ _;unfold callAny.viaDunder;refine Iw<|call.at ?_;dsimp only;rw[tc_bind];refine Iw<|Iy<|Iw<|Iy ?_;refine Iy (a:=Fin.again<|.call (.builtin "type.__call__") ⟨.ref C::rest,[]⟩) ⟨rfl,?_⟩;refine codeAny_call_builtin_at (Code.quiet_builtin _<|by decide +kernel) entry_typeCall<|check_slot tc_kind tc_split typ (tc_args _ _ _) ?_;unfold Builtin.«type.__call__»;have hm:Looks (model prog w) h (mroOf<|.ref C) (.ref C :: .ref Wt::vMro):=((MY (part:=none) hC).andThen .now).andThen .now;have made:Looks (model prog w) h (Bind.madeBy<|.ref C) (some "ValueError.__new__"):=λA Q E s k q=>by obtain⟨hh,gg,dd',tt,oo⟩:=s;exact wpAny_madeBy_exc (k _ _ hC) q
 repeat (first | simp only[List.isEmpty_cons,Jk,JI] | with_reducible refine LF ?_ | lk)
 refine codeAny_call_builtin_code (Code.quiet_builtin _ FB.quiet)<|wpAny_check_new_subT FB T hC ?_;refine codeAny_exc_new_subT FB T hC ?_ hz;generalize hh:(h.push { cls:=.type "tuple",data:=.seq rest.toArray }).push (Y5 C h.objs.size none)=h1 at hq ⊢;have up:∀b o,h.get? b=some o->h1.get? b=some o:=λb o z=>by rw[<-hh];exact ID _<|ID _ z
 have here:h1.get? (h.objs.size+1)=some (Y5 C h.objs.size none):=by rw[<-hh];heap_get
 have X1:K.In h1:=X.keeps up;have ty:Looks (model prog w) h1 (typeOf<|.ref<|h.objs.size+1) (.ref C):=(MY here).andThen .now;have mr:mroIn K C (.ref C)=some true:=by unfold mroIn clsIn;rw[lk];simp
 have own:=looks_mroIn (M:=model prog w) X1 mr;have ini:=Ms (M:=model prog w) X1 c.init;have bnd:=bind_fn (M:=model prog w) X1 (.ref<|h.objs.size+1) c.fn;show Oz _ _ _ _ _ _;unfold isInstance callSpecial? specialOf;repeat (first | with_reducible refine LF ?_ | lk)
 refine Nd hq λr s2 z=>?_
 rcases r with e | (v | _ | _ | _) <;> first | exact z | exact z.elim | skip
 obtain⟨rfl,z⟩:=z;exact Iy<|Iy z
end
end
variable {mA:Str->Option Oe}{name:Str}
section
open Builtin Builtin.ObjectAttr
section
variable {w:Oi}{A:Oj}{E:Oe->Og->Prop}{K:Frag}{f e:Of}{h:Oq}{g:Array GenState}{d:Drawn}{t:Nat}{os:OsState}{v:Oe}
def ECls.cls (c:ECls K Wt C f):∃cd,clsIn K C=some cd/\cd.mro = .ref C :: .ref Wt::vMro/\cd.hasDict=true:=by obtain⟨nm,q,N,bs,hdct,sn,sub,ab,col,dd,k0,k1,k2,k3,k5,lk⟩:=c.obj;obtain⟨cd,e1,e2⟩:=any_some c.dict;refine⟨cd,e1,?_,e2⟩;unfold clsIn at e1;rw[lk]at e1;cases e1;rfl
def Ax (h h':Oq)(e:Of):Prop :=
 (∀b o,b≠e->(∀o0 dx,h.get? e=some o0->o0.dict=some dx->b≠dx)->h.get? b=some o->h'.get? b=some o) /\
 ∀o0,h.get? e=some o0->∃o1 dx,h'.get? e=some o1/\o1.cls=o0.cls/\o1.data=o0.data/\o1.slots=o0.slots/\o1.dict=some dx/\(o0.dict=some dx\/(o0.dict=none/\dx=h.objs.size))
def xq {tk:Tok}{ns:List Str}(c:ECls K Wt C f)(X:K.In h)(na:findIn K (.ref C) name=some none)(I:h.Inst e C mA)(hw:Within mA ns)(hl:ns.length<=1000)
  (hq:∀h' tk',h'.Inst e C (λy=>if y=name then some v else mA y)->Ax h h' e->R (.ok<|.ret .none) ⟨h',g,d,tk',os⟩) :
  codeAny (model prog w) A (.call (.builtin "object.__setattr__") ⟨[.ref e,.str name tk,v],[]⟩) R ⟨h,g,d,t,os⟩:=by
 have SO:=PySem.F.store_object;have SV:=PySem.F.store_ValueError;obtain⟨cd,hc,hmro,hdict⟩:=c.cls;obtain⟨⟨cl,dct,dat,sls⟩,hx,hcl,hnc,hd⟩:=I;dsimp only at hcl hnc hd;subst hcl;have ty:Looks (model prog w) h (typeOf<|.ref e) (.ref C):=(MY hx).andThen .now;have mr:mroIn K C (.type "object")=some true:=by unfold mroIn;rw[hc,Jd,hmro];rfl
 have sub:Looks (model prog w) h (isInstance (.ref e)<|.type "object") true:=ty.andThen<|looks_mroIn X mr;have hm:Looks (model prog w) h (mroOf<|.ref C) cd.mro:=(looks_clsIn X hc).andThen .now;have lkn:=Ms (M:=model prog w) X na;refine Nm SO.slot.plain SO.entry<|@check_slot (model prog w) _ _ ⟨h,g,d,t,os⟩ "object.__setattr__" "object" "__setattr__" (.ref e) [.str name tk,v] [] _ SO.kind SO.split sub (SO.args (.ref e) (.str name tk) v) ?_;rw[osa_eq,refuse_eq];refine Iw<|Iw<|ty.here<|Iw<|hm.here ?_;rw[hmro,refuseLoop_ref,refuseLoop_ref,SV.passes];refine Iy<|Iw<|ty.here<|Iw<|lkn.here<|Iw<|Iy ?_;show Oz _ _ (storeInOwnDict (.ref e) (.ref C) (.str name tk) name v false) _ _ _;have cdl:=looks_clsIn (M:=model prog w) X hc;unfold storeInOwnDict ownDictForStores instanceDict;refine Iw<|Iy<|Iw<|Iw<|wpAny_loadPart hx<|Iw<|cdl.here ?_;rw[hdict];simp only[KR,Jk,JI];rcases hd with ⟨rfl,hmA⟩ | ⟨dx,rfl,hne,hns⟩
 .dsimp only;rw[II<|by simp[typeHasDict]];have hlt:e<h.objs.size:=IF hx;have hes:e≠h.objs.size:=IX hlt;refine Iw<|wpAny_alloc'<|Iw<|wpAny_update' (ID _ hx)<|Iy ?_;generalize hh1:(h.push { cls:=.type "dict",data:=.dict #[] }).update e (λo=>{ cls:=o.cls,dict:=some h.objs.size,data:=o.data,slots:=o.slots })=h1;have gd:h1.get? h.objs.size=some { cls:=.type "dict",data:=.dict #[] }:=by rw[<-hh1];exact(JN _ _ _ _ hes.symm).trans<|Oq.get?_push_at rfl rfl
  have ge:h1.get? e=some { cls:=.ref C,dict:=some h.objs.size,data:=dat,slots:=sls }:=by rw[<-hh1];refine JD _ (ID _ hx) ?_;have fr:=(NB.1 hx).2;cases dat <;> first | rfl | exact fr
  have up1:∀b o,b≠e->h.get? b=some o->h1.get? b=some o:=λb o hb z=>by rw[<-hh1];exact(JN _ _ _ _ hb).trans<|ID _ z
  have e0:h1.Ns h.objs.size (λ_=>none):=⟨_,#[],_,gd,rfl,λz hz=>absurd hz (by simp),λ_=>rfl⟩;show Oz _ _ (storeInDict h.objs.size (.str name tk) name v) _ _ _;unfold storeInDict newKeyGuard;refine Iw (Iy<|Iw<|wpAny_nsSet1 (Oq.Ns1.of_empty e0) λh2 n2 s2=>?_);obtain⟨oD,esD,epD,hoD,hdD,hcD⟩:=n2.count<|Within.cons name v Within.nil;refine Iw (wpAny_lookBehind hoD (by rw[hdD];exact pastItsLine_dict<|IV hcD<|by simp[Jr]) ?_);refine Iy (hq h2 _ ⟨_,(s2.2 e hes).trans ge,rfl,hnc,.inr ⟨h.objs.size,rfl,hes.symm,?_⟩⟩ ⟨λb o hb _ z=>(s2.2 b<|IX<|IF z).trans<|up1 b o hb z,λo0 z=>?_⟩)
  .have ef:(λy=>if y=name then some v else mA y) = λy=>if y=name then some v else(none:Option Oe):=by funext y;rw[hmA y]
   rw[ef];exact n2
  .rw[hx]at z;cases z;exact⟨_,_,(s2.2 e hes).trans ge,rfl,rfl,rfl,rfl,.inr ⟨rfl,rfl⟩⟩
 .refine Iy ?_;show Oz _ _ (storeInDict dx (.str name tk) name v) _ _ _;unfold storeInDict newKeyGuard;refine Iw (Iy<|Iw<|wpAny_nsSet1 hns λh2 n2 s2=>?_);obtain⟨oD,esD,epD,hoD,hdD,hcD⟩:=n2.count<|Within.cons name v hw;refine Iw (wpAny_lookBehind hoD (by rw[hdD];exact pastItsLine_dict<|IV hcD (by rw[IK,Jr];omega)) ?_);refine Iy (hq h2 _ ⟨_,(s2.2 e hne.symm).trans hx,rfl,hnc,.inr ⟨dx,rfl,hne,n2⟩⟩ ⟨λb o hb hbd z=>(s2.2 b<|hbd _ dx hx rfl).trans z,λo0 z=>⟨o0,dx,(s2.2 e hne.symm).trans z,rfl,rfl,rfl,by rw[hx]at z;cases z;rfl,.inl (by rw[hx]at z;cases z;rfl)⟩⟩)
end
end
section
open Builtin Builtin.ObjectAttr
section
variable {w:Oi}{A:Oj}{E:Oe->Og->Prop}{K:Frag}{f e:Of}{h:Oq}{g:Array GenState}{d:Drawn}{t:Nat}{os:OsState}{v:Oe}
def jS {ns:List Str}{Q:Unit->Og->Prop}(c:ECls K Wt C f)(X:K.In h)(na:findIn K (.ref C) name=some none)(I:h.Inst e C mA)(hw:Within mA ns)(hl:ns.length<=1000)
  (hq:∀h' tk',h'.Inst e C (λy=>if y=name then some v else mA y)->Ax h h' e->Q () ⟨h',g,d,tk',os⟩) :
  Oz (model prog w) A (setAttr (.ref e) name v) Q E ⟨h,g,d,t,os⟩:=by
 have SO:=PySem.F.store_object;obtain⟨⟨cl,dct,dat,sls⟩,hx,hcl,hnc,hd⟩:=id I;dsimp only at hcl hnc hd;subst hcl;have ty:Looks (model prog w) h (typeOf<|.ref e) (.ref C):=(MY hx).andThen .now;have sa:=Ms (M:=model prog w) X c.sa;have bnd:=SO.slot.bind<|.ref e;unfold setAttr callSpecial? specialOf;refine Iw<|wpAny_mkText ?_;refine Iw<|Iw<|Iw<|ty.here<|sa.here<|JL ?_;rw[bnd];refine Iw<|Iy<|Iw<|LF ?_;refine xq c X na I hw hl λh' tk' I' L=>?_
 exact Iy<|Iy<|hq h' tk' I' L
end
end
variable {env:Ov}
section
inductive InitBody:List Str->List On->Prop
 | nil:InitBody [] []
 | pass {pos:Pos}:InitBody [] [.Pass pos]
 | cons {p:Str} {ps:List Str} {b:List On} {x y z pos:Pos}:InitBody ps b->InitBody (p::ps) (.Assign [.Attribute (.Name "self" x) p y] (.Name p z) pos::b)
def eO (m:Str->Option Oe):List Str->(Str->Option Oe)->Str->Option Oe
 | [],M=>M
 | p::ps,M=>eO m ps λy=>if y=p then m p else M y
structure ISt (hb:Oq) (L e C t:Of) (m mA:Str->Option Oe) (ns:List Str) (h:Oq):Prop where
 keep:∀b o,hb.get? b=some o->b≠e->h.get? b=some o
 fr:h.Ns L m
 obj:∃dct,h.get? e=some (Y5 C t dct)/\((dct=none/\∀n,mA n=none)\/∃dx,dct=some dx/\dx≠e/\dx≠L/\hb.objs.size<=dx/\h.Ns1 dx mA)
 wi:Within mA ns
 sz:hb.objs.size<=h.objs.size
section
variable {w:Oi}{A:Oj}{E:Oe->Og->Prop}{K:Frag}{f e L t0:Of}{hb:Oq}{g:Array GenState}{d:Drawn}{os:OsState}{m:Str->Option Oe}
def ISt.inst {ns:List Str}{h:Oq}(I:ISt hb L e C t0 m mA ns h):h.Inst e C mA:=by
 obtain⟨dct,ge,z⟩:=I.obj;refine⟨_,ge,rfl,λc q=>(nomatch q),?_⟩;rcases z with z | ⟨dx,rfl,n1,_,_,n⟩
 .exact .inl z
 .exact .inr ⟨dx,rfl,n1,n⟩
def ISt.put {ns:List Str}{h h':Oq}{v:Oe}(I:ISt hb L e C t0 m mA ns h)(he:e<hb.objs.size)(hL:hb.objs.size<=L)(J:h'.Inst e C (λy=>if y=name then some v else mA y))(lf:Ax h h' e) :
  ISt hb L e C t0 m (λy=>if y=name then some v else mA y) (name::ns) h':=by
 obtain⟨dct,ge,z⟩:=I.obj;obtain⟨o1,dx,g1,c1,d1,s1,e1,e2⟩:=lf.2 _ ge;have hLs:L<h.objs.size:=I.fr.lt;have hes:e<h.objs.size:=IF ge;have dxs:dx≠e/\dx≠L/\hb.objs.size<=dx:=by
  rcases e2 with q | ⟨q,rfl⟩
  .rcases z with ⟨z,_⟩ | ⟨dy,z,a1,a2,a3,_⟩
   .rw[z]at q;cases q
   .rw[z]at q;cases q;exact⟨a1,a2,a3⟩
  .exact⟨Jt hes,Jt hLs,I.sz⟩
 have old:∀o0 dy,h.get? e=some o0->o0.dict=some dy->dy≠L/\hb.objs.size<=dy:=λo0 dy q1 q2=>by
  rw[ge]at q1;cases q1;rcases z with ⟨z,_⟩ | ⟨dz,z,a1,a2,a3,_⟩
  .rw[z]at q2;cases q2
  .rw[z]at q2;cases q2;exact⟨a2,a3⟩
 have n1:h'.Ns1 dx (λy=>if y=name then some v else mA y):=by
  obtain⟨o,q1,_,_,q2⟩:=J;rw[g1]at q1;cases q1;rcases q2 with ⟨q2,_⟩ | ⟨dy,q2,_,q3⟩
  .rw[e1]at q2;cases q2
  .rw[e1]at q2;cases q2;exact q3
 refine⟨λb o q1 q2=>lf.1 b o q2 (λo0 dy r1 r2=>IX<|IQ (IF q1) (old o0 dy r1 r2).2)<|I.keep b o q1 q2,?_,⟨some dx,?_,.inr ⟨dx,rfl,dxs.1,dxs.2.1,dxs.2.2,n1⟩⟩,Within.cons name v I.wi,?_⟩
 .obtain⟨o,es,ep,q,r⟩:=I.fr;exact⟨o,es,ep,lf.1 L o (Jt<|IQ he hL) (λo0 dy r1 r2=>(old o0 dy r1 r2).1.symm) q,r⟩
 .obtain⟨c,dd,da,sl⟩:=o1;dsimp only at c1 d1 s1 e1;subst c1 d1 s1 e1;exact g1
 .have:L<h'.objs.size:=by obtain⟨o,es,ep,q,r⟩:=I.fr;exact IF (lf.1 L o (Jt<|IQ he hL) (λo0 dy r1 r2=>(old o0 dy r1 r2).1.symm) q)
  exact Ka<|Jj hL this
def kA (c:ECls K Wt C f)(X:K.In hb)(he:e<hb.objs.size)(hKe:K.lookup e=none)(hL:hb.objs.size<=L)(hk:env.scope.kind = .function)(hl:env.locals=L)(hself:m "self" = some (.ref e)/\env.kindOf "self" = some .local){Q:Flow->Og->Prop} :
  ∀(ps:List Str) (body:List On) (mA:Str->Option Oe) (ns:List Str) (h:Oq) (tk:Nat),InitBody ps body->ISt hb L e C t0 m mA ns h->ns.length+ps.length<=1000 ->
  (∀p∈ps,findIn K (.ref C) p=some none/\(p == ("__debug__":Str))=false/\env.kindOf p=some .local/\∃v,m p=some v) ->
  (∀h' tk' ns',ISt hb L e C t0 m (eO m ps mA) ns' h'->Q .next ⟨h',g,d,tk',os⟩)->Oz (model prog w) A (execs body env) Q E ⟨h,g,d,tk,os⟩
 | [],_,mA,ns,h,tk,.nil,I,_,_,q=>Li<|q h tk ns I
 | [],_,mA,ns,h,tk,.pass,I,_,_,q=>MT<|wpAny_Pass<|Li<|q h tk ns I
 | p::ps,_,mA,ns,h,tk,.cons B,I,hz,hp,q=>by
  obtain⟨na,nd,kp,v,hv⟩:=hp p IG;rw[IK]at hz;have XK:K.In h:=λb o z=>I.keep b o (X b o z) λy=>by rw[y,hKe]at z;cases z
  have fr:h.Ns env.locals m:=by rw[hl];exact I.fr
  refine MT<|plainObj_wpAny_Assign_Attribute<|wpAny_Name (LQ hk kp fr hv<|wpAny_Name<|LQ hk hself.2 fr hself.1 ?_) nd;refine jS c XK na I.inst I.wi (by omega) λh' tk' J lf=>?_
  refine kA c X he hKe hL hk hl hself ps _ _ (p::ns) h' tk' B (I.put he hL J lf) (by rw[IK];omega) (λx hx=>hp x<|IA _ hx) λh2 tk2 ns2 I2=>q h2 tk2 ns2 ?_
  rw[eO];rw[hv];exact I2
end
end
section
structure EIni (K:Frag) (C f:Of) (ps:List Str):Prop where
 fn:∃(qual:Str) (params:Arguments) (body:List On) (scope:Ol) (oc:Oe) (od:Option Of) (kV doc pm:Oe) (an:Option Of) (OP ct:Oe) (osl:Array (Option Oe)),
  K.lookup f=some ⟨oc,od,.func<|fnOf "__init__" qual params body scope .none kV doc pm an OP ct,osl⟩/\codeIn K OP qual=true/\FnScope (("self":Str)::ps) (("self":Str)::ps) scope/\(∀p∈("self":Str)::ps,scope.names.lookup p=some .local)/\InitBody ps body /\
  ∀us:List Oe,us.length=ps.length+1->bindArgs (fnOf "__init__" qual params body scope .none kV doc pm an OP ct) ⟨us,[]⟩=pure ((("self":Str)::ps).zip us)
 na:∀p∈ps,findIn K (.ref C) p=some none/\(p == ("__debug__":Str))=false
 few:ps.length<=100
structure EMade (h h':Oq) (e C:Of) (mF:Str->Option Oe):Prop where
 keeps:∀b o,h.get? b=some o->h'.get? b=some o
 new:h.objs.size<=e
 obj:∃t dct,h'.get? e=some (Y5 C t dct)/\((dct=none/\∀n,mF n=none)\/∃dx,dct=some dx/\dx≠e/\h.objs.size<=dx/\h'.Ns1 dx mF)
def Y9:List Str->List Oe->Str->Option Oe
 | p::ps,v::vs,y=>if y=p then some v else Y9 ps vs y
 | _,_,_=>none
theorem jO (m:Str->Option Oe):∀(ps:List Str) (M:Str->Option Oe) (y:Str),eO m ps M y=if y∈ps then m y else M y
 | [],M,y=>by simp[eO]
 | p::ps,M,y=>by
  rw[eO,jO m ps];by_cases h:y∈ps
  .simp[h]
  .by_cases h2:y=p
   .subst h2;simp[h]
   .simp[h,h2]
theorem kC:∀{ps:List Str} {vs:List Oe} {i:Nat} {p:Str} {v:Oe},ps.Nodup->ps[i]? = some p->vs[i]? = some v->Y9 ps vs p=some v
 | [],_,_,_,_,_,h,_=>by simp at h
 | _::_,[],_,_,_,_,_,h=>by simp at h
 | q::ps,w::vs,0,p,v,nd,h1,h2=>by
  cases h1;cases h2;simp[Y9]
 | q::ps,w::vs,i+1,p,v,nd,h1,h2=>by
  have nd':=Lk.1 nd;have h1:ps[i]? = some p:=h1;have h2:vs[i]? = some v:=h2;have hne:p≠q:=λz=>nd'.1 (by rw[<-z];exact Ju h1)
  rw[Y9,II hne];exact kC nd'.2 h1 h2
theorem jU:∀{ps:List Str} {vs:List Oe} {y:Str},y ∉ ps->Y9 ps vs y=none
 | [],_,_,_=>by simp[Y9]
 | _::_,[],_,_=>by simp[Y9]
 | q::ps,w::vs,y,h=>by rw[Y9,II<|λz=>h<|by simp[z]];exact jU λz=>h<|IA _ z
section
variable {w:Oi}{A:Oj}{E:Oe->Og->Prop}{K:Frag}{f:Of}{ps:List Str}{h:Oq}{g:Array GenState}{d:Drawn}{tk:Nat}{os:OsState}
def tQ {us:List Oe}{Q:Oe->Og->Prop}(c:ECls K Wt C f)(i:EIni K C f ps)(X:K.In h)(lim:h.NoLimit)(hr:Room 2 A)(hl:us.length=ps.length)
  (hq:∀h' tk' e,EMade h h' e C (Y9 ps us)->Q (.ref e) ⟨h',g,d,tk',os⟩):Oz (model prog w) A (call (.ref C) us) Q E ⟨h,g,d,tk,os⟩:=by
 have few:=i.few;refine LF (rC c X (by rw[Jr];omega) ?_);obtain⟨qual,params,body,scope,oc,od,kV,doc,pm,an,OP,ct,osl,lk,hcd,S,loc,IB,bd⟩:=i.fn;generalize hh:(h.push { cls:=.type "tuple",data:=.seq us.toArray }).push (Y5 C h.objs.size none)=hb;have up:∀b o,h.get? b=some o->hb.get? b=some o:=λb o z=>by rw[<-hh];exact ID _<|ID _ z
 have here:hb.get? (h.objs.size+1)=some (Y5 C h.objs.size none):=by rw[<-hh];heap_get
 have hsz:hb.objs.size=h.objs.size+2:=by rw[<-hh,Kj,Kj]
 have X1:K.In hb:=X.keeps up;have hKe:K.lookup (h.objs.size+1)=none:=by
  cases q:K.lookup (h.objs.size+1) with
  | none=>rfl
  | some o=>exact absurd (IF<|X _ _ q)<|LS.2<|Md _
 have hlu:(Oe.ref (h.objs.size+1)::us).length=ps.length+1:=by simp[hl]
 have hr1:Room 1 (A.under<|.builtin "type.__call__" ⟨.ref C::us,[]⟩):=hr.make C us [];refine codeAny_call_function hr1.depth (X1 _ _ lk) rfl S.co S.gen rfl (codeRec_of X1 hcd)<|BindsTo.of_eq (bd _ hlu) _ _ _ _ ?_;refine wpAny_newFunctionEnv_cells S.kind (λy hy=>.inl<|loc y.1 (Nf hy).1) λenv he s1 x=>?_
 subst he;refine⟨lim.keeps λb o z=>x.toInCall.keep b o<|up b o z,codeAny_func ?_⟩;obtain⟨h1,tk1,rfl,hk1⟩:=x.done;have fr:=x.toInCall.ns;have nd:=Lk.1 S.nd;have kd:∀p∈("self":Str)::ps,(envOfC qual scope hb.objs.size f OP).kindOf p=some .local:=λp hp=>loc p hp
 have bg:∀{i:Nat} {p:Str} {v:Oe},(("self":Str)::ps)[i]? = some p->(Oe.ref (h.objs.size+1)::us)[i]? = some v->bindL (envOfC qual scope hb.objs.size f OP).kindOf ((("self":Str)::ps).zip (Oe.ref (h.objs.size+1)::us)) (λ_=>none) p=some v :=
  λh1 h2=>cu S.nd h1 h2<|kd _<|Ju h1
 have at_:∀p∈ps,∃v,Y9 ps us p=some v/\bindL (envOfC qual scope hb.objs.size f OP).kindOf ((("self":Str)::ps).zip (Oe.ref (h.objs.size+1)::us)) (λ_=>none) p=some v:=λp hp=>by
  obtain⟨j,hj,e⟩:=List.mem_iff_getElem.1 hp;have e1:ps[j]? = some p:=by rw[IM hj,e]
  have e2:us[j]? = some (us[j]'(by omega)):=IM _;exact⟨_,kC nd.2 e1 e2,bg (i:=j+1) e1 e2⟩
 have hk2:∀b o,hb.get? b=some o->h1.get? b=some o:=hk1;refine kA (hb:=hb) (L:=hb.objs.size) (t0:=h.objs.size) (C:=C) (e:=h.objs.size+1) (f:=f) c X1 (by rw[hsz];exact Kd _) hKe (IT _) S.kind rfl ⟨bg (i:=0) rfl rfl,kd _ IG⟩ ps body (λ_=>none) [] h1 tk1 IB
  ⟨λb o z _=>hk2 b o z,fr,⟨none,hk2 _ _ here,.inl ⟨rfl,λ_=>rfl⟩⟩,Within.nil,Ka fr.lt⟩ (by rw[JB,Jv];exact IV few<|by decide) (λp hp=>⟨(i.na p hp).1,(i.na p hp).2,kd p<|IA _ hp,let ⟨v,_,z⟩:=at_ p hp;⟨v,z⟩⟩) λh' tk' ns' I'=>?_
 refine⟨rfl,hq h' tk' _ ⟨λb o z=>I'.keep b o (up b o z)<|IX<|Kh<|IF z,Md _,?_⟩⟩;have em:eO (bindL (envOfC qual scope hb.objs.size f OP).kindOf ((("self":Str)::ps).zip (Oe.ref (h.objs.size+1)::us))<|λ_=>none) ps (λ_=>none)=Y9 ps us:=by
  funext y;rw[jO];by_cases hy:y∈ps
  .obtain⟨v,z1,z2⟩:=at_ y hy;rw[IE hy,z1,z2]
  .rw[II hy,jU hy]
 obtain⟨dct,ge,z⟩:=I'.obj;rw[em]at z;refine⟨_,dct,ge,?_⟩;rcases z with z | ⟨dx,z1,z2,_,z4,z5⟩
 .exact .inl z
 .exact .inr ⟨dx,z1,z2,IV (by rw[hsz];exact Nat.le_add_right _ 2) z4,z5⟩
end
end
variable {pos:Pos}{es:List Oo}
section
section
variable {M:Model}{A:Oj}{E:Oe->Og->Prop}{K:Frag}{f:Of}{s:Og}
def oX {x:Sem Oe}{Q:Flow->Og->Prop}(c:ECls K Wt C f)(hh:A.handled=none)
  (h:Oz M A x (λv s1=>∃e t dct,v = .ref e/\K.In s1.heap/\s1.heap.get? e=some (Y5 C t dct)/\E (.ref e) s1) E s) :
  Oz M A (raiseStmt env (some x) none) Q E s:=by
 unfold raiseStmt;refine Iw (Jh h (λv s1 h1=>?_) λ_ _ z=>z);obtain⟨e,t,dct,rfl,X,ge,q⟩:=h1;obtain⟨nm,qn,N,bs,hdct,sn,sub,ab,col,dd,k0,k1,k2,k3,k5,lk⟩:=c.obj;have hC:=X _ _ lk;have has:(Oe.ref C :: .ref Wt::vMro).contains (.type "BaseException")=true:=rfl;obtain⟨hp,g,d,tk,os⟩:=s1;repeat (first | with_reducible refine wpAny_loadPart_at ge ?_ | with_reducible refine wpAny_loadPart_at hC ?_ | (with_reducible refine wpAny_isSubtype_exc hC ?_;rw[has]) | wp_step)
 exact wpAny_raiseNew_none hh q
end
section
variable {X:Cx}{K:Frag}{f:Of}{ps:List Str}{x:Str}{p cp:Pos}{a:Oo}{t:TA}
def uf (W:List V->Hp->Prop)(ps:List Str)(t:TA):TS:=λ_ σ H=>t σ H λvs H1=>vs.length=ps.length/\W vs H1
def AV (X:Cx)(C:Of)(ps:List Str)(W:List V->Hp->Prop):Prop:=∀(OM:List (Of×Ou)) (σ:St) (H:Hp) (s:Og) (e:Of) (h':Oq) (tk:Nat) (us:List Oe) (vs:List V),
 Inv X OM σ H s->n5 vs us->EMade s.heap h' e C (Y9 ps us)->W vs H->X.xe (.ref e) { s with heap:=h',toks:=tk }
def rR {W:List V->Hp->Prop}(c:ECls X.K Wt C f)(i:EIni X.K C f ps)(hr:Room 2 X.A)(hg:Gl X x)(hm:X.mg x=some (.ref C))(hA:AV X C ps W)(ha:PA X (a::es) t)
  (hdb:(x == ("__debug__":Str))=false:=by decide) (he:Ot (a::es) X.env=(false,eval a X.env)::Ot es X.env:=by rfl) (hpl:(Ox cp<|Ot es X.env).any (·.1)=false:=by rfl) :
  PS X (.Raise (some<|.Call (.Name x p) (a::es) [] cp) none pos) (uf W ps t):=by
 intro OM s σ H D I h;rw[arm_exec_Raise];refine Iw<|KG<|oX (K:=X.K) c hr.hd ?_;refine Iw (Jh ?_ (λv s2 q=>Iw<|KG<|Iy q) λ_ _ z=>z);refine Ld<|bo I hg hm ?_ hdb;refine PySem.W.callWith_K (h₀:=X.base) I.ok.mod.kin c.kp (thn (ha cp OM s σ H _ I h) λus s1 ⟨vs,H1,I1,r,q⟩=>⟨I1.kIn,?_⟩) he hpl;obtain⟨hp,g,d,tk,os⟩:=s1;refine tQ c i I1.kIn I1.nolimit hr (by show us.length=_;rw[<-r.length];exact q.1) λh' tk' e M=>?_
 obtain⟨t0,dct,ge,z⟩:=M.obj;exact⟨e,t0,dct,rfl,I1.kIn.keeps M.keeps,ge,hA OM σ H1 _ e h' tk' us vs I1 r M q.2⟩
end
end
variable {outer:List Ov}{dct:Option Of}
section
def Err (h:Oq)(e C:Of)(dct:Option Of)(tb:Oe):Prop:=∃vs,h.get? e=some { cls:=.ref C,dict:=dct,data:=.fields vs }/\vs[1]? = some tb
def Tbk (h:Oq)(T:Of)(fl:Oe):Prop:=∃o ts,h.get? T=some o/\o.data = .fields ts/\ts[3]? = some fl
structure Turned (fr S:List Of) (h h':Oq):Prop where
 keep:∀b o,b ∉ fr->b ∉ S->h.get? b=some o->h'.get? b=some o
 slot:∀b o,b ∉ S->h.get? b=some o->∃sl,h'.get? b=some { o with slots:=sl }
 size:h.objs.size<=h'.objs.size
def Turned.trans {fr S S':List Of}{h h1 h2:Oq}(a:Turned fr S h h1)(b:Turned fr S' h1 h2):Turned fr (S++S') h h2 where
 keep:=λc o n1 n2 z=>b.keep c o n1 (λq=>n2<|Jl _ q) (a.keep c o n1 (λq=>n2<|KB _ q) z)
 slot:=λc o n z=>by obtain⟨sl,z1⟩:=a.slot c o (λq=>n<|KB _ q) z;obtain⟨sl',z2⟩:=b.slot c _ (λq=>n<|Jl _ q) z1;exact⟨sl',z2⟩
 size:=IV a.size b.size
def dQ {fr:List Of}{h:Oq}{a:Of}{g:Ou->Ou}:Turned fr [a] h (h.update a g) where
 keep:=λb o _ n z=>(JN _ _ _ _<|by simpa using n).trans z
 slot:=λb o n z=>⟨o.slots,(JN _ _ _ _<|by simpa using n).trans z⟩
 size:=Nat.le_of_eq (LU _ _ _).symm
section
variable {M:Model}{A:Oj}{E:Oe->Og->Prop}{s:Og}{base:Oq}{L e T:Of}{tb:Oe}
def gy {hadNext:Bool}{head:Oe}{Q:Unit->Og->Prop}(hfr:A.frames=some (env::outer))(hl:s.heap.FunFrames base (env::outer))(hf:env.frame=some L)(he:Err s.heap e C dct tb)
  (q:∀h' T,s.heap.objs.size<=T->Err h' e C dct (.ref T)->Tbk h' T (rawInt L)->Turned (frs (env::outer)) [e] s.heap h'->Q () { s with heap:=h' }) :
  Oz M A (do let a <-frameOf env;let pl <-entryPlaceOf L hadNext;let b <-EntryCells.newEntry head a .none (rawInt L) .none pl;setField (.ref e) 1 b) Q E s:=by
 obtain⟨vs,ge,g1⟩:=he;have hsz:1<vs.size:=(Mc.1 g1).1;have hne:e ∉ frs (env::outer):=λz=>by obtain⟨_,o,ho,nf⟩:=hl.mem z;rw[ge]at ho;cases ho;exact nf vs rfl
 refine Iw (wpAny_frameOf_fun hfr hl hf λh1 ⟨z1,z2,z3⟩=>Iw<|wpAny_entryPlaceOf λpl hpl=>?_);unfold EntryCells.newEntry newFields;refine Iw<|JP ?_<|hpl.sizeOk5 _ _ _ _ _;have ge1:h1.get? e=some { cls:=.ref C,dict:=dct,data:=.fields vs }:=(z2 e hne).trans ge;generalize hts:([head,Oe.ref L,Oe.none,rawInt L,Oe.none]++(if pl.isEmpty then List.replicate 6 Oe.none else pl)).toArray=ts;have t3:ts[3]? = some (rawInt L):=by rw[<-hts];first | (simp;done) | (rcases hpl with rfl | ⟨_,_,_,_,_,_,_,rfl⟩ <;> simp)
 generalize hO:({ cls:=Oe.type "traceback",dict:=none,data:=Data.fields ts }:Ou)=O;have ge2:(h1.push O).get? e=some { cls:=.ref C,dict:=dct,data:=.fields vs }:=ID O ge1;refine Ls ge2 rfl hsz ?_;have hTe:h1.objs.size≠e:=Jt<|IF ge1;have sz1:h1.objs.size=s.heap.objs.size:=z1;refine q _ h1.objs.size (Nat.le_of_eq sz1.symm) ⟨vs.setIfInBounds 1<|.ref h1.objs.size,?_,by simp[hsz]⟩ ⟨O,ts,?_,by rw[<-hO],t3⟩ ⟨λb o n1 n2 z=>?_,λb o n z=>?_,?_⟩
 .exact JD (Ou.mapFields (·.setIfInBounds 1 (Oe.ref h1.objs.size))) ge2 rfl
 .refine(JN _ _ _ _ hTe).trans<|Jc h1 ?_;rw[<-hO];rfl
 .have hb:b≠e:=by simpa using n2
  exact(JN _ _ _ _ hb).trans<|ID O<|(z2 b n1).trans z
 .have hb:b≠e:=by simpa using n
  obtain⟨sl,y⟩:=z3 b o z;exact⟨sl,(JN _ _ _ _ hb).trans<|ID O y⟩
 .rw[LU,Kj,sz1];exact Md _
def lR {Q:Unit->Og->Prop}(hfr:A.frames=some (env::outer))(hl:s.heap.FunFrames base (env::outer))(hf:env.frame=some L)(he:Err s.heap e C dct .none)
  (q:∀h' T,s.heap.objs.size<=T->Err h' e C dct (.ref T)->Tbk h' T (rawInt L)->Turned (frs (env::outer)) [e] s.heap h'->Q () { s with heap:=h' }):Oz M A (noteFrame (.ref e) env) Q E s:=by obtain⟨vs,ge,g1⟩:=id he;unfold noteFrame;simp only[hf];refine Iw<|Kk ge rfl g1 ?_;rw[II<|show ¬((Oe.none != Oe.none)=true) by decide];exact gy hfr hl hf he q
def gq {Q:Unit->Og->Prop}(hfr:A.frames=some (env::outer))(hl:s.heap.FunFrames base (env::outer))(hf:env.frame=some L)(he:Err s.heap e C dct (.ref T))(ht:Tbk s.heap T .none)(hTe:T≠e)
  (q:∀h' T',s.heap.objs.size<=T'->Err h' e C dct (.ref T')->Tbk h' T' (rawInt L)->Turned (frs (env::outer)) [T,e] s.heap h'->Q () { s with heap:=h' }):Oz M A (noteFrame (.ref e) env) Q E s:=by
 obtain⟨vs,ge,g1⟩:=id he;obtain⟨oT,ts,gt,dt,t3⟩:=ht;unfold noteFrame;simp only[hf];refine Iw<|Kk ge rfl g1 ?_;rw[IE<|show(Oe.ref T != Oe.none)=true by simp];refine Iw<|Kk gt dt t3 ?_;rw[II<|show ¬((Oe.none == rawInt L)=true) by simp[rawInt]];refine Iw<|Ls gt dt (Mc.1 t3).1 ?_;have tu:Turned (frs (env::outer)) [T] s.heap (s.heap.update T<|Ou.mapFields (·.setIfInBounds 3 Oe.none)):=dQ;refine gy (s:={ s with heap:=s.heap.update T (Ou.mapFields (·.setIfInBounds 3 Oe.none)) }) hfr (hl.of_keeps λb o z nf=>?_) hf ⟨vs,(JN _ _ _ _ hTe.symm).trans ge,g1⟩ λh' T' z1 z2 z3 z4=>q h' T' (IV tu.size z1) z2 z3<|tu.trans z4
 refine⟨o,(JN _ _ _ _ λy=>?_).trans z,rfl⟩;rw[y,gt]at z;cases z;exact nf ts dt
def V8 {fl:Oe}{Q:Unit->Og->Prop}(he:Err s.heap e C dct (.ref T))(ht:Tbk s.heap T fl)(hTe:T≠e)
  (q:∀h',Err h' e C dct (.ref T)->Tbk h' T .none->Turned [] [T] s.heap h'->Q () { s with heap:=h' }):Oz M A (setFlight (.ref e) none) Q E s:=by obtain⟨vs,ge,g1⟩:=he;obtain⟨oT,ts,gt,dt,t3⟩:=ht;have h3:=(Mc.1 t3).1;unfold setFlight;refine Iw<|Kk ge rfl g1 ?_;rw[IE<|show(Oe.ref T != Oe.none)=true by simp];refine Ls gt dt h3 (q _ ⟨vs,(JN _ _ _ _ hTe.symm).trans ge,g1⟩ ⟨_,ts.setIfInBounds 3 .none,JD _ gt<|Na<|Lf dt _,Lf dt _,by simp[h3]⟩ dQ)
end
end
variable {OM:List (Of×Ou)}
section
section
variable {M:Model}{A:Oj}{E:Oe->Og->Prop}{s:Og}{base:Oq}{L e T:Of}
def Turned.off {fr S:List Of}{h h1 h2:Oq}(a:Turned fr S h h1)(b:Turned [] [T] h1 h2)(hT:h.objs.size<=T):Turned fr S h h2 where
 keep:=λc o n1 n2 z=>b.keep c o (by simp) (by simpa using IX (IQ (IF z) hT))<|a.keep c o n1 n2 z
 slot:=λc o n z=>by obtain⟨sl,z1⟩:=a.slot c o n z;exact⟨sl,b.keep c _ (by simp) (by simpa using IX (IQ (IF z) hT)) z1⟩
 size:=IV a.size b.size
def nk (h:Oq)(e C:Of)(dct:Option Of)(S:List Of):Prop:=(Err h e C dct .none/\S=[e])\/∃T,Err h e C dct (.ref T)/\Tbk h T .none/\T≠e/\S=[T,e]
def nk.lt {h:Oq}{S:List Of}(a:nk h e C dct S):e<h.objs.size:=by rcases a with ⟨⟨vs,g,_⟩,_⟩ | ⟨T,⟨vs,g,_⟩,_⟩ <;> exact IF g
def qj {S:List Of}{Q:Unit->Og->Prop}(hfr:A.frames=some (env::outer))(hl:s.heap.FunFrames base (env::outer))(hf:env.frame=some L)(ha:nk s.heap e C dct S)
  (q:∀h' T,s.heap.objs.size<=T->T≠e->Err h' e C dct (.ref T)->Tbk h' T .none->Turned (frs (env::outer)) S s.heap h'->Q () { s with heap:=h' }):Oz M A (leaving env<|.ref e) Q E s:=by
 have hlt:=ha.lt;unfold leaving;rcases ha with ⟨he,rfl⟩ | ⟨T,he,ht,hTe,rfl⟩
 .refine Iw (lR hfr hl hf he λh1 T z1 z2 z3 z4=>?_);have hne:T≠e:=Jt<|IQ hlt z1;exact V8 (s:={ s with heap:=h1 }) z2 z3 hne λh2 y1 y2 y3=>q h2 T z1 hne y1 y2<|z4.off y3 z1
 .refine Iw (gq hfr hl hf he ht hTe λh1 T' z1 z2 z3 z4=>?_);have hne:T'≠e:=Jt<|IQ hlt z1;exact V8 (s:={ s with heap:=h1 }) z2 z3 hne λh2 y1 y2 y3=>q h2 T' z1 hne y1 y2<|z4.off y3 z1
end
def fK {P:Oh}{w:Oi}{H:Hp}{h h':Oq}{fr S:List Of}(ok:HOk P w H h)(t:Turned fr S h h')(n1:∀b∈fr,H b=none)(n2:∀b∈S,H b=none):HOk P w H h':=λb u z=>by
 refine(ok b u z).stay (λc v hc q=>t.keep c v (λy=>?_) (λy=>?_) q) (λ_ q=>q) λ_ _ q=>q
 .rcases hc with rfl | hc
  .rw[n1 _ y]at z;cases z
  .rw[n1 _ y]at hc;cases hc
 .rcases hc with rfl | hc
  .rw[n2 _ y]at z;cases z
  .rw[n2 _ y]at hc;cases hc
def BE (lo:Nat)(dct:Option Of)(mF:Str->Option Oe)(S:List Of)(H:Hp)(h:Oq):Prop :=
 (dct=none/\∀n,mF n=none)\/∃dx,dct=some dx/\dx ∉ S/\lo<=dx/\H dx=none/\h.Ns1 dx mF
def Fly (lo:Nat)(e C:Of)(mF:Str->Option Oe)(H:Hp)(h:Oq):Prop :=
 ∃dct T,Err h e C dct (.ref T)/\Tbk h T .none/\T≠e/\lo<=e/\lo<=T/\H e=none/\H T=none/\BE lo dct mF [T,e] H h
def CXe (P:Oh)(w:Oi):CXT:=λouter H s E ev s'=>∃(e:Of) (H':Hp) (C:Of) (ps:List Str) (us:List Oe) (vs:List V),ev = .ref e/\s'.os=s.os/\AllBare s'.gens/\Un (frs outer) [] H H' s.heap s'.heap/\HOk P w H' s'.heap /\
 n5 vs us/\Fly s.heap.objs.size e C (Y9 ps us) H' s'.heap/\E (.ref C) (some e) (upd H' e<|.xd<|ps.zip vs)
structure Goes (X:Cx) (E:XK):Prop where
 stk:X.stack=X.env::X.outer
 fr:X.env.frame=some X.env.locals
 ex:X.ex=[]
 xe:∀e s',Oz (model X.prog X.w) X.A (leaving X.env e) (λ_ s''=>CXe X.prog X.w X.outer X.H₀ X.s₀ E e s'') (λe' s''=>CXe X.prog X.w X.outer X.H₀ X.s₀ E e' s'') s'->X.xe e s'
def xr {P:Oh}{w:Oi}{K:Frag}{mg:Str->Option Oe}{base:Oq}{N:List Str}{qual:Str}{scope:Ol}{f:Of}{cd:Oe}{A:Oj}{s:Og}{H:Hp}{E:XK} :
  Goes (O1 (CXe P w) P w K mg base N qual scope f cd A outer s H E) E:=⟨rfl,rfl,rfl,λ_ _ h=>h⟩
section
variable {X:Cx}{E:XK}{σ:St}{H:Hp}{s:Og}
def zB (G:Goes X E)(I:Inv X OM σ H s){e:Of}{S:List Of}{ps:List Str}{us:List Oe}{vs:List V}(ha:nk s.heap e C dct S)(hS:∀b∈S,X.s₀.heap.objs.size<=b/\H b=none/\b ∉ frs X.stack)
  (hF:BE X.s₀.heap.objs.size dct (Y9 ps us) S H s.heap) (hd:∀dx,dct=some dx->dx ∉ frs X.stack) (r:n5 vs us) (q:E (.ref C) (some e) (upd H e<|.xd<|ps.zip vs)):X.xe (.ref e) s:=by
 refine G.xe _ _ ?_;have hfr:=I.ok.frames;have hl:=I.stack;have hfree:=I.stkFree;rw[G.stk]at hfr hl hfree hd hS;have heS:e∈S:=by rcases ha with ⟨_,rfl⟩ | ⟨T,_,_,_,rfl⟩ <;> simp
 have ha':=ha;refine qj (base:=X.base) hfr hl G.fr ha λh' T z1 z2 z3 z4 z5=>?_
 have out:∀b o,X.s₀.heap.get? b=some o->b ∉ S:=λb o y z=>absurd (IF y)<|LS.2 (hS b z).1
 have nL:∀b o,X.s₀.heap.get? b=some o->b ∉ X.fs->b ∉ frs (X.env::X.outer):=λb o y n z=>by
  unfold frs at z;rw[Me,G.fr]at z;rcases IP.1 z with rfl | z
  .exact absurd (IF y)<|LS.2 I.ok.above
  .exact n z
 have bs:=I.base;rw[G.ex]at bs;refine⟨e,H,C,ps,us,vs,rfl,I.os,I.bare,⟨λb o y n hb _=>z5.keep b o (nL b o y hb) (out b o y)<|bs.keep b o y n hb<|by simp,λb o y n hb _=>?_,λb o y n _=>bs.free b o y n (by simp),λb o y _=>?_,bs.tups,bs.frzs,bs.tbls⟩,fK I.hok z5 hfree λb hb=>(hS b hb).2.1,r,
  ⟨dct,T,z3,z4,z2,(hS e heS).1,IV I.sz z1,(hS e heS).2.1,I.hok.fresh z1,?_⟩,q⟩
 .obtain⟨sl,y1⟩:=bs.slot b o y n hb (by simp);obtain⟨sl2,y2⟩:=z5.slot b _ (out b o y) y1;exact⟨sl2,y2⟩
 .obtain⟨o',y1⟩:=bs.there b o y (by simp);obtain⟨sl,y2⟩:=z5.slot b _ (out b o y) y1;exact⟨_,y2⟩
 .rcases hF with hF | ⟨dx,rfl,n1,n2,n3,n4⟩
  .exact .inl hF
  .have hdl:dx<s.heap.objs.size:=n4.ns.lt;refine .inr ⟨dx,rfl,λz=>?_,n2,n3,n4.at λo y=>z5.keep dx o (hd dx rfl) n1 y⟩;simp only[IP,Kc,LK]at z;rcases z with z | z
   .exact absurd hdl (by rw[z];exact LS.2 z1)
   .exact n1 (by rw[z];exact heS)
def xg (G:Goes X E){ps:List Str}:AV X C ps λvs H=>∀e,H e=none->E (.ref C) (some e) (upd H e<|.xd<|ps.zip vs):=λOM σ H s e h' tk us vs I r M w=>by
 obtain⟨t,dct,ge,z⟩:=M.obj;have I':Inv X OM σ H { s with heap:=h',toks:=tk }:=I.kept M.keeps;have fre:∀b,s.heap.objs.size<=b->b ∉ frs X.stack:=λb hb hm=>by obtain⟨_,o,ho,_⟩:=I.stack.mem hm;exact absurd (IF ho)<|LS.2 hb
 refine zB G I' (C:=C) (dct:=dct) (S:=[e]) (ps:=ps) (us:=us) (vs:=vs) (.inl ⟨⟨_,ge,rfl⟩,rfl⟩) (λb hb=>?_) ?_ (λdx hdx=>?_) r<|w e<|I.hok.fresh M.new
 .rw[Jy.1 hb];exact⟨IV I.sz M.new,I.hok.fresh M.new,fre e M.new⟩
 .rcases z with z | ⟨dx,z1,z2,z3,z4⟩
  .exact .inl z
  .exact .inr ⟨dx,z1,by simpa using z2,IV I.sz z3,I.hok.fresh z3,z4⟩
 .rcases z with z | ⟨dy,z1,z2,z3,z4⟩
  .rw[z.1]at hdx;cases hdx
  .rw[z1]at hdx;cases hdx;exact fre _ z3
end
end
section
open Builtin Builtin.ObjectAttr
structure ECat (K:Frag) (C:Of):Prop where
 ga:findIn K (.ref C) "__getattribute__" = some (some<|.builtin "BaseException.__getattribute__")
 gn:findIn K (.ref C) "__getattr__" = some none
 mb:mroIn K C (.type "BaseException")=some true
 mo:mroIn K C (.type "object")=some true
 ca:findIn K (.ref C) "__class__" = some (some<|.builtin "object.__class__")
 cg:specialIn K (.builtin "object.__class__") "__get__" = some (some<|.builtin "getset_descriptor.__get__")
 ct:takesIn K (.builtin "object.__class__")=some true
section
variable {w:Oi}{A:Oj}{E:Oe->Og->Prop}{K:Frag}{e:Of}{oe:Ou}{od:Option Ou}{s:Og}{tk:Tok}
def mS {r:Found}(c:ECat K C)(X:K.In s.heap)(I:InstAt s.heap e oe C od)(hf:findObj K C od name=some r)(hr:r ≠ .missing)
  (h:∀A',Oz (model prog w) A' (match r with | .value v=>ret v | .bind g a=>bindTo g a (.ref e) (.ref C) | .missing=>ret .none) (λfin s'=>match fin with | .done z=>R (.ok z) s' | _=>False) (λx s'=>R (.error x) s') s) :
  codeAny (model prog w) A (.call (.builtin "BaseException.__getattribute__") ⟨[.ref e,.str name tk],[]⟩) R s:=by
 obtain⟨hp,g,d,t,os⟩:=s;have FB:=ND;have ty:=I.type (M:=model prog w);have L1:=looks_find (M:=model prog w) X I hf;have L2:=looks_mroIn (M:=model prog w) X c.mb;refine Nm FB.ga.plain PySem.F.entry_bexc_ga ?_;have hk:builtinKind "BaseException.__getattribute__" = some .slot:=by decide +kernel
 have hsp:splitId "BaseException.__getattribute__" = some ("BaseException","__getattribute__"):=by decide +kernel
 have ha:=PySem.F.args_bexc_ga (.ref e)<|.str name tk;have inst:Looks (model prog w) hp (isInstance (.ref e)<|.type "BaseException") true:=ty.andThen L2;simp only[checkBuiltinCall,hk,hsp];refine Iw<|inst.at ?_;simp only[KR,Jk,JI];unfold argsOk at ha;generalize Manifest.signature? "BaseException.__getattribute__" = sg at ha ⊢;suffices hgo:Oz (model prog w) A.in1 (Builtin.«object.__getattribute__» { pos:=[Oe.ref e,Oe.str name tk] }) (λfin s'=>match fin with | .done f=>R (.ok f) s' | .again c'=>c'.quiet=true/\codeAny (model prog w) A c' R s') (λe s'=>R (.error e) s') ⟨hp,g,d,t,os⟩ by
  cases sg with
  | none=>exact Iy hgo
  | some sig =>have ha':Bind.checkArgs "BaseException.__getattribute__" sig { pos:=[Oe.ref e,Oe.str name tk] }=pure ():=ha;show Oz _ _ (Bind.checkArgs "BaseException.__getattribute__" sig { pos:=[Oe.ref e,Oe.str name tk] }) _ _ _;rw[ha'];exact Iy hgo
 unfold Builtin.«object.__getattribute__»;refine Iw<|Iy<|Iw<|Iy<|Iw<|ty.at<|Iw<|L1.at ?_;have hz:=h A.in1;cases r with
 | value v =>
  refine Jh hz (λfin s' z=>?_) λ_ _ z=>z
  cases fin <;> first | exact z | exact z.elim
 | bind g a =>
  refine Jh hz (λfin s' z=>?_) λ_ _ z=>z
  cases fin <;> first | exact z | exact z.elim
 | missing=>exact absurd rfl hr
def rk {r:Found}{fill expr:Bool}{Q:Oe->Og->Prop}(c:ECat K C)(X:K.In s.heap)(I:InstAt s.heap e oe C od)(hf:findObj K C od name=some r)(hr:r ≠ .missing)
  (h:∀A',Oz (model prog w) A' (match r with | .value v=>ret v | .bind g a=>bindTo g a (.ref e) (.ref C) | .missing=>ret .none) (λfin s'=>match fin with | .done (.ret z)=>handedIn z=true/\Q z s' | _=>False) (λ_ _=>False) s) :
  Oz (model prog w) A (getAttrBy (.ref e) (.str name tk) fill expr) Q E s:=by
 obtain⟨hp,g,d,t,os⟩:=s;have FB:=ND;have ty:=I.type (M:=model prog w);have L1:=Ms (M:=model prog w) X c.ga;have L2:=Ms (M:=model prog w) X c.gn;have f3:=FB.ga.bind<|.ref e;unfold getAttrBy;refine JL<|Iw<|ty.at<|Iw<|L1.at ?_;show Oz _ _ (getAttrByItsOwn _ _ _ _ _ _) _ _ _;unfold getAttrByItsOwn hookBefore callGetattribute;refine Iw<|L2.at<|Iw<|LB<|JL ?_;rw[II (show ¬((expr&&onTheHeap (Oe.builtin "BaseException.__getattribute__"))=true) by cases expr <;> decide)];unfold boundAndCalled;rw[f3];refine Iw<|Iy<|LF ?_;refine mS (s:=⟨hp,g,d,t,os⟩) c X I hf hr λA'=>Jh (h A') (λfin s' z=>?_) λ_ _ z=>z.elim
 cases fin with
 | again _=>exact z.elim
 | done f =>
  cases f with
  | ret z1 =>show Oz _ _ (handedOut z1) _ _ _;rw[handedOut_of z.1];exact Iy z.2
  | _=>exact z.elim
def pC {v:Oe}{expr:Bool}{Q:Oe->Og->Prop}(c:ECat K C)(X:K.In s.heap)(I:InstAt s.heap e oe C od)(hf:findObj K C od name=some (.value v))(hv:handedIn v=true)(h:∀tk,Q v { s with toks:=tk }) :
  Oz (model prog w) A (getAttr (.ref e) name expr) Q E s:=by unfold getAttr;refine Iw<|wpAny_mkText ?_;exact rk (s:={ s with toks:=s.toks+1 }) c X I hf (by simp) λA'=>Iy ⟨hv,h _⟩
def qh {Q:Option Oe->Og->Prop}(c:ECat K C)(X:K.In s.heap)(I:InstAt s.heap e oe C od)(h:Q (some<|.ref C) { s with toks:=s.toks+1 }) :
  Oz (model prog w) A (getAttr? (.ref e) "__class__") Q E s:=by
 have hcd:(clsIn K C).isSome=true:=by
  have z:=c.mo;unfold mroIn at z;cases q:clsIn K C with
  | none=>rw[q]at z;cases z
  | some cd=>rfl
 have hf:findObj K C od "__class__" = some (.bind (.builtin "getset_descriptor.__get__")<|.builtin "object.__class__"):=by obtain⟨cd,hc⟩:=JS.1 hcd;simp only[findObj,hc,c.ca,c.cg,c.ct,Jd]
 unfold getAttr? getAttrBy?;refine Iw<|wpAny_mkText<|Iw<|LB ?_;refine rk (s:={ s with toks:=s.toks+1 }) c X I hf (by simp) λA'=>?_
 unfold bindTo;refine Iw<|JL<|LF<|class_get (s:={ s with toks:=s.toks+1 }) (ox:=oe) (od:=od) X I c.mo ?_;exact Iy ⟨rfl,Iy h⟩
def ji (c:ECat K C):KitX K (.ref e) (.ref C) (λh=>InstAt h e oe C od) where
 ty:=λ_ _ _ I=>I.type
 it:=λ_ _ X _=>by
  have z:=c.mo;unfold mroIn clsIn at z;split at z
  .rename_i c' d' cd' sl' ho;intro A' Q' E' s' k q;unfold isType loadHead;exact Iw<|wpAny_loadPart (k _ _<|X _ _ ho)<|Iy q
  .cases z
 ne:=λh tp dd its n sl X htp=>by
  have z:=c.mo;unfold mroIn clsIn at z;refine Bool.eq_false_iff.2 λq=>?_
  have e:C=tp:=Oe.ref.inj<|beq_iff_eq.1 q;subst e;split at z
  .rename_i c' d' cd' sl' ho;cases(X _ _ ho).symm.trans htp
  .cases z
 ca:=λX I k=>qh c X I k
end
end
section
structure Has (X:Cx) (e C:Of) (fs:List (Str×V)):Prop where
 ob:∃oe od,(e,oe)∈X.pn/\oe.cls = .ref C/\notCls oe=true /\
  ((oe.dict=none/\od=none/\∀n,fs.lookup n=none)\/∃dx o,oe.dict=some dx/\od=some o/\(dx,o)∈X.pn/\∀n v,fs.lookup n=some v->∃u,u0 v u/\lookIn n o=some (some u))
 cat:ECat X.K C
 hd:hasDictIn X.K C=true
def nM {X:Cx}{σ:St}{H:Hp}{s:Og}(I:Inv X OM σ H s){p:Of×Ou}(h:p∈X.pn):s.heap.get? p.1=some p.2:=(I.pin p<|KB _ h).1
def ub {v:V}{u:Oe}(r:u0 v u):handedIn u=true:=by cases v <;> first | (cases(show u=_ from r);rfl) | (obtain⟨t,z⟩:=r;rw[z];rfl)
section
variable {X:Cx}{e:Of}{fs:List (Str×V)}{σ:St}{H:Hp}{s:Og}
def Has.inst (h:Has X e C fs)(I:Inv X OM σ H s):∃oe od,InstAt s.heap e oe C od/\∀n v,fs.lookup n=some v->findIn X.K (.ref C) n=some none->∃u,u0 v u/\findObj X.K C od n=some (.value u):=by
 obtain⟨oe,od,m1,m2,m3,m4⟩:=h.ob;refine⟨oe,od,⟨nM I m1,m2,m3,?_⟩,λn v z na=>?_⟩
 .rcases m4 with ⟨z1,z2,_⟩ | ⟨dx,o,z1,z2,z3,_⟩
  .rw[z1,z2];trivial
  .rw[z1,z2];exact nM I z3
 .rcases m4 with ⟨_,_,z3⟩ | ⟨dx,o,z1,z2,z3,z4⟩
  .rw[z3]at z;cases z
  .obtain⟨u,ru,lu⟩:=z4 n v z;rw[z2];exact⟨u,ru,findObj_own h.hd na rfl lu⟩
def wC (K:Frag)(e C:Of):List V->Hp->VK->Prop:=λxs H Q=>∃y b,xs=[.ref e,y] /\
 ((∃a,y = .ref a/\kitOne K (.ref C) (.ref a)=some b)\/(∃T,y = .ty T/\kitOne K (.ref C) (.type T)=some b)\/∃(a:Of) (ys:List Of),y = .ref a/\H a=some (.tup<|ys.map V.ref)/\kitAny K (.ref C) (ys.map Oe.ref)=some b)/\Q (.bl b) H
theorem gC:∀{ys:List Of} {us:List Oe},n5 (ys.map V.ref) us->us=ys.map Oe.ref
 | [],_,.nil=>rfl
 | y::ys,_,.cons r t=>by rw[show _=Oe.ref y from r,gC t];rfl
def fJ (h:Has X e C fs):A3 X (.builtin "isinstance") (wC X.K e C):=by
 intro OM s σ H xs vs Q I r hh;obtain⟨y,b,rfl,hy,q⟩:=hh;obtain⟨u,w',rfl,ru,rw'⟩:=sT r;cases(show u=Oe.ref e from ru);obtain⟨oe,od,J,_⟩:=h.inst I;have fin:∀tk,EP X OM σ Q (.bool b) { s with toks:=tk }:=λtk=>⟨.bl b,H,I.tok tk,rfl,q⟩
 rcases hy with ⟨a,rfl,k⟩ | ⟨T,rfl,k⟩ | ⟨a,ys,rfl,ha,k⟩
 .cases(show w'=Oe.ref a from rw');exact kia_one (ji h.cat) I.kIn J k (λz=>nomatch z) fin
 .cases(show w'=Oe.type T from rw');exact kia_one (ji h.cat) I.kIn J k (λz=>nomatch z) fin
 .cases(show w'=Oe.ref a from rw');obtain⟨_,its,rv,o,h1,h2,h3⟩:=(show D1 X.prog X.w H s.heap a (.tup<|ys.map V.ref) from I.hok a _ ha);have ei:=gC rv;subst ei;obtain⟨oc,odd,oda,osl⟩:=o;obtain⟨n,h3⟩:=h3;dsimp only at h2 h3;subst h2 h3;exact kia_tup (ji h.cat) I.kIn J h1 k (λz=>nomatch z) fin
def CZ (K:Frag)(C:Of)(fs:List (Str×V))(e:Of)(i:Nat)(f:Str):TE:=λσ H Q=>σ[i]? = some (some<|.ref e)/\findIn K (.ref C) f=some none/\∃v,fs.lookup f=some v/\Q v H
def zV {i:Nat}{x f:Str}{px:Pos}(h:Has X e C fs)(hN:X.N[i]? = some x)(hv:Vis X.env.scope x)(hb:OC (.Name x px) f X.env (eval (.Name x px) X.env)=eval (.Name x px) X.env:=by rfl)
  (hd:(x == ("__debug__":Str))=false:=by decide) (hcd:(x == ("__classdict__":Str))=false:=by decide):PE X (.Attribute (.Name x px) f pos) (CZ X.K C fs e i f):=by intro OM s σ H Q I hh;obtain⟨h1,na,v,h2,q⟩:=hh;refine vi hb (thn (G5 (pos:=px) hN hv hd hcd OM s σ H (λy H'=>y = .ref e/\H'=H) I ⟨_,h1,rfl,rfl⟩) λu s1 ⟨y,H1,I1,ry,ey,eH⟩=>?_);subst ey eH;cases(show u=Oe.ref e from ry);obtain⟨oe,od,J,hf⟩:=h.inst I1;obtain⟨u',ru,fo⟩:=hf f v h2 na;exact pC h.cat I1.kIn J fo (ub ru) λtk=>⟨v,H1,I1.tok tk,ru,q⟩
end
end
variable {pins':List (Of×Ou)}{wt:Str}{suite:List On}{tsu:Of->Of->List (Str×V)->TS}
section
section
variable {X:Cx}{σ:St}{H:Hp}{s:Og}
def gJ {S:List Of}{h':Oq}(I:Inv X OM σ H s)(t:Turned (frs X.stack) S s.heap h')
  (hS:∀b∈S,H b=none/\(b∈X.ex\/X.s₀.heap.objs.size<=b)/\b≠X.env.locals/\(∀x c,X.env.cells.lookup x=some c->c≠b)/\∀p∈X.pn++OM,p.1≠b):Inv X OM σ H { s with heap:=h' } :=
 I.call' (ch:=S) rfl ⟨λb o z n hb hx=>t.keep b o hb hx z,λb o z n hb hx=>t.slot b o hx z,λ_ _ _ n _=>n,λb o z hx=>(let ⟨sl,q⟩:=t.slot b o hx z;⟨_,q⟩),λ_ _ z=>z,λ_ _ _ z=>z,λb ps z=>⟨#[],by simp[z]⟩⟩
  (fK I.hok t I.stkFree λb hb=>(hS b hb).1) I.bare λb hb=>(hS b hb).2
abbrev cQ (X:Cx)(pn:List (Of×Ou))(xe:Oe->Og->Prop):Cx:={ X with pn:=pn,xe:=xe }
abbrev D3 (X:Cx)(e:Of)(pn:List (Of×Ou))(xe:Oe->Og->Prop):Cx:={ X with A:=X.A.mark<|some<|.ref e,calm:=false,pn:=pn,xe:=xe }
def zj {pn:List (Of×Ou)}{xe:Oe->Og->Prop}(k:X.Ok):(cQ X pn xe).Ok:=⟨k.mod,k.kind,k.glob,k.blt,k.above,k.inj,k.has,k.cab,k.hd,k.frames,k.stk,k.exf,k.bs,k.bsz,k.noex,k.exfs,k.funs,k.frf⟩
def ud {e:Of}{pn:List (Of×Ou)}{xe:Oe->Og->Prop}(k:X.Ok):(D3 X e pn xe).Ok:=⟨k.mod,k.kind,k.glob,k.blt,k.above,k.inj,k.has,k.cab,(λz=>nomatch z),k.frames,k.stk,k.exf,k.bs,k.bsz,k.noex,k.exfs,k.funs,k.frf⟩
def xi {pn:List (Of×Ou)}{xe:Oe->Og->Prop}(I:Inv X OM σ H s)(hp:∀p∈pn++pins',s.heap.get? p.1=some p.2/\H p.1=none/\p.1≠X.env.locals/\p.1 ∉ X.fs/\∀v,p.2.data ≠ .cell v):Inv (cQ X pn xe) pins' σ H s :=
 ⟨zj I.ok,I.os,I.bare,I.base,I.loc,I.cell,I.free,I.freeC,hp,I.hok,I.len⟩
def T9 {pn:List (Of×Ou)}{xe:Oe->Og->Prop}(k:X.Ok)(I:Inv (cQ X pn xe) pins' σ H s)(hp:∀p∈X.pn++OM,p∈pn):Inv X OM σ H s :=
 ⟨k,I.os,I.bare,I.base,I.loc,I.cell,I.free,I.freeC,λp z=>I.pin p<|KB _<|hp p z,I.hok,I.len⟩
def gj {e:Of}{pn:List (Of×Ou)}{xe:Oe->Og->Prop}(I:Inv X OM σ H s)(hp:∀p∈pn++pins',s.heap.get? p.1=some p.2/\H p.1=none/\p.1≠X.env.locals/\p.1 ∉ X.fs/\∀v,p.2.data ≠ .cell v):Inv (D3 X e pn xe) pins' σ H s :=
 ⟨ud I.ok,I.os,I.bare,I.base,I.loc,I.cell,I.free,I.freeC,hp,I.hok,I.len⟩
def kG {e:Of}{pn:List (Of×Ou)}{xe:Oe->Og->Prop}(k:X.Ok)(I:Inv (D3 X e pn xe) pins' σ H s)(hp:∀p∈X.pn++OM,p∈pn):Inv X OM σ H s :=
 ⟨k,I.os,I.bare,I.base,I.loc,I.cell,I.free,I.freeC,λp z=>I.pin p<|KB _<|hp p z,I.hok,I.len⟩
def qt {M:Model}{A:Oj}{E:Oe->Og->Prop}{x:Str}{i:Nat}{Q:Unit->Og->Prop}(I:Inv X OM σ H s)(hN:X.N.Nodup)(hi:X.N[i]? = some x)(hx:X.env.scope.names.lookup x=some .local)
  (h:∀s',Inv X OM (σ.set i none) H s'->Q () s'):Oz M A (do bindName X.env x .none;unbindBehindTheSuite X.env x pos) Q E s:=by
 obtain⟨m,hn,hl⟩:=id I.loc;have hcls:(X.env.scope.kind == .class||(X.env.scope.kind == .module&&X.env.locals != X.env.globals))=false:=by rw[I.ok.kind];rfl
 refine wpAny_nameGoes_keeps hx hn hcls λh' v hn' same=>h _ ?_
 have bel:∀b o,X.s₀.heap.get? b=some o->b≠X.env.locals:=λb o z=>IX<|IQ (IF z) I.ok.above
 obtain⟨oL,_,_,hoL,_⟩:=id hn;refine⟨I.ok,I.os,I.bare,⟨λb o z n hb hx=>(same.2 b<|bel b o z).trans<|I.base.keep b o z n hb hx,λb o z n hb hx=>?_,I.base.free,λb o z hx=>?_,I.base.tups,I.base.frzs,I.base.tbls⟩,
  ⟨_,hn',λj y v' e1 e2 e3=>?_⟩,λy c z=>?_,I.free,I.freeC,λp hp=>?_,λb ob z=>?_,by simpa using I.len⟩
 .obtain⟨sl,q⟩:=I.base.slot b o z n hb hx;exact⟨sl,(same.2 b<|bel b o z).trans q⟩
 .obtain⟨o',q⟩:=I.base.there b o z hx;exact⟨o',(same.2 b<|bel b o z).trans q⟩
 .by_cases hj:j=i
  .subst hj;have hlt:j < σ.length:=by rw[I.len];exact(IH.1 hi).1
   rw[IR hlt]at e2;cases e2
  .rw[IL<|JC hj]at e2;obtain⟨u',r',q⟩:=hl j y v' e1 e2 e3;refine⟨u',r',?_⟩;rcases q with ⟨k,q⟩ | ⟨k,c,q,z⟩
   .have hy:y≠x:=λz=>hj<|fu hN e1<|z▸hi
    exact .inl ⟨k,by simp[hy,q]⟩
   .exact .inr ⟨k,c,q,z.sameBut same<|I.cne y c q⟩
 .obtain⟨w',q⟩:=I.cell y c z;exact⟨w',q.sameBut same<|I.cne y c z⟩
 .obtain⟨q,n,ne,nf,dd⟩:=I.pin p hp;exact⟨(same.2 p.1 ne).trans q,n,ne,nf,dd⟩
 .refine(I.hok b ob z).stay (λc w' hc q=>(same.2 c ?_).trans q) (λ_ q=>q) λ_ _ q=>q
  rintro rfl;rcases hc with rfl | hc
  .rw[I.free]at z;cases z
  .rw[I.free]at hc;cases hc
theorem lZ:∀{ps:List Str} {vs:List V} {us:List Oe} {n:Str} {v:V},n5 vs us->(ps.zip vs).lookup n=some v->∃u,u0 v u/\Y9 ps us n=some u
 | [],_,_,_,_,_,h=>by simp at h
 | _::_,[],_,_,_,_,h=>by simp at h
 | p::ps,w::vs,_,n,v,.cons r t,h=>by
  rw[LG,Jp]at h;by_cases hn:n=p
  .subst hn;rw[show(n == n)=true from NR n]at h;cases h;exact⟨_,r,by simp[Y9]⟩
  .rw[show(n == p)=false from KD.2 hn]at h;obtain⟨u,ru,lu⟩:=lZ (ps:=ps) t h;exact⟨u,ru,by rw[Y9,II hn];exact lu⟩
variable {x:Str}{i:Nat}{b₀:On}{pw hpos:Pos}{ok:Of->Prop}
def yH {E:XK}{D:Ends}{ev:Oe}{s':Og}(hstk:X.stack=X.env::X.outer)(hfr:X.env.frame=some X.env.locals)(hN:X.N.Nodup)(hi:X.N[i]? = some x)(hx:X.env.scope.names.lookup x=some .local)
  (hg:Gl X wt) (hW:X.mg wt=some (.ref Wt)) (hwd:(wt == ("__debug__":Str))=false) (hok:∀C,ok C->ECat X.K C/\hasDictIn X.K C=true/\exmOne X.K (.ref C) (.ref Wt)=some true)
  (hsuite:∀e C fs pn xe,ok C->Has (D3 X e pn xe) e C fs->PSs (D3 X e pn xe) (b₀::suite) (tsu e C fs))
  (hE:∀C e fs H',E (.ref C) (some e) (upd H' e<|.xd fs)->H' e=none->ok C/\tsu e C fs { nx:=λO' H'=>D.nx (O'.set i none) H',rt:=λ_ _=>False } (σ.set i<|some<|.ref e) H')
  (I:Inv X OM σ H s) (z:CXe X.prog X.w X.stack H s E ev s') :
  Oz (model X.prog X.w) X.A (noteFrame ev X.env) (λ_ s2=>Oz (model X.prog X.w) X.A (setFlight ev none) (λ_ s3=>Oz (model X.prog X.w) X.A (handleBy ev X.env [.ExceptHandler (some<|.Name wt pw) (some x) (b₀::suite) hpos]) (SP X OM D) X.xe s3) X.xe s2) X.xe s':=by
 obtain⟨e,H',C,ps,us,vs,rfl,os,bare,un,hok',r,⟨dct,T,y1,y2,y3,y4,y5,y6,y7,y8⟩,q⟩:=z;have I':Inv X OM σ H' s':=I.call' (ch:=[]) os un hok' bare λb hb=>absurd hb (by simp)
 obtain⟨okC,ts⟩:=hE C e _ H' q y6;obtain⟨cat,hdC,hm⟩:=hok C okC;have hl:=I'.stack;have hfs:=I'.ok.frames;rw[hstk]at hl hfs;have apart:∀b,s.heap.objs.size<=b->(b∈X.ex\/X.s₀.heap.objs.size<=b)/\b≠X.env.locals/\(∀x c,X.env.cells.lookup x=some c->c≠b)/\∀p∈X.pn++OM,p.1≠b:=λb hb =>
  ⟨.inr<|IV I.sz hb,Jt<|IQ I.lt hb,λy c hc=>by obtain⟨v,o,ho,_⟩:=I.cell y c hc;exact IX<|IQ (IF ho) hb,λp hp=>IX<|IQ (IF (I.pin p hp).1) hb⟩
 have big:s.heap.objs.size<=s'.heap.objs.size:=IV y4 (Ka (by obtain⟨_,g,_⟩:=y1;exact IF g));refine gq (base:=X.base) hfs hl hfr y1 y2 y3 λh1 T1 z1 z2 z3 z4=>?_
 rw[<-hstk]at z4;have hT1:T1≠e:=Jt (IQ (by obtain⟨_,g,_⟩:=y1;exact IF g) z1);have I1:Inv X OM σ H' { s' with heap:=h1 }:=gJ I' z4 λb hb=>by
  simp only[IP,Kc,LK]at hb;rcases hb with rfl | rfl
  .exact⟨y7,apart _ y5⟩
  .exact⟨y6,apart _ y4⟩
 have nT1:H' T1=none:=I'.hok.fresh z1;have side:∀{ha hb:Oq},Inv X OM σ H' { s' with heap:=ha }->Turned [] [T1] ha hb->Inv X OM σ H' { s' with heap:=hb }:=λ{ha hb} Ia tu=>gJ (s:={ s' with heap:=ha }) Ia ⟨λb o _ n2 zz=>tu.keep b o (by simp) n2 zz,tu.slot,tu.size⟩ λb hb=>by rw[Jy.1 hb];exact⟨nT1,apart _<|IV big z1⟩
 refine V8 (s:={ s' with heap:=h1 }) z2 z3 hT1 λh2 w1 w2 w3=>?_
 have I2:=side I1 w3;refine wpAny_handleBy_cons (codeAny_handlers_test ?_) (by intro q;cases q);have J2:Inv (D3 X e [] λ_ _=>False) [] σ H' { s' with heap:=h2 }:=gj I2 (by simp);refine bo J2 hg hW ?_ hwd;have LT:Looks (model X.prog X.w) h2 (typeOf<|.ref e) (.ref C):=by obtain⟨_,g,_⟩:=w1;exact(MY g).andThen .now
 refine(exm_one (M:=model X.prog X.w) (h:=h2) I2.kIn LT hm).at ?_;refine codeAny_handlers_suite_as (V8 (s:={ s' with heap:=h2 }) w1 w2 hT1 λh3 v1 v2 v3=>?_);have I3:=side I2 v3;obtain⟨fv,ge,g1⟩:=v1;have pinned:∀p∈X.pn++OM,h3.get? p.1=some p.2/\H' p.1=none/\p.1≠X.env.locals/\p.1 ∉ X.fs/\∀v,p.2.data ≠ .cell v:=I3.pin;have pinE:h3.get? e=some { cls:=.ref C,dict:=dct,data:=.fields fv }/\H' e=none/\e≠X.env.locals/\e ∉ X.fs/\∀v,(Data.fields fv) ≠ .cell v:=⟨ge,y6,(apart e y4).2.1,I.nofs y4,λ_ z=>nomatch z⟩;have go:∀pn,(∀p∈X.pn++OM,p∈pn)->(∀p∈pn++[],h3.get? p.1=some p.2/\H' p.1=none/\p.1≠X.env.locals/\p.1 ∉ X.fs/\∀v,p.2.data ≠ .cell v)->Has (D3 X e pn λ_ _=>False) e C (ps.zip vs) ->
   Oz (model X.prog X.w) (X.A.mark<|some<|.ref e) (storeName X.env x<|.ref e) (λ_ s₂=>Oz (model X.prog X.w) (X.A.mark<|some<|.ref e) (execs (b₀::suite) X.env) (λf s₃=>Oz (model X.prog X.w) X.A (do bindName X.env x .none;unbindBehindTheSuite X.env x hpos) (λ_ s₄=>SP X OM D f s₄) X.xe s₃) (λ_ _=>False) s₂) (λ_ _=>False) { s' with heap:=h3 }:=λpn hpn hpp has=>by
  have I4:Inv (D3 X e pn λ_ _=>False) [] σ H' { s' with heap:=h3 }:=gj I3 hpp;refine Q1 (X:=D3 X e pn λ_ _=>False) (v:=.ref e) I4 hN hi (.inl hx) rfl (λs4 I5=>?_)<|.inr hx;refine Jh (hsuite e C _ pn (λ_ _=>False) okC has [] s4 _ H' _ I5 ts) (λf s5 h5=>?_) λ_ _ z=>z
  cases f with
  | next =>obtain⟨O',H2,I6,q2⟩:=h5;exact qt (X:=X) (kG I'.ok I6 hpn) hN hi hx λs6 I7=>⟨_,H2,I7,q2⟩
  | ret v=>obtain⟨_,_,_,_,_,h5⟩:=h5;exact h5.elim
  | brk=>obtain⟨_,_,_,h5⟩:=h5;exact h5.elim
  | cont=>obtain⟨_,_,_,h5⟩:=h5;exact h5.elim
 suffices hs:∃pn,(∀p∈X.pn++OM,p∈pn)/\(∀p∈pn++[],h3.get? p.1=some p.2/\H' p.1=none/\p.1≠X.env.locals/\p.1 ∉ X.fs/\∀v,p.2.data ≠ .cell v)/\Has (D3 X e pn λ_ _=>False) e C (ps.zip vs) by obtain⟨pn,a,b,c⟩:=hs;exact Jh (go pn a b c) (λ_ _ z=>Jh z (λ_ _ z=>z) λ_ _ z=>z.elim) λ_ _ z=>z.elim
 rcases y8 with ⟨rfl,y8⟩ | ⟨dx,rfl,n1,n2,n3,n4⟩
 .refine⟨(e,{ cls:=.ref C,dict:=none,data:=.fields fv })::(X.pn++OM),(λp hp=>IA _ hp),(λp hp=>?_),⟨⟨_,none,IG,rfl,rfl,.inl ⟨rfl,rfl,λn=>?_⟩⟩,cat,hdC⟩⟩
  .rw[Kb]at hp;rcases IP.1 hp with rfl | hp
   .exact pinE
   .exact pinned p hp
  .cases q3:(ps.zip vs).lookup n with
   | none=>rfl
   | some v =>
    obtain⟨u,_,z⟩:=lZ r q3
    rw[y8]at z;cases z
 .obtain⟨od,god,lod⟩:=gQ n4;have hdl:dx<s'.heap.objs.size:=n4.ns.lt;have nT:dx≠T1:=IX<|IQ hdl z1;have nfr:dx ∉ frs X.stack:=λhm=>by obtain⟨_,o,ho,_⟩:=I.stack.mem hm;exact absurd (IF ho)<|LS.2 n2
  have g3:h3.get? dx=some od:=v3.keep dx od (by simp) (by simpa using nT) (w3.keep dx od (by simp) (by simpa using nT)<|z4.keep dx od nfr n1 god);have dod:∀v,od.data ≠ .cell v:=λv z=>by obtain⟨o',es,ep,g',d',_⟩:=n4;rw[god]at g';cases g';rw[d']at z;cases z
  refine⟨(e,{ cls:=.ref C,dict:=some dx,data:=.fields fv })::(dx,od)::(X.pn++OM),(λp hp=>IA _<|IA _ hp),(λp hp=>?_),⟨⟨_,some od,IG,rfl,rfl,.inr ⟨dx,od,rfl,rfl,IA _ IG,λn v z=>?_⟩⟩,cat,hdC⟩⟩
  .rw[Kb]at hp;rcases IP.1 hp with rfl | hp
   .exact pinE
   .rcases IP.1 hp with rfl | hp
    .exact⟨g3,n3,(apart dx n2).2.1,I.nofs n2,dod⟩
    .exact pinned p hp
  .obtain⟨u,ru,zu⟩:=lZ r z;exact⟨u,ru,by rw[lod,zu]⟩
end
end
section
def pU (nm:Str)(fs:List My):My:=.dict [(.str nm,.tuple fs)]
def ay:My->Option (Str×List My)
 | .dict [(.str nm,.tuple fs)]=>some (nm,fs)
 | _=>none
def ml {d:My}{nm:Str}{fs:List My}(h:ay d=some (nm,fs)):d=pU nm fs:=by
 unfold ay at h;split at h
 .cases h;rfl
 .cases h
def vY {nm:Str}{fs:List My}:ay (pU nm fs)=some (nm,fs):=rfl
def psT (nm:Str):List Str:=if nm = "NoPaper" then["word","number"] else if nm = "NoRest" then["word"] else if nm = "TooMany" then["word"] else if nm = "NoHouse" then["word"] else if nm = "NoComer" then["number"] else[]
def WE (mg:Str->Option Oe)(E:XK):Str->List V->Hp->Prop:=λnm vs H=>∀C,mg nm=some (.ref C)->∀e,H e=none->E (.ref C) (some e) (upd H e<|.xd<|(psT nm).zip vs)
section
variable [Feeds]
def rh (K:Frag)(W:Str->List V->Hp->Prop)(G:GF)(B0:List Of)(H0:Hp)(F:FS)(D:Ends):Out->Prop
 | .rt d=>ny K G B0 H0 F D (.rt d)/\∀nm fs,ay d=some (nm,fs)->∀vs H,Kp (m7 K G) H0 H->FAt K G H F->c5 K (hid H B0) fs vs->W nm vs H
 | o=>ny K G B0 H0 F D o
def zX (K:Frag)(W:Str->List V->Hp->Prop)(ts:TS)(m:DE->M Out):Prop:=∀(G:GF) (B0:List Of) (H0:Hp) (E:DE) (F:FS) (σ:St) (H:Hp) (D:Ends) (r:Out) (F':FS),Sit K G B0 H0 E F σ H->m E F=some (r,F')->rh K W G B0 H0 F' D r->ts D σ H
structure SsX (K:Frag) (W:Str->List V->Hp->Prop) (X:Cx) (st:On) (ts:TS) (m:DE->M Out):Prop where
 ps:PS X st ts
 ok:zX K W ts m
structure SssX (K:Frag) (W:Str->List V->Hp->Prop) (X:Cx) (sts:List On) (ts:TS) (m:DE->M Out):Prop where
 ps:PSs X sts ts
 ok:zX K W ts m
variable {K:Frag}{W:Str->List V->Hp->Prop}{X:Cx}{st:On}{sts rest:List On}{t u:TS}{mt mu:DE->M Out}{p:Pos}{c a:Oo}
def uw {G:GF}{B0:List Of}{H0:Hp}{F:FS}{D:Ends}{o:Out}(h:rh K W G B0 H0 F D o):ny K G B0 H0 F D o:=by cases o <;> first | exact h | exact h.1
def se (h:TSd K t mt):zX K W t mt:=λG B0 H0 E F σ H D r F' S e q=>h G B0 H0 E F σ H D r F' S e<|uw q
def PS.nox {st:On}{t:TS}(h:PS X.nox st t):PS X st t:=λOM s σ H D I hw=>by
 refine Jh (h OM s σ H D (I.wish _) hw) (λf s' z=>?_) λ_ _ z=>z.elim
 cases f with
 | next=>obtain⟨O',H',I',q⟩:=z;exact⟨O',H',Inv.unwish I',q⟩
 | brk=>obtain⟨O',H',I',q⟩:=z;exact⟨O',H',Inv.unwish I',q⟩
 | cont=>obtain⟨O',H',I',q⟩:=z;exact⟨O',H',Inv.unwish I',q⟩
 | ret v=>obtain⟨x,H',O',I',r,q⟩:=z;exact⟨x,H',O',Inv.unwish I',r,q⟩
def xH (h:Ss K X.nox st t mt):SsX K W X st t mt:=⟨PS.nox h.ps,se h.ok⟩
def tH (h:Sss K X.nox sts t mt):SssX K W X sts t mt:=⟨h.ps.nox,se h.ok⟩
def fh (h1:SsX K W X st t mt)(h2:SssX K W X rest u mu):SssX K W X (st::rest) (tZ t u) (mSq mt mu):=⟨B1 h1.ps h2.ps,λG B0 H0 E F σ H D r F' S e q=>by
 obtain⟨⟨o,F1⟩,e1,e⟩:=bS9 e;refine h1.ok G B0 H0 E F σ H _ o F1 S e1 ?_;cases o with
 | nx E1=>exact λO' H' S'=>h2.ok G B0 H0 E1 F1 O' H' D r F' S' e q
 | rt d=>cases e;exact q
 | bk E1=>cases e;exact q
 | ct E1=>cases e;exact q⟩
def wN (h1:SsX K W X st t mt):SssX K W X [st] t mt:=⟨O6 h1.ps,h1.ok⟩
def BX {x y:List On}{tt:TT}{mc:DE->M Bool}(hc:Et K X.nox c tt mc)(ha:SssX K W X x t mt)(hb:SssX K W X y u mu):SsX K W X (.If c x y pos) (uW tt t u) (mIf mc mt mu):=⟨jQ hc.pt.nox ha.ps hb.ps,λG B0 H0 E F σ H D r F' S e q=>by
 obtain⟨⟨b,F1⟩,e1,e⟩:=bS9 e;obtain⟨B,s,sn,I⟩:=S.ex;refine hc.ok G B E F σ H _ b F1 I e1 λH1 k1 f1=>?_
 cases b with
 | true=>exact ha.ok G B0 H0 E F1 σ H1 D r F' (S.step k1 f1) e q
 | false=>exact hb.ok G B0 H0 E F1 σ H1 D r F' (S.step k1 f1) e q⟩
def iO (nm:Str)(ms:DE->M (List My)):DE->M Out:=λE F=>(ms E F).bind λp=>if p.1.length=(psT nm).length then some (.rt<|pU nm p.1,p.2) else none
def PA.nox {t:TA}(h:PA X.nox es t):PA X es t:=λcp OM s σ H Q I hw=>by
 refine Jh (h cp OM s σ H Q (I.wish _) hw) (λvs s' z=>?_) λ_ _ z=>z.elim
 obtain⟨xs,H',I',r,q⟩:=z;exact⟨xs,H',Inv.unwish I',r,q⟩
def qZ (nm:Str){E:XK}{f:Of}{cp:Pos}{ta:TA}{ms:DE->M (List My)}(G:Goes X E)(cl:ECls X.K Wt C f)(ini:EIni X.K C f (psT nm))(hr:Room 2 X.A)(hm:X.mg nm=some (.ref C))(ha:Ea K X.nox (a::es) ta ms)(hg:Gl X nm:=by rfl)
  (hdb:(nm == ("__debug__":Str))=false:=by decide) (he:Ot (a::es) X.env=(false,eval a X.env)::Ot es X.env:=by rfl) (hpl:(Ox cp<|Ot es X.env).any (·.1)=false:=by rfl) :
  SsX K (WE X.mg E) X (.Raise (some<|.Call (.Name nm p) (a::es) [] cp) none pos) (uf (λvs H=>∀e,H e=none->E (.ref C) (some e) (upd H e<|.xd<|(psT nm).zip vs)) (psT nm) ta) (iO nm ms) :=
 ⟨rR cl ini hr hg hm (xg G) (PA.nox ha.pa) hdb he hpl,λG B0 H0 E F σ H D r F' S e q=>by
  obtain⟨⟨ds,F1⟩,e1,e⟩:=bS9 e;obtain⟨B,s,sn,I⟩:=S.ex;split at e
  .rename_i hl;cases e;refine ha.ok G B E F σ H _ ds F1 I e1 λvs H1 k1 f1 h1=>⟨?_,?_⟩
   .rw[h1.length];exact hl
   .exact q.2 nm ds vY vs H1 (S.kp.trans k1) f1 (h1.same<|R6 s) C hm
  .cases e⟩
end
end
section
section
variable [Feeds]
def spX (K:Frag)(mg:Str->Option Oe)(n:Nat)(f:List DV->M My):Sp:=λvs H Q E=>∃G B F args d F',vs.length=n/\(∀b∈m7 K G,b∈B)/\BOk H B/\FAt K G H F/\iR K G B H args vs/\f args F=some (d,F') /\
 (∀v H',Kp (m7 K G) H H'->FAt K G H' F'->c6 K (hid H' B) d v->Q v H') /\
 ∀nm fs,ay d=some (nm,fs)->∀vs H',Kp (m7 K G) H H'->FAt K G H' F'->c5 K (hid H' B) fs vs->WE mg E nm vs H'
def CalleeX (P:Oh)(w:Oi)(K:Frag)(mg:Str->Option Oe)(base:Oq)(x:Str)(k:Nat)(ps:List Str)(sp:Sp):Prop :=
 ∃f fd,FnOk P w K mg base (CXe P w) k f fd ps sp/\mg x=some (.ref f)/\keepIn K (.ref f)=true/\bG K fd ps []
variable {K:Frag}{X:Cx}{st:On}{P:Oh}{w:Oi}{mg:Str->Option Oe}{base:Oq}
def uO {x qual:Str}{f:Of}{fd:Om}{N ps:List Str}{k:Nat}{m:DE->M Out}(Fn:Fun K x qual st f fd)(S:FnScope N ps (defScope st))
  (hbody:∀(OP:Oe) (A:Oj) (outer:List Ov) (s:Og) (H:Hp) (E:XK),Room k (A.deeper<|envOfC qual (defScope st) s.heap.objs.size f OP) ->
   ∃ts,SssX K (WE mg E) (O1 (CXe P w) P w K mg base N qual (defScope st) f OP A outer s H E) (defBody st) ts m):FnOk P w K mg base (CXe P w) (k+1) f fd ps (spX K mg ps.length<|F0 N m):=by
 obtain⟨oc,od,kV,doc,pm,an,OP,ct,osl,rfl,lk,hcd⟩:=Fn.ex;refine xD lk hcd S (λvs H Q E h=>?_) λA outer s H vs Q E hr h=>?_
 .obtain⟨G,B,F,args,d,F',hl,_⟩:=h;exact hl
 .obtain⟨G,B,F,args,d,F',hl,fB,bk,fa,ha,hm,q,qe⟩:=h;obtain⟨ts,hts⟩:=hbody OP A outer s H E hr;refine⟨ts,hts.ps,?_⟩;obtain⟨⟨o,F1⟩,e1,e⟩:=bS9 hm;refine hts.ok G B H (A1 N args) F (L2.S5 N vs) H _ o F1 (gL fB bk fa ha) e1 ?_;cases o with
  | rt d'=>cases e;exact⟨λv H' k1 f1 h1=>q v H' k1 f1 h1,λnm fs ee vs H' k1 f1 h1=>qe nm fs ee vs H' k1 f1 h1⟩
  | nx E'=>cases e;exact λO' H' S'=>q _ H' S'.kp (by obtain⟨B,_,_,I⟩:=S'.ex;exact I.fd) c6.non
  | bk E'=>cases e
  | ct E'=>cases e
variable {x:Str}{k n:Nat}{ps:List Str}{p:Pos}{e:Oo}{tl:TA}{f:List DV->M My}{ms:DE->M (List DV)}
def tAt (σ0:St)(t:TE):TE:=λσ H Q=>σ = σ0/\t σ H Q
def rE {sp:Sp}{E:XK}{σ0:St}(C:CalleeX X.prog X.w X.K X.mg X.base x k ps sp)(hr:Room k X.A)(hg:Gl X x)(hx:∀OM H s ev s',Inv X OM σ0 H s->CXe X.prog X.w X.stack H s E ev s'->X.xe ev s')(ha:PA X (e::es) tl)
  (hdb:(x == ("__debug__":Str))=false) (he:Ot (e::es) X.env=(false,eval e X.env)::Ot es X.env) (hpl:(Ox pos<|Ot es X.env).any (·.1)=false) :
  PE X (.Call (.Name x p) (e::es) [] pos) (tAt σ0<|bJ sp [] E tl):=by
 obtain⟨f,fd,G,m,kp,b⟩:=C;intro OM s σ H Q I ⟨hσ,h⟩;subst hσ;refine Ld<|bo I hg m ?_ hdb;refine callWith_K (h₀:=X.base) I.ok.mod.kin kp (thn (ha pos OM s σ H _ I h) λus s1 ⟨vs,H1,I1,r,q⟩=>⟨I1.kIn,?_⟩) he hpl;have r2:n5 (vs++[]) (us++[]):=r.append .nil;have hl:(us++[]).length=ps.length:=by rw[<-r2.length];exact G.len _ _ _ _ q
 refine LF (Nd (G.run X.A X.stack s1 H1 ⟨us,[]⟩ _ _ Q E hr I1.env0 (b s1 us I1.kIn hl) r2 q) λrr s' hq=>?_);cases rr with
 | error ev=>exact hx OM H1 s1 ev s' I1 hq
 | ok fl =>
  cases fl with
  | ret u=>exact I1.after hq
  | _=>exact hq.elim
def qv {K:Frag}{H:Hp}{d:My}{v:V}{z:Str×List My}(h:c6 K H d v)(e:ay d=some z):False:=by obtain⟨nm,fs⟩:=z;rw[ml e]at h;simp only[pU,c6]at h
end
end
section
section
variable {X:Cx}{x:Str}{i:Nat}{body:List On}{b₀:On}{pw hpos:Pos}{ok:Of->Prop}{tb:XK->St->TS}
def wU (i:Nat)(ok:Of->Prop)(tsu:Of->Of->List (Str×V)->TS)(D:Ends)(σ:St):XK:=λCv eo H2=>∃C e fs H',Cv = .ref C/\eo=some e/\H2=upd H' e (.xd fs)/\H' e=none/\ok C /\
 tsu e C fs { nx:=λO' H'=>D.nx (O'.set i none) H',rt:=λ_ _=>False } (σ.set i<|some<|.ref e) H'
def vS {D:Ends}{σ:St}{e:Of}{fs:List (Str×V)}{H':Hp}(h:wU i ok tsu D σ (.ref C) (some e) (upd H' e<|.xd fs))(he:H' e=none):ok C/\tsu e C fs { nx:=λO' H'=>D.nx (O'.set i none) H',rt:=λ_ _=>False } (σ.set i<|some<|.ref e) H':=by
 obtain⟨C',e',fs',H1,e1,e2,e3,e4,e5,e6⟩:=h;cases e1;cases e2;have ef:fs=fs':=by have z:=congrFun e3 e;rw[i7,i7]at z;cases z;rfl
 have eh:H'=H1:=funext λb=>by
  by_cases hb:b=e
  .rw[hb,he,e4]
  .have z:=congrFun e3 b;rwa [h8 hb,h8 hb]at z
 subst ef eh;exact⟨e5,e6⟩
def Ad (hstk:X.stack=X.env::X.outer)(hfr:X.env.frame=some X.env.locals)(hN:X.N.Nodup)(hi:X.N[i]? = some x)(hx:X.env.scope.names.lookup x=some .local)
  (hg:Gl X wt) (hW:X.mg wt=some (.ref Wt)) (hwd:(wt == ("__debug__":Str))=false) (hok:∀C,ok C->ECat X.K C/\hasDictIn X.K C=true/\exmOne X.K (.ref C) (.ref Wt)=some true)
  (hsuite:∀e C fs pn xe,ok C->Has (D3 X e pn xe) e C fs->PSs (D3 X e pn xe) (b₀::suite) (tsu e C fs))
  (hbody:∀(E:XK) (σ0:St) pn xe,(∀pins' H s ev s',Inv (cQ X pn xe) pins' σ0 H s->CXe X.prog X.w X.stack H s E ev s'->xe ev s')->PSs (cQ X pn xe) body (tb E σ0)) :
  PS X (.Try body [.ExceptHandler (some<|.Name wt pw) (some x) (b₀::suite) hpos] [] [] pos) (λD σ H=>tb (wU i ok tsu D σ) σ D σ H):=by
 intro OM s σ H D I h;refine wpAny_Try_except ?_;refine Jh (hbody (wU i ok tsu D σ) σ (X.pn++OM) _ (λpins' H1 s1 ev s' J z=>yH hstk hfr hN hi hx hg hW hwd hok hsuite (λC e fs H'=>vS) (T9 I.ok J λp hp=>hp) z) [] s σ H D (xi I<|by simpa using I.pin) h) (λf s1 z=>?_) (λ_ _ z=>z);cases f with
 | next=>obtain⟨O',H',J,q⟩:=z;exact Li ⟨O',H',T9 I.ok J λp hp=>hp,q⟩
 | brk=>obtain⟨O',H',J,q⟩:=z;exact⟨O',H',T9 I.ok J λp hp=>hp,q⟩
 | cont=>obtain⟨O',H',J,q⟩:=z;exact⟨O',H',T9 I.ok J λp hp=>hp,q⟩
 | ret v=>obtain⟨y,H',O',J,r,q⟩:=z;exact⟨y,H',O',T9 I.ok J λp hp=>hp,r,q⟩
end
end
variable {fi:Nat}
section
section
variable [Feeds]{K:Frag}{G:GF}{B B0:List Of}{H0:Hp}{E:DE}{F:FS}{σ:St}{H:Hp}{i:Nat}
def SitE.hole (I:SitE K G B E F σ H)(h:E[i]? = some none)(v:Option V):SitE K G B E F (σ.set i v) H :=
 ⟨I.fd,I.fB,I.bk,by rw[JH];exact I.ln,λj x e=>by
  have hj:i≠j:=λz=>by rw[<-z,h]at e;cases e
  rw[IL hj];exact I.loc j x e⟩
def Sit.hole (S:Sit K G B0 H0 E F σ H)(h:E[i]? = some none)(v:Option V):Sit K G B0 H0 E F (σ.set i v) H:=by
 obtain⟨B,s,sn,I⟩:=S.ex;refine⟨⟨B,s,sn,I.hole h v⟩,S.fB,S.kp,λj ds a e z=>?_,λj k ds es a e1 e2 z1 z2=>?_,S.dic.of λj w c ps ej=>⟨rfl,by rw[IL λy=>by rw[<-y,h]at ej;cases ej]⟩⟩
 .have hj:i≠j:=λy=>by rw[<-y,h]at e;cases e
  rw[IL hj]at z;exact S.own j ds a e z
 .have hj:i≠j:=λy=>by rw[<-y,h]at e1;cases e1
  have hk:i≠k:=λy=>by rw[<-y,h]at e2;cases e2
  rw[IL hj]at z1;rw[IL hk]at z2;exact S.inj j k ds es a e1 e2 z1 z2
def SuD (K:Frag)(mg:Str->Option Oe)(ok:Of->Prop)(i:Nat)(tsu:Of->Of->List (Str×V)->TS)(hd:Str->List My->DE->Option DE):Prop :=
 ∀(G:GF) (B B0:List Of) (H0:Hp) (E:DE) (F:FS) (σ:St) (H:Hp) (D:Ends) (nm:Str) (C:Of) (fs:List My) (vs:List V) (E1:DE) (e:Of),Sit K G B0 H0 E F σ H->(∀b∈B0,b∈B)->(∀b∈B,b∈B0\/H0 b=none)->SitE K G B E F σ H ->
  mg nm=some (.ref C)->c5 K (hid H B) fs vs->hd nm fs E=some E1->H e=none->(∀σ1 H1,Sit K G B0 H0 E1 F σ1 H1->D.nx σ1 H1) ->
  ok C/\tsu e C ((psT nm).zip vs) { nx:=λO' H'=>D.nx (O'.set i none) H',rt:=λ_ _=>False } (σ.set i<|some<|.ref e) H
noncomputable def uN (fi:Nat)(told:Str)(g:List DV->M My)(ms:DE->M (List DV))(hd:Str->List My->DE->Option DE):DE->M Out:=λE F=>(ms E F).bind λp=>(g p.1 p.2).bind λq=>match ay q.1 with
 | some z=>(hd z.1 z.2 E).bind λE1=>some (.nx E1,q.2)
 | none=>(bN fi (.tuple [.str told,q.1]) E).bind λE1=>some (.nx E1,q.2)
variable {X:Cx}{x y gn told:Str}{b₀:On}{pw hpos p1 p2 p3 p4 p5 p6:Pos}{ok:Of->Prop}{k n j1:Nat}{k0}{ps:List Str}{a:Oo}{tl:TA}{g:List DV->M My}{ms:DE->M (List DV)}{hd:Str->List My->DE->Option DE}
def yU (fi i:Nat)(C:CalleeX X.prog X.w X.K X.mg X.base gn k ps (spX K X.mg n g))(hr:Room k X.A)(ha:∀pn xe,Evs K (cQ X pn xe) (a::es) tl ms)(hn:∀E F args F',ms E F=some (args,F')->args.length=n)
  (hsd:SuD K X.mg ok i tsu hd) (hsuite:∀e C fs pn xe,ok C->Has (D3 X e pn xe) e C fs->PSs (D3 X e pn xe) (b₀::suite) (tsu e C fs))
  (hok:∀C,ok C->ECat X.K C/\hasDictIn X.K C=true/\exmOne X.K (.ref C) (.ref Wt)=some true) (hW:X.mg wt=some (.ref Wt)) (hN:X.N.Nodup)
  (hstk:X.stack=X.env::X.outer:=by rfl) (hfr:X.env.frame=some X.env.locals:=by rfl) (hi:X.N[i]? = some x:=by rfl) (hx:X.env.scope.names.lookup x=some .local:=by rfl) (hfi:X.N[fi]? = some y:=by rfl) (hy:X.env.scope.names.lookup y=some .local:=by rfl)
  (hg:Gl X wt:=by rfl) (hwd:(wt == ("__debug__":Str))=false:=by decide) (hgg:Gl X gn:=by rfl) (hgd:(gn == ("__debug__":Str))=false:=by decide)
  (he:Ot (a::es) X.env=(false,eval a X.env)::Ot es X.env:=by rfl) (hpl:(Ox p3<|Ot es X.env).any (·.1)=false:=by rfl)
  (hs:OB (.Tuple [.Constant (.str told) j1 p1,.Call (.Name gn p2) (a::es) [] p3] k0 p4) (some<|.Name y p6) p5.line X.env=pure false:=by rfl) :
  Ss K X (.Try [.Assign [.Name y p6] (.Tuple [.Constant (.str told) j1 p1,.Call (.Name gn p2) (a::es) [] p3] k0 p4) p5] [.ExceptHandler (some<|.Name wt pw) (some x) (b₀::suite) hpos] [] [] pos)
   (λD σ H=>aU (mK<|z8 (tC<|.str told)<|z8 (tAt σ<|bJ (spX K X.mg n g) [] (wU i ok tsu D σ) tl) P1) (Q5 fi) D σ H) (uN fi told g ms hd):=by
 refine⟨Ad (tb:=λE0 σ0=>aU (mK<|z8 (tC<|.str told)<|z8 (tAt σ0<|bJ (spX K X.mg n g) [] E0 tl) P1)<|Q5 fi) hstk hfr hN hi hx hg hW hwd hok hsuite λE0 σ0 pn xe hxe=>?_,λG B0 H0 E F σ H D r F' S e q=>?_⟩
 .exact O6<|N9 (X:=cQ X pn xe) hN hfi (.inl hy) (eD<|l8 mD<|l8 (rE (X:=cQ X pn xe) C hr hgg hxe (ha pn xe).pa hgd he hpl) A8) hs<|.inr hy
 .obtain⟨⟨args,F1⟩,e1,e⟩:=bS9 e;obtain⟨⟨d,F2⟩,e2,e⟩:=bS9 e;obtain⟨B,s,sn,I⟩:=S.ex;dsimp only at e;refine⟨rfl,(ha [] λ_ _=>False).ok G B E F σ H _ args F1 I e1 λvs H1 k1 f1 h1=>?_⟩;have S1:=S.step k1 f1;have I1:=I.step k1 f1;rw[Kb];refine⟨G,B,F1,args,d,F2,by rw[h1.length];exact hn _ _ _ _ e1,I.fB,A6 I.bk k1 f1,f1,h1,e2,λv H2 k2 f2 h2=>?_,λnm fs er vs2 H2 k2 f2 h2=>?_⟩
  .have S2:=S1.step k2 f2;have I2:=I1.step k2 f2;cases er:ay d with
   | some z=>exact(qv h2 er).elim
   | none =>rw[er]at e;obtain⟨E1,e3,e⟩:=bS9 e;cases e;refine⟨by rw[Jr];simp,λp hp=>?_⟩;have kp:Kp (m7 K G) H2 (upd H2 p<|.tup [.str told,v]):=Kp.upd hp;have f3:FAt K G (upd H2 p<|.tup [.str told,v]) _:=f2.same<|k8.upd hp;have hd3:c6 K (hid (upd H2 p<|.tup [.str told,v]) B) (.tuple [.str told,d]) (.ref p):=R3 I2.bk hp<|c5.cons c6.st<|c5.cons h2 c5.nil;exact aN fi G B E _ σ _ _ _ E1 (λO' H'=>D.nx O' H') (I2.step kp f3) hd3 e3 λO' I' fr=>q O' _<|(S2.step kp f3).bind s sn I' fr
  .rw[er]at e;obtain⟨E1,e3,e⟩:=bS9 e;cases e;intro C' hm e' he';obtain⟨okC,ht⟩:=hsd G B B0 H0 E _ σ H2 D nm C' fs vs2 E1 e' (S1.step k2 f2) s sn (I1.step k2 f2) hm h2 e3 he' q;exact⟨C',e',_,H2,rfl,rfl,rfl,he',okC,ht⟩
end
end
variable {its:List (Sum Str Str)}
section
section
variable {X:Cx}{p px:Pos}{cl:List Of}{t t':TA}{e:Of}{fs:List (Str×V)}{i:Nat}{x f:Str}
def hJ (cl:List Of):TA:=λ_ H Q=>Q (cl.map V.ref) H
def yO :PA X [] (hJ []):=A8
def V4 {nm:Str}(hm:X.mg nm=some (.ref C))(h:PA X es (hJ cl))(hg:Gl X nm:=by rfl)(hd:(nm == ("__debug__":Str))=false:=by decide)(hs:Ot (.Name nm p::es) X.env=(false,eval (.Name nm p) X.env)::Ot es X.env:=by rfl):PA X (.Name nm p::es) (hJ (C::cl)) :=
 l8 (te:=tC<|.ref C) (t:=hJ cl) (iT hg hm rfl hd) h hs
def PA.imp (h:PA X es t)(w:∀σ H Q,t' σ H Q->t σ H Q):PA X es t':=λcp OM s σ H Q I z=>h cp OM s σ H Q I<|w σ H Q z
def itV (fs:List (Str×V)):List (Sum Str Str)->Option (List V)
 | []=>some []
 | .inl c::r=>(itV fs r).bind λvs=>some (.str c::vs)
 | .inr f::r=>(fs.lookup f).bind λv=>(itV fs r).bind λvs=>some (v::vs)
def lW (K:Frag)(C:Of)(fs:List (Str×V))(e:Of)(i:Nat)(its:List (Sum Str Str)):TA:=λσ H Q=>σ[i]? = some (some<|.ref e)/\(∀f,.inr f∈its->findIn K (.ref C) f=some none)/\∃vs,itV fs its=some vs/\Q vs H
def yB :PA X [] (lW X.K C fs e i []):=PA.imp A8 λσ H Q ⟨_,_,vs,z,q⟩=>by cases z;exact q
def yw {c:Str}{j:Nat}(h:PA X es (lW X.K C fs e i its))(hs:Ot (.Constant (.str c) j p::es) X.env=(false,eval (.Constant (.str c) j p) X.env)::Ot es X.env:=by rfl):PA X (.Constant (.str c) j p::es) (lW X.K C fs e i (.inl c::its)) :=
 PA.imp (l8 mD h hs) λσ H Q ⟨z1,z2,vs,z3,q⟩=>by obtain⟨ws,z4,z5⟩:=bS9 z3;cases z5;exact⟨z1,λf hf=>z2 f<|IA _ hf,ws,z4,q⟩
def zf (hh:Has X e C fs)(h:PA X es (lW X.K C fs e i its))(hN:X.N[i]? = some x:=by rfl)(hv:Vis X.env.scope x:=by exact Or.inl rfl)(hb:OC (.Name x px) f X.env (eval (.Name x px) X.env)=eval (.Name x px) X.env:=by rfl)
  (hd:(x == ("__debug__":Str))=false:=by decide) (hcd:(x == ("__classdict__":Str))=false:=by decide) (hs:Ot (.Attribute (.Name x px) f p::es) X.env=(false,eval (.Attribute (.Name x px) f p) X.env)::Ot es X.env:=by rfl) :
  PA X (.Attribute (.Name x px) f p::es) (lW X.K C fs e i (.inr f::its)) :=
 PA.imp (l8 (zV hh hN hv hb hd hcd) h hs) λσ H Q ⟨z1,z2,vs,z3,q⟩=>by obtain⟨v,z4,z5⟩:=bS9 z3;obtain⟨ws,z6,z7⟩:=bS9 z5;cases z7;exact⟨z1,z2 f IG,v,z4,z1,λg hg=>z2 g<|IA _ hg,ws,z6,q⟩
end
def itD (fs:List (Str×My)):List (Sum Str Str)->Option (List My)
 | []=>some []
 | .inl c::r=>(itD fs r).bind λvs=>some (.str c::vs)
 | .inr f::r=>(fs.lookup f).bind λv=>(itD fs r).bind λvs=>some (v::vs)
section
variable {K:Frag}{H:Hp}
theorem oM:∀{ps:List Str} {fs:List My} {vs:List V} {n:Str} {d:My},c5 K H fs vs->(ps.zip fs).lookup n=some d->∃v,(ps.zip vs).lookup n=some v/\c6 K H d v
 | [],_,_,_,_,_,h=>by simp at h
 | _::_,[],_,_,_,_,h=>by simp at h
 | p::ps,w::fs,vs,n,d,hd,h=>by
  simp only[c5]at hd;obtain⟨v,r,rfl,h1,h2⟩:=hd;rw[LG,Jp]at h ⊢;by_cases hn:n=p
  .subst hn;rw[show(n == n)=true from NR n]at h ⊢;cases h;exact⟨v,rfl,h1⟩
  .rw[show(n == p)=false from KD.2 hn]at h ⊢;exact oM h2 h
theorem jd {ps:List Str}{fs:List My}{vs:List V}(hd:c5 K H fs vs):∀{its:List (Sum Str Str)} {ds:List My},itD (ps.zip fs) its=some ds->∃ws,itV (ps.zip vs) its=some ws/\c5 K H ds ws
 | [],ds,h=>by cases h;exact⟨[],rfl,c5.nil⟩
 | .inl c::its,ds,h=>by
  obtain⟨es,h1,h2⟩:=bS9 h;cases h2;obtain⟨ws,z1,z2⟩:=jd hd h1;exact⟨.str c::ws,by rw[itV,z1];rfl,c5.cons c6.st z2⟩
 | .inr f::its,ds,h=>by obtain⟨d,h0,h⟩:=bS9 h;obtain⟨es,h1,h2⟩:=bS9 h;cases h2;obtain⟨v,y1,y2⟩:=oM hd h0;obtain⟨ws,z1,z2⟩:=jd hd h1;exact⟨v::ws,by rw[itV,y1,Jd,z1];rfl,c5.cons y2 z2⟩
end
structure EFit (K:Frag) (mg:Str->Option Oe) (Wt:Of) (nm:Str) (cl:List Of) (C:Of):Prop where
 mgc:mg nm=some (.ref C)
 cat:ECat K C
 hd:hasDictIn K C=true
 exm:exmOne K (.ref C) (.ref Wt)=some true
 ve:kitOne K (.ref C) (.type "ValueError")=some true
 st:kitAny K (.ref C) (cl.map Oe.ref)=some false
 nof:∀p∈psT nm,findIn K (.ref C) p=some none
section
variable [Feeds]{K:Frag}{mg:Str->Option Oe}{C0:Of}{nm0:Str}{cl:List Of}{i j:Nat}
def tsA (K:Frag)(C0:Of)(cl:List Of)(i j fi:Nat)(its:List (Sum Str Str)):Of->Of->List (Str×V)->TS:=λe C fs =>
 tZ (aU (tCB (wC K e C)<|z8 (Q8 i)<|z8 (mK<|hJ cl) P1)<|Q5 j)
  (uW (yS (tB<|tCB (wC K e C)<|z8 (Q8 i)<|z8 (tC<|.ref C0) P1)<|yS (tB<|tCB (wC K e C)<|z8 (Q8 i)<|z8 (tC<|.ty "ValueError") P1)<|AA<|tB<|Q8 j) (aU (mK<|lW K C fs e i its)<|Q5 fi) sG)
def lJ (E:DE)(i:Nat):Bool:=match E[i]? with
 | some none=>true
 | _=>false
def oU {E:DE}{i:Nat}(h:lJ E i=true):E[i]? = some none:=by
 unfold lJ at h;split at h
 .assumption
 .cases h
def hdA (nm0:Str)(i j fi:Nat)(its:List (Sum Str Str)):Str->List My->DE->Option DE:=λnm fs E=>if nm=nm0/\lJ E i=true then(itD ((psT nm0).zip fs) its).bind λds=>(bN j (.bool false) E).bind λE1=>bN fi (.tuple ds) E1 else none
theorem iI:∀{fs:List (Str×V)} {its:List (Sum Str Str)} {vs:List V},itV fs its=some vs->vs.length=its.length
 | _,[],_,h=>by cases h;rfl
 | fs,.inl c::r,_,h=>by
  obtain⟨ws,h1,h2⟩:=bS9 h;cases h2;rw[IK,IK,iI h1]
 | fs,.inr f::r,_,h=>by obtain⟨v,_,h⟩:=bS9 h;obtain⟨ws,h1,h2⟩:=bS9 h;cases h2;rw[IK,IK,iI h1]
def jA {i j:Nat}{d:My}{E E1:DE}(h:bN j d E=some E1)(hij:i≠j):E1[i]? = E[i]?:=by
 unfold bN at h;split at h
 .cases h;exact IL<|JC hij
 .cases h
def CY (ef:EFit K mg Wt nm0 cl C0)(hij:i≠j)(hif:i≠fi)(hjl:its.length<=100)(hcl:cl.length<=100)(hb:(its.all λz=>match z with | .inr f=>(psT nm0).contains f | .inl _=>true)=true):SuD K mg (λC=>C=C0) i (tsA K C0 cl i j fi its) (hdA nm0 i j fi its):=by
 have hits:∀f,.inr f∈its->f∈psT nm0:=λf hf=>by have z:=Ma.1 hb (.inr f) hf;exact List.contains_iff_mem.1 z
 intro G B B0 H0 E F σ H D nm C fs vs E1 e S s sn I hm hd hE he q;unfold hdA at hE;split at hE
 .rename_i hc;obtain⟨rfl,hh⟩:=hc;have hh:=oU hh;obtain⟨ds,h1,hE⟩:=bS9 hE;obtain⟨E2,h2,h3⟩:=bS9 hE;have eC:C=C0:=by have z:=hm.symm.trans ef.mgc;cases z;rfl
  subst eC;refine⟨rfl,?_⟩;obtain⟨ws,w1,w2⟩:=jd hd h1;have hil:i < σ.length:=by rw[<-I.ln];exact(IH.1 hh).1
  refine⟨.ref e,IR hil,?_,λp hp=>?_⟩
  .rw[Jr];simp;omega
  have kp:Kp (m7 K G) H (upd H p<|.tup<|cl.map V.ref):=Kp.upd hp;have f1:FAt K G (upd H p<|.tup<|cl.map V.ref) F:=I.fd.same<|k8.upd hp;refine⟨.ref p,false,rfl,.inr<|.inr ⟨p,cl,rfl,i7,ef.st⟩,?_⟩;have S1:=(S.hole hh<|some<|.ref e).step kp f1;have I1:=(I.hole hh<|some<|.ref e).step kp f1;refine aN j G B E F _ _ (.bl false) (.bool false) E2 _ I1 c6.bl h2 λσ2 I2 fr2=>?_
  have S2:=S1.bind s sn I2 fr2;have hh2:E2[i]? = some none:=(jA h2 hij).trans hh;have g2:σ2[i]? = some (some<|.ref e):=((fr2 i λy z=>by rw[hh2]at z;cases z).2).trans<|IR hil;have hj:σ2[j]? = some (some<|.bl false):=by
   have ej:E2[j]? = some (some<|.dat<|.bool false):=by
    unfold bN at h2;split at h2
    .rename_i hl;cases h2;exact IR hl
    .cases h2
   obtain⟨v,v1,v2⟩:=I2.loc j _ ej;have v2:c6 K (hid (upd H p<|.tup<|cl.map V.ref) B) (.bool false) v:=v2;simp only[c6]at v2;rw[v1,v2]
  have k1:kitOne K (.ref C) (.ref C)=some true:=by unfold kitOne;rw[IE<|NR _]
  refine⟨.ref e,g2,.ref C,true,rfl,.inl ⟨C,rfl,k1⟩,true,rfl,?_⟩;dsimp only;rw[IE rfl];refine⟨.ref e,g2,.ty "ValueError",true,rfl,.inr<|.inl ⟨_,rfl,ef.ve⟩,true,rfl,?_⟩;dsimp only;rw[IE rfl];refine⟨_,hj,false,rfl,?_⟩;dsimp only;rw[IE<|by rfl];refine⟨g2,λf hf=>ef.nof f<|hits f hf,ws,w1,?_,λp2 hp2=>?_⟩
  .rw[Jr,iI w1];omega
  have kp2:Kp (m7 K G) (upd H p<|.tup<|cl.map V.ref) (upd (upd H p<|.tup<|cl.map V.ref) p2<|.tup ws):=Kp.upd hp2;have f2:FAt K G (upd (upd H p<|.tup<|cl.map V.ref) p2<|.tup ws) F:=f1.same<|k8.upd hp2;have w3:c6 K (hid (upd (upd H p<|.tup<|cl.map V.ref) p2<|.tup ws) B) (.tuple ds) (.ref p2):=R3 I2.bk hp2<|w2.same<|kp.hid I.fB;refine aN fi G B E2 F σ2 _ _ _ E1 _ (I2.step kp2 f2) w3 h3 λσ3 I3 fr3=>?_
  exact q _ _<|((S2.step kp2 f2).bind s sn I3 fr3).hole ((jA h3 hif).trans hh2) none
 .cases hE
end
end
section
def fZ :OD "ValueError" = some (.type "ValueError"):=by first | rfl | decide +kernel
section
variable {X:Cx}{e C0:Of}{fs:List (Str×V)}{i j:Nat}{cl:List Of}{x y z nm0:Str}{ces ies:List Oo}{p1 p2 p3 p4 p5 p6 q1 q2 q3 q4 q5 q6 q7 q8 q9 r1 r2 r3 r4:Pos}{k1 k2}{p2' p3':Pos}
def AR (h:Has X e C fs)(hmI:X.mg "isinstance" = none)(hmV:X.mg "ValueError" = none)(hm0:X.mg nm0=some (.ref C0))(hc:PA X ces (hJ cl))(hits:PA X ies (lW X.K C fs e i its))(hNd:X.N.Nodup)
  (hi:X.N[i]? = some x:=by rfl) (hj:X.N[j]? = some y:=by rfl) (hfi:X.N[fi]? = some z:=by rfl) (hx:X.env.scope.names.lookup x=some .local:=by rfl) (hy:X.env.scope.names.lookup y=some .local:=by rfl) (hz:X.env.scope.names.lookup z=some .local:=by rfl)
  (dx:(x == ("__debug__":Str))=false:=by decide) (cx:(x == ("__classdict__":Str))=false:=by decide) (dy:(y == ("__debug__":Str))=false:=by decide) (cy:(y == ("__classdict__":Str))=false:=by decide) (d0:(nm0 == ("__debug__":Str))=false:=by decide)
  (gI:Gl X "isinstance":=by rfl) (gV:Gl X "ValueError":=by rfl) (g0:Gl X nm0:=by rfl)
  (s1:OB (.Call (.Name "isinstance" p2) [.Name x p3,.Tuple ces k1 p4] [] p5) (some<|.Name y p1) p6.line X.env=pure false:=by rfl) (s2:OB (.Tuple ies k2 r2) (some<|.Name z r1) r3.line X.env=pure false:=by rfl) :
  PSs X [.Assign [.Name y p1] (.Call (.Name "isinstance" p2) [.Name x p3,.Tuple ces k1 p4] [] p5) p6,
   .If (.BoolOp .And [.Call (.Name "isinstance" q1) [.Name x q2,.Name nm0 q3] [] q4,.Call (.Name "isinstance" q5) [.Name x q6,.Name "ValueError" q7] [] q8,.UnaryOp .Not (.Name y q9) r4] p2') [.Assign [.Name z r1] (.Tuple ies k2 r2) r3] [] p3'] (tsA X.K C0 cl i j fi its e C fs) :=
 B1 (N9 hNd hj (.inl hy) (L7 (fJ h) gI hmI T6<|l8 (G5 hi (.inl hx) dx cx)<|l8 (eD hc) A8) s1<|.inr hy)
  (O6 (jQ (PW.pt (mv (mI<|L7 (fJ h) gI hmI T6<|l8 (G5 hi (.inl hx) dx cx)<|l8 (iT g0 hm0 rfl d0) A8) (mv (mI<|L7 (fJ h) gI hmI T6<|l8 (G5 hi (.inl hx) dx cx)<|l8 (nV gV hmV fZ rfl) A8)
   (og<|tT<|mI<|G5 hj (.inl hy) dy cy)))) (O6<|N9 hNd hfi (.inl hz) (eD hits) s2<|.inr hz) dB))
end
end
section
def wW:On->On
 | .ClassDef _ _ _ b _ _ _ _ _ _ _=>b.getD 0<|.Pass ⟨0,0,0,0⟩
 | s=>s
def Bq (mg:Str->Option Oe):List Str->List Of->Prop
 | [],cl=>cl=[]
 | n::ns,cl=>∃a r,cl=a::r/\mg n=some (.ref a)/\Bq mg ns r
def Cw (K:Frag)(mg:Str->Option Oe)(wt nm:Str)(cls:List Str):Prop:=∃(Wt C f:Of) (cl:List Of),mg wt=some (.ref Wt)/\Bq mg cls cl/\ECls K Wt C f/\EIni K C f (psT nm)/\EFit K mg Wt nm cl C
structure IniTxt (st:On) (qual:Str) (ps:List Str):Prop where
 sc:FnScope (("self":Str)::ps) (("self":Str)::ps) (defScope st)
 loc:∀p∈("self":Str)::ps,(defScope st).names.lookup p=some .local
 ib:InitBody ps (defBody st)
 few:ps.length<=100
 nd:∀p∈ps,(p == ("__debug__":Str))=false
 bd:∀(kV doc pm:Oe) (an:Option Of) (OP ct:Oe) (us:List Oe),us.length=ps.length+1->bindArgs (fnOf "__init__" qual (defArgs st) (defBody st) (defScope st) .none kV doc pm an OP ct) ⟨us,[]⟩=pure ((("self":Str)::ps).zip us)
def eini_mk {K:Frag}{f:Of}{ps:List Str}{st:On}{qual:Str}{oc:Oe}{od an:Option Of}{osl:Array (Option Oe)}{kV doc pm OP ct:Oe}(I:IniTxt st qual ps)
  (l:K.lookup f=some ⟨oc,od,.func<|fnOf "__init__" qual (defArgs st) (defBody st) (defScope st) .none kV doc pm an OP ct,osl⟩) (c:codeIn K OP qual=true) (na:∀p∈ps,findIn K (.ref C) p=some none):EIni K C f ps :=
 ⟨⟨qual,defArgs st,defBody st,defScope st,oc,od,kV,doc,pm,an,OP,ct,osl,l,c,I.sc,I.loc,I.ib,λus hl=>I.bd kV doc pm an OP ct us hl⟩,λp hp=>⟨na p hp,I.nd p hp⟩,I.few⟩
def ecls_mk {K:Frag}{f N:Of}{nm q:Str}{bs:List Oe}{hdct}{sn sub ab col dd k0 k1 k2 k3 k5}
  (obj:K.lookup C=some (excClassObj nm q C N bs (.ref Wt::vMro) hdct sn sub ab col dd k0 k1 k2 k3 k5 "ValueError.__new__")) (tp:excIn K Wt vMro "ValueError.__new__" = true)
  (init:findIn K (.ref C) "__init__" = some (some<|.ref f)) (fn:typeIn K (.ref f)=some (.type "function")) (call:specialIn K (.ref C) "__call__" = some (some<|.builtin "type.__call__")) (typ:instIn K (.ref C) (.type "type")=some true) (kp:keepIn K (.ref C)=true)
  (dict:hasDictIn K C=true) (sa:findIn K (.ref C) "__setattr__" = some (some<|.builtin "object.__setattr__")):ECls K Wt C f:=by
 refine⟨⟨_,_,_,_,_,_,_,_,_,_,_,_,_,_,_,obj⟩,?_,init,fn,call,typ,kp,dict,sa⟩;unfold excIn at tp;split at tp
 .rename_i dd0 cd sl ho;split at tp
  .simp only[LR,beq_iff_eq]at tp;exact⟨_,_,_,_,ho,tp.1.2,tp.2⟩
  .cases tp
 .cases tp
def efit_mk {K:Frag}{mg:Str->Option Oe}{nm:Str}{cl:List Of}(hm:mg nm=some (.ref C))(hd:hasDictIn K C=true)(ga:findIn K (.ref C) "__getattribute__" = some (some<|.builtin "BaseException.__getattribute__"))(gn:findIn K (.ref C) "__getattr__" = some none)(mb:mroIn K C (.type "BaseException")=some true)(mo:mroIn K C (.type "object")=some true)
  (ca:findIn K (.ref C) "__class__" = some (some<|.builtin "object.__class__")) (cg:specialIn K (.builtin "object.__class__") "__get__" = some (some<|.builtin "getset_descriptor.__get__")) (ct:takesIn K (.builtin "object.__class__")=some true)
  (sb:subIn K (.ref Wt) (.type "BaseException")=some true) (ko:kitOne K (.ref C) (.ref Wt)=some true) (ne:(Oe.ref C == Oe.ref Wt)=false) (ve:kitOne K (.ref C) (.type "ValueError")=some true) (st:kitAny K (.ref C) (cl.map Oe.ref)=some false) (na:∀p∈psT nm,findIn K (.ref C) p=some none):EFit K mg Wt nm cl C:=by refine⟨hm,⟨ga,gn,mb,mo,ca,cg,ct⟩,hd,?_,ve,st,na⟩;unfold exmOne;rw[sb,IE<|by rfl];unfold kitOne at ko;rwa [II (by rw[ne];exact IZ)]at ko
end
section
section
variable {X:Cx}{tg iter:Oo}{wi:TI}{g:TG}
end
section
variable [Feeds]
variable {K:Frag}{W:Str->List V->Hp->Prop}{X:Cx}{tg iter:Oo}
end
end
end L3
namespace L3
open PySem PySem.Spec PyProof.Rows L2
variable {γ:Type}{args:List DV}{o:Option (Option DV)}
section
variable [Fam]
def wp {α σ:Type}(m:Option (α × σ))(Q:α->σ->Prop):Prop:=∃a F',m=some (a,F')/\Q a F'
section
variable {α β σ τ:Type}{Q:α->σ->Prop}
def d6 {a:α}{F:σ}:wp (some (a,F)) Q↔Q a F:=⟨λ⟨_,_,e,q⟩=>by cases e;exact q,λq=>⟨_,_,rfl,q⟩⟩
def C4 :wp (none:Option (α × σ)) Q↔False:=⟨λ⟨_,_,e,_⟩=>(by cases e),False.elim⟩
def c8 {x:Option (β × τ)}{f:β × τ->Option (α × σ)}:wp (x.bind f) Q↔wp x λa F'=>wp (f (a,F')) Q:=by
 constructor
 .rintro ⟨a,F',e,q⟩;obtain⟨⟨b,F1⟩,e1,e2⟩:=bS9 e;exact⟨b,F1,e1,a,F',e2,q⟩
 .rintro ⟨b,F1,e1,a,F',e2,q⟩;exact⟨a,F',by rw[e1];exact e2,q⟩
def A9 {o:Option γ}{f:γ->Option (α × σ)}:wp (o.bind f) Q↔∃z,o=some z/\wp (f z) Q:=by
 constructor
 .rintro ⟨a,F',e,q⟩;obtain⟨z,e1,e2⟩:=bS9 e;exact⟨z,e1,a,F',e2,q⟩
 .rintro ⟨z,e1,a,F',e2,q⟩;exact⟨a,F',by rw[e1];exact e2,q⟩
def ij {c:Prop}[Decidable c]{a b:Option (α × σ)}:wp (if c then a else b) Q↔if c then wp a Q else wp b Q:=by split <;> rfl
def l5 {m:Option (α × σ)}{Q':α->σ->Prop}(h:wp m Q)(hq:∀a F,Q a F->Q' a F):wp m Q':=by obtain⟨a,F,e,q⟩:=h;exact⟨a,F,e,hq a F q⟩
def G6 {m:Option (α × σ)}{Q':α->σ->Prop}(h:∀a F,Q a F↔Q' a F):wp m Q↔wp m Q':=⟨λz=>l5 z λa F q=>(h a F).1 q,λz=>l5 z λa F q=>(h a F).2 q⟩
def wL {z:γ}{P:γ->Prop}:(∃y,some z=some y/\P y)↔P z:=⟨λ⟨_,e,p⟩=>by cases e;exact p,λp=>⟨_,rfl,p⟩⟩
def v8 {m:Int}{F:FdS}{Q:My->FdS->Prop}(h0:0<m)(h1:m<1073741824)(h2:F.t<199999)(q:∀r F',0<=r->r<m->F'.t=F.t+1->Q (.int r) F'):wp (A2 [.feed,.dat<|.int m] F) Q:=by obtain⟨r,F',e,r0,r1,ht⟩:=Fam.draw_some h0 h1 h2;exact⟨.int r,F',by show(Fam.drawF m F).bind _=_;rw[e];rfl,q r F' r0 r1 ht⟩
end
def gD (o:Option (Option DV))(P:My->Prop):Prop:=match o with
 | some (some<|.dat d)=>P d
 | _=>False
def gW (o:Option (Option DV))(P:My->Prop):Prop:=match o with
 | some (some<|.dat d)=>P d
 | some (some<|.own ds)=>P<|.list ds
 | _=>False
def gF (o:Option (Option DV))(P:Prop):Prop:=match o with
 | some (some .feed)=>P
 | _=>False
def oB (o:Option γ)(P:γ->Prop):Prop:=∃z,o=some z/\P z
def cIf (c:Bool)(A B:Prop):Prop:=if c=true then A else B
def nY {A B:Prop}:cIf true A B↔A:=by simp[cIf]
def nQ {A B:Prop}:cIf false A B↔B:=by simp[cIf]
def S4 {c:Bool}{A B:Prop}(h1:c=true->A)(h2:c=false->B):cIf c A B:=by
 cases c
 .exact nQ.2<|h2 rfl
 .exact nY.2<|h1 rfl
section
variable [Feeds]{E:DE}{F:FS}
def g8 {d:My}{Q:My->FS->Prop}:wp (sC d E F) Q↔Q d F:=d6
def X2 {i:Nat}{Q:My->FS->Prop}:wp (sV i E F) Q↔gD E[i]? λd=>Q d F:=by
 unfold sV gD;generalize E[i]? = o;rcases o with _ | _ | x
 .exact C4
 .exact C4
 .cases x <;> first | exact d6 | exact C4
def K1 {i:Nat}{Q:My->FS->Prop}:wp (sW i E F) Q↔gW E[i]? λd=>Q d F:=by
 unfold sW gW;generalize E[i]? = o;rcases o with _ | _ | x
 .exact C4
 .exact C4
 .cases x <;> first | exact d6 | exact C4
def lh {f:My->Option My}{a:DE->M My}{Q:My->FS->Prop}:wp (s1 f a E F) Q↔wp (a E F) λx F1=>oB (f x) λz=>Q z F1:=by unfold s1;rw[c8];simp only[A9,d6,oB]
def j8 {f:My->My->Option My}{a b:DE->M My}{Q:My->FS->Prop}:wp (s2 f a b E F) Q↔wp (a E F) λx F1=>wp (b E F1) λy F2=>oB (f x y) λz=>Q z F2:=by unfold s2;rw[c8];refine G6 λx F1=>?_;rw[c8];refine G6 λy F2=>?_;simp only[A9,d6,oB]
def G3 {f:List My->Option My}{a:DE->M (List My)}{Q:My->FS->Prop}:wp (sN f a E F) Q↔wp (a E F) λx F1=>oB (f x) λz=>Q z F1:=by unfold sN;rw[c8];simp only[A9,d6,oB]
def f9 {Q:List My->FS->Prop}:wp (j9 E F) Q↔Q [] F:=d6
def d4 {a:DE->M My}{r:DE->M (List My)}{Q:List My->FS->Prop}:wp (d5 a r E F) Q↔wp (a E F) λx F1=>wp (r E F1) λxs F2=>Q (x::xs) F2:=by unfold d5;rw[c8];simp only[c8,d6]
def A7 {a:DE->M (List My)}{Q:My->FS->Prop}:wp (K8 a E F) Q↔wp (a E F) λxs F1=>xs.length<=Os/\Q (.tuple xs) F1:=by
 unfold K8;rw[c8];constructor
 .exact λh=>l5 h λxs F1 h=>by
   split at h
   .rename_i hl;exact⟨hl,d6.1 h⟩
   .exact(C4.1 h).elim
 .exact λh=>l5 h λxs F1 h=>by rw[IE h.1];exact d6.2 h.2
def lI {a:DE->M (List My)}{Q:My->FS->Prop}:wp (lT a E F) Q↔wp (a E F) λxs F1=>xs.length<=Os/\Q (.list xs) F1:=by
 unfold lT;rw[c8];constructor
 .exact λh=>l5 h λxs F1 h=>by
   split at h
   .rename_i hl;exact⟨hl,d6.1 h⟩
   .exact(C4.1 h).elim
 .exact λh=>l5 h λxs F1 h=>by rw[IE h.1];exact d6.2 h.2
def j5 {Q:List DV->FS->Prop}:wp (m9 E F) Q↔Q [] F:=d6
def G4 {a:DE->M My}{r:DE->M (List DV)}{Q:List DV->FS->Prop}:wp (vD a r E F) Q↔wp (a E F) λx F1=>wp (r E F1) λxs F2=>Q (.dat x::xs) F2:=by unfold vD;rw[c8];simp only[c8,d6]
def mQ {i:Nat}{r:DE->M (List DV)}{Q:List DV->FS->Prop}:wp (vF i r E F) Q↔gF E[i]? (wp (r E F) λxs F2=>Q (.feed::xs) F2):=by
 unfold vF gF;generalize E[i]? = o;rcases o with _ | _ | x
 .exact C4
 .exact C4
 .cases x with
  | feed=>exact c8.trans (G6 λ_ _=>d6)
  | _=>exact C4
def j6 {f:List DV->M My}{ms:DE->M (List DV)}{Q:My->FS->Prop}:wp (i0 f ms E F) Q↔wp (ms E F) λxs F1=>wp (f xs F1) Q:=by unfold i0;rw[c8]
def tY {a b:DE->M My}{Q:My->FS->Prop}:wp (pR a b E F) Q↔wp (a E F) λx F1=>oB (T4 x) λc=>cIf c (wp (b E F1) Q) (Q (.bool false) F1):=by unfold pR;rw[c8];simp only[A9,ij,d6,oB,cIf]
def AH {a:DE->M My}{Q:My->FS->Prop}:wp (uD a E F) Q↔wp (a E F) λx F1=>oB (T4 x) λc=>Q (.bool (!c)) F1:=by unfold uD;rw[c8];simp only[A9,d6,oB]
def ua {c:DE->M Bool}{a b:DE->M My}{Q:My->FS->Prop}:wp (sIf c a b E F) Q↔wp (c E F) λx F1=>cIf x (wp (a E F1) Q) (wp (b E F1) Q):=by unfold sIf;rw[c8];simp only[ij,cIf]
def K7 {a:DE->M My}{Q:Bool->FS->Prop}:wp (uB a E F) Q↔wp (a E F) λx F1=>oB (T4 x) λc=>Q c F1:=by unfold uB;rw[c8];simp only[A9,d6,oB]
def iy {a:DE->M My}{Q:Bool->FS->Prop}:wp (uT a E F) Q↔wp (a E F) λx F1=>oB (vV x) λc=>Q c F1:=by unfold uT;rw[c8];simp only[A9,d6,oB]
def dR {a b:DE->M Bool}{Q:Bool->FS->Prop}:wp (uOr a b E F) Q↔wp (a E F) λx F1=>cIf x (Q true F1) (wp (b E F1) Q):=by unfold uOr;rw[c8];simp only[ij,d6,cIf]
def Y4 {a:DE->M Bool}{Q:Bool->FS->Prop}:wp (fj a E F) Q↔wp (a E F) λx F1=>Q (!x) F1:=by unfold fj;rw[c8];simp only[d6]
def Z3 {Q:Bool->FS->Prop}:wp (C6 E F) Q↔Q true F:=d6
def L5 {Q:Out->FS->Prop}:wp (mNx E F) Q↔Q (.nx E) F:=d6
def sqK (b:DE->M Out)(Q:Out->FS->Prop)(o:Out)(F1:FS):Prop:=match o with
  | .nx E1=>wp (b E1 F1) Q
  | o=>Q o F1
def h9 {b:DE->M Out}{Q:Out->FS->Prop}{E1:DE}(h:wp (b E1 F) Q):sqK b Q (.nx E1) F:=h
def dW {b:DE->M Out}{Q:Out->FS->Prop}{d:My}(h:Q (.rt d) F):sqK b Q (.rt d) F:=h
def y9 {a b:DE->M Out}{Q:Out->FS->Prop}:wp (mSq a b E F) Q↔wp (a E F) (sqK b Q):=by
 unfold mSq;rw[c8];refine G6 λo F1=>?_
 cases o with
 | nx E1=>exact Iff.rfl
 | rt d=>exact d6
 | bk d=>exact d6
 | ct d=>exact d6
def B5 {a:DE->M My}{Q:Out->FS->Prop}:wp (mRt a E F) Q↔wp (a E F) λx F1=>Q (.rt x) F1:=by unfold mRt;rw[c8];simp only[d6]
def S9 {i:Nat}{a:DE->M My}{Q:Out->FS->Prop}:wp (A4 i a E F) Q↔wp (a E F) λx F1=>i<E.length/\Q (.nx<|E.set i<|some<|.dat x) F1:=by
 unfold A4;rw[c8];refine G6 λx F1=>?_
 unfold bN;by_cases h:i<E.length
 .rw[IE h];simp only[A9,d6,wL,h,true_and]
 .rw[II h];simp only[A9,h,false_and];exact⟨λ⟨_,e,_⟩=>(by cases e),False.elim⟩
def mC {bd:My->DE->Option DE}{a:DE->M My}{Q:Out->FS->Prop}:wp (oW bd a E F) Q↔wp (a E F) λx F1=>oB (bd x E) λE1=>Q (.nx E1) F1:=by unfold oW;rw[c8];simp only[A9,d6,oB]
def U9 {c:DE->M Bool}{a b:DE->M Out}{Q:Out->FS->Prop}:wp (mIf c a b E F) Q↔wp (c E F) λx F1=>cIf x (wp (a E F1) Q) (wp (b E F1) Q):=by unfold mIf;rw[c8];simp only[ij,cIf]
def eK {i:Nat}{a:DE->M (List My)}{Q:Out->FS->Prop}:wp (iw i a E F) Q↔wp (a E F) λx F1=>i<E.length/\Q (.nx<|E.set i<|some<|.own x) F1:=by
 unfold iw;rw[c8];refine G6 λx F1=>?_
 by_cases h:i<E.length
 .rw[IE h];simp only[d6,h,true_and]
 .rw[II h];simp only[h,false_and];exact C4
def L6 {mi:DE->M (List My)}{bd:My->DE->Option DE}{body:DE->M Out}{Q:Out->FS->Prop}:wp (W9 mi bd body E F) Q↔wp (mi E F) λds F1=>wp (R9 bd body ds E F1) Q:=by unfold W9;rw[c8]
def S7 {a:DE->M (List My)}{Q:List My->FS->Prop}:wp (Y2 a E F) Q↔wp (a E F) λx F1=>oB (aI x) λds=>Q ds F1:=by unfold Y2;rw[c8];simp only[A9,d6,oB]
def v6 {a:DE->M My}{Q:List My->FS->Prop}:wp (C9 a E F) Q↔wp (a E F) λx F1=>oB (cR x) λds=>Q ds F1:=by unfold C9;rw[c8];simp only[A9,d6,oB]
def fN {a:DE->M (List My)}{Q:List My->FS->Prop}:wp (jY a E F) Q↔wp (a E F) λx F1=>x.length<=Os/\Q x F1:=by
 unfold jY;rw[c8];constructor
 .exact λh=>l5 h λxs F1 h=>by
   split at h
   .rename_i hl;exact⟨hl,d6.1 h⟩
   .exact(C4.1 h).elim
 .exact λh=>l5 h λxs F1 h=>by rw[IE h.1];exact d6.2 h.2
def G7 {mi:DE->M (List My)}{k:Nat}{cap:List Nat}{bd:My->DE->Option DE}{mt:DE->M Bool}{me:DE->M My}{Q:My->FS->Prop}:wp (sLC mi k cap bd mt me E F) Q↔wp (mi E F) λds F1=>ds.length<=Os/\wp (P2 bd mt me ds (dO k cap E) F1) λzs F2=>Q (.list zs) F2:=by
 unfold sLC;rw[c8];constructor
 .refine λh=>l5 h λds F1 h=>?_
  dsimp only at h;split at h
  .rename_i hl;rw[c8]at h;exact⟨hl,l5 h λzs F2 h=>d6.1 h⟩
  .exact(C4.1 h).elim
 .refine λh=>l5 h λds F1 h=>?_
  dsimp only;rw[IE h.1,c8];exact l5 h.2 λzs F2 h=>d6.2 h
def BK (Q:My->FS->Prop)(o:Out)(F1:FS):Prop:=match o with
  | .rt d=>Q d F1
  | .nx _=>Q .none F1
  | _=>False
def v5 {Q:My->FS->Prop}{d:My}(h:Q d F):BK Q (.rt d) F:=h
def D4 {N:List Str}{m:DE->M Out}{Q:My->FS->Prop}:wp (F0 N m args F) Q↔wp (m (A1 N args) F) (BK Q):=by
 unfold F0;rw[c8];refine G6 λo F1=>?_
 cases o with
 | nx E1=>exact d6
 | rt d=>exact d6
 | bk d=>exact C4
 | ct d=>exact C4
def X3 {d:My}{P:My->Prop}(h:o=some (some<|.dat d))(q:P d):gD o P:=by rw[h];exact q
def R0 {d:My}{P:My->Prop}(h:o=some (some<|.dat d))(q:P d):gW o P:=by rw[h];exact q
def cT {ds:List My}{P:My->Prop}(h:o=some (some<|.own ds))(q:P (.list ds)):gW o P:=by rw[h];exact q
def lF {P:Prop}(h:o=some (some .feed))(q:P):gF o P:=by rw[h];exact q
def c7 {o:Option γ}{z:γ}{P:γ->Prop}(h:o=some z)(q:P z):oB o P:=⟨z,h,q⟩
def aS {c:Bool}{A B:Prop}(h:c=true)(q:A):cIf c A B:=by rw[h];exact nY.2 q
def B8 {c:Bool}{A B:Prop}(h:c=false)(q:B):cIf c A B:=by rw[h];exact nQ.2 q
def n8 {n:Nat}(h:Nat.ble n 10000=true):n<=Os:=IV (Nc h) (by rw[Jr];decide)
def h7 {i n:Nat}(h:Nat.ble (i+1) n=true):i<n:=Nc h
end
def Tr (f:List DV->M My)(args:List DV)(c:Int)(P:My->Prop):Prop:=∀F:FdS,F.t+c<=199999->∃d F',f args F=some (d,F')/\F'.t<=F.t+c/\P d
def Tr.wp {f:List DV->M My}{c:Int}{P:My->Prop}{F:FdS}{Q:My->FdS->Prop}(h:Tr f args c P)(hF:F.t+c<=199999)(q:∀d F',F'.t<=F.t+c->P d->Q d F'):wp (f args F) Q:=by obtain⟨d,F',e,ht,p⟩:=h F hF;exact⟨d,F',e,q d F' ht p⟩
def Tr.of {f:List DV->M My}{c:Int}{P:My->Prop}(h:∀F:FdS,F.t+c<=199999->L3.wp (f args F) λd F'=>F'.t<=F.t+c/\P d):Tr f args c P:=λF hF=>by obtain⟨d,F',e,q⟩:=h F hF;exact⟨d,F',e,q⟩
mutual
def cnt:My->Nat
 | .tuple ds=>1+df ds
 | .list ds=>1+df ds
 | _=>1
def df:List My->Nat
 | []=>0
 | d::ds=>cnt d+df ds
end
def asc (x:Str):Prop:=∀c∈x.cps.toList,c<128
mutual
def scs (n:Nat):My->Prop
 | .none=>True
 | .bool _=>True
 | .int i=>i.natAbs<10 ^ 300+n
 | .str x=>x.length<=600+n/\asc x
 | .tuple ds=>pW n ds
 | .list ds=>pW n ds
 | .dict _=>False
def pW (n:Nat):List My->Prop
 | []=>True
 | d::ds=>scs n d/\pW n ds
end
theorem aX {n:Nat}:∀{ds:List My},pW n ds↔∀d∈ds,scs n d
 | []=>by simp[pW]
 | d::ds=>by simp[pW,aX (ds:=ds)]
structure Gd (n N k:Nat) (d:My):Prop where
 sc:scs n d
 dp:d.depth<=k
 ct:cnt d<=N
theorem X5 {k:Nat}:∀{ds:List My},My.depthAll ds<=k↔∀d∈ds,d.depth<=k
 | []=>by simp[My.depthAll]
 | d::ds=>by have:=X5 (k:=k) (ds:=ds);simp only[My.depthAll,IP,forall_eq_or_imp];rw[<-this];omega
def Gd.tup {n N k M:Nat}{ds:List My}(h:∀d∈ds,Gd n M k d)(hc:1+df ds<=N):Gd n N (k+1) (.tuple ds):=by
 refine⟨?_,?_,?_⟩
 .simp only[scs];rw[aX];exact λd hd=>(h d hd).sc
 .simp only[My.depth];have:My.depthAll ds<=k:=X5.2 λd hd=>(h d hd).dp
  omega
 .simp only[cnt];exact hc
def Gd.lst {n N k M:Nat}{ds:List My}(h:∀d∈ds,Gd n M k d)(hc:1+df ds<=N):Gd n N (k+1) (.list ds):=by obtain⟨a,b,c⟩:=Gd.tup h hc;exact⟨a,b,c⟩
def w9c [Feeds]{E:DE}{F:FS}{i:Nat}{d:My}{r:DE->M (List My)}{Q:List My->FS->Prop}(h:E[i]? = some (some<|.dat d))(q:wp (r E F) λxs F2=>Q (d::xs) F2):wp (d5 (sV i) r E F) Q:=d4.2<|X2.2<|X3 h q
def w9d [Feeds]{E:DE}{F:FS}{i:Nat}{d:My}{f:List DV->M My}{Q:My->FS->Prop}(h:E[i]? = some (some .feed))(q:wp (f [.feed,.dat d] F) Q):wp (i0 f (vF i<|vD (sC d) m9) E F) Q:=j6.2<|mQ.2<|lF h<|G4.2<|g8.2<|j5.2 q
def w9g [Feeds]{E:DE}{F:FS}{i:Nat}{d:My}{Q:My->FS->Prop}(h:E[i]? = some (some<|.dat d))(q:Q d F):wp (sV i E F) Q:=X2.2<|X3 h q
def w9i [Feeds]{E:DE}{F:FS}{c:DE->M Bool}{a b r:DE->M Out}{Q:Out->FS->Prop}(q:wp (c E F) λx F1=>cIf x (wp (a E F1)<|sqK r Q)<|wp (b E F1)<|sqK r Q):wp (mSq (mIf c a b) r E F) Q:=y9.2<|U9.2 q
def w9l [Feeds]{E:DE}{F:FS}{f:List DV->M My}{a:DE->M My}{r:DE->M (List DV)}{Q:My->FS->Prop}(q:wp (a E F) λx F1=>wp (r E F1) λxs F2=>wp (f (.dat x::xs) F2) Q):wp (i0 f (vD a r) E F) Q:=j6.2<|G4.2 q
def w9q [Feeds]{E:DE}{F:FS}{i:Nat}{a:DE->M My}{b:DE->M Out}{Q:Out->FS->Prop}(q:wp (a E F) λx F1=>i<E.length/\sqK b Q (.nx<|E.set i<|some<|.dat x) F1):wp (mSq (A4 i a) b E F) Q:=y9.2<|S9.2 q
def w9s [Feeds]{E:DE}{F:FS}{i:Nat}{d:My}{f:My->My->Option My}{b:DE->M My}{Q:My->FS->Prop}(h:E[i]? = some (some<|.dat d))(q:wp (b E F) λy F2=>oB (f d y) λz=>Q z F2):wp (s2 f (sW i) b E F) Q:=j8.2<|K1.2<|R0 h q
def w9v [Feeds]{E:DE}{F:FS}{i:Nat}{d:My}{r:DE->M (List DV)}{Q:List DV->FS->Prop}(h:E[i]? = some (some<|.dat d))(q:wp (r E F) λxs F2=>Q (.dat d::xs) F2):wp (vD (sV i) r E F) Q:=G4.2<|X2.2<|X3 h q
def w9w [Feeds]{E:DE}{F:FS}{i:Nat}{d:My}{Q:My->FS->Prop}(h:E[i]? = some (some<|.dat d))(q:Q d F):wp (sW i E F) Q:=K1.2<|R0 h q
end
section
variable [Fam]
structure Nod (d:My):Prop where
 sh:d.showable=true
 nd:d.hasDict=false
 cl:d.canLay0=true
 ln:d.shown.length+2<=7100*cnt d
def vJ :(10:Nat) ^ 300<=2 ^ 1000:=by have h:((10:Nat) ^ 3) ^ 100<=(2 ^ 10) ^ 100:=Nat.pow_le_pow_left (by decide) 100;rwa [<-Nat.pow_mul,<-Nat.pow_mul]at h
def Ac {n:Nat}(hn:n<=100):10 ^ 300+n<=2 ^ 1001:=by
 have h0:=vJ;have h1:(2:Nat) ^ 1001=2 ^ 1000+2 ^ 1000:=by rw[Nat.pow_succ,Nat.mul_two]
 have h2:(2:Nat) ^ 7<=2 ^ 1000:=Jq (by decide) (by decide);have h3:(2:Nat) ^ 7=128:=by decide
 rw[h1];generalize (10:Nat) ^ 300=A at *;generalize (2:Nat) ^ 1000=B at *;omega
def Bk {ds:List My}:(∀d∈ds,Nod d)->My.showableAll ds=true/\My.hasDictAll ds=false/\My.canLayAll0 ds=true/\((My.shownAll ds).map (·.length)).sum+2*ds.length<=7100*df ds:=by
 induction ds with
 | nil=>intro _;exact⟨by simp[My.showableAll],by simp[My.hasDictAll],by simp[My.canLayAll0],by simp[My.shownAll,df]⟩
 | cons d ds ih =>
  intro h;obtain⟨a,b,c,e⟩:=ih λx hx=>h x<|IA _ hx
  have hd:=h d IG;refine⟨by simp[My.showableAll,hd.sh,a],by simp[My.hasDictAll,hd.nd,b],by simp[My.canLayAll0,hd.cl,c],?_⟩;simp only[My.shownAll,IJ,JZ,IK,df];have:=hd.ln;omega
def zE {n:Nat}(hn:n<=100):∀m:Nat,∀d:My,sizeOf d<m->scs n d->Nod d:=by
 intro m;induction m with
 | zero=>intro d h;exact absurd h<|LH _
 | succ m ih =>
  intro d hm hs;cases d with
  | none=>exact⟨rfl,rfl,rfl,by decide⟩
  | bool b=>exact⟨rfl,rfl,rfl,by cases b <;> decide⟩
  | int i =>simp only[scs]at hs;have hb:i.natAbs<2 ^ 1001:=IQ hs<|Ac hn;have:=Shw.int hb (by decide) (by decide);exact⟨this.sh,this.nd,rfl,by have:=this.ln;simp only[cnt];omega⟩
  | str x =>
   simp only[scs]at hs;refine⟨rfl,rfl,?_,?_⟩
   .simp only[My.canLay0,My.strOk];rw[Array.all_eq_true'];intro c hc;have:=hs.2 c (by simpa using hc);exact Je (by omega)
   .have h1:=PySem.StrLaws.reprText_len x λc hc=>IQ (hs.2 c hc) (by decide)
    simp only[My.shown,cnt];omega
  | tuple ds =>
   simp only[scs]at hs;rw[aX]at hs;obtain⟨a,b,c,e⟩:=Bk λd hd=>ih d (by have:=Nb hd;simp at hm;omega)<|hs d hd
   refine⟨by simpa only[My.showable] using a,by simpa only[My.hasDict] using b,by simpa only[My.canLay0] using c,?_⟩;have h5:=tupleText_len_le<|My.shownAll ds;have h6:=My.shownAll_length ds;simp only[My.shown,cnt];omega
  | list ds =>
   simp only[scs]at hs;rw[aX]at hs;obtain⟨a,b,c,e⟩:=Bk λd hd=>ih d (by have:=Nb hd;simp at hm;omega)<|hs d hd
   refine⟨by simpa only[My.showable] using a,by simpa only[My.hasDict] using b,by simpa only[My.canLay0] using c,?_⟩;have h5:=listText_len_le<|My.shownAll ds;have h6:=My.shownAll_length ds;simp only[My.shown,cnt];omega
  | dict OQ=>simp only[scs]at hs
section
variable {n N k:Nat}{d:My}
def Gd.nod (h:Gd n N k d)(hn:n<=100):Nod d:=zE hn _ d (Kd _) h.sc
def Gd.repr (h:Gd n N k d)(hn:n<=100)(hN:N<=2000)(hk:k<=50):Z4 d=true:=by have hd:=h.nod hn;unfold Z4;rw[hd.sh,hd.nd];have h1:=hd.ln;have h2:=h.ct;have h3:=h.dp;simp;constructor <;> omega
def Gd.shaped (h:Gd n N k d)(hn:n<=100)(hk:k<=50):PySem.SeqAt.shaped d=true:=by unfold PySem.SeqAt.shaped;rw[(h.nod hn).cl];have h3:=h.dp;simp;omega
def vc {b:Bool}:Gd n 1 0 (.bool b):=⟨trivial,by simp[My.depth],by simp[cnt]⟩
def iH {i:Int}(h:i.natAbs<10 ^ 300+n):Gd n 1 0 (.int i):=⟨h,by simp[My.depth],by simp[cnt]⟩
end
def cJ {i:Int}{n:Nat}(h:i.natAbs<=100000000000000000000000000000000000000000):i.natAbs<10 ^ 300+n:=by
 have h1:(10:Nat) ^ 42<=10 ^ 300:=Jq (by decide) (by decide);have h2:100000000000000000000000000000000000000000<(10:Nat) ^ 42:=by decide
 generalize (10:Nat) ^ 300=A at *;omega
end
section
variable [Fam]
section
variable {ds es:List My}{i j:Int}{x y:Str}{b c:Bool}{d:My}{T:String}
def C7 :K0 (.int i) (.int j)=some (.int<|i+j):=rfl
def W2 :fS (.int i) (.int j)=some (.int<|i-j):=rfl
def eP :gtD (.int i) (.int j)=some (.bool<|decide (j<i)):=rfl
def oz :ltD (.int i) (.int j)=some (.bool<|decide (i<j)):=rfl
def xK :leD (.int i) (.int j)=some (.bool<|decide (i<=j)):=rfl
def fw :ig [.tuple ds]=some (.int ds.length):=rfl
def aJ :T7 [.list ds]=some (.tuple ds):=rfl
def fE :bM T d=some (.bool<|isT (tyD d) T):=rfl
def D7 :cR (.tuple ds)=some ds:=rfl
def M3 :cR (.list ds)=some ds:=rfl
end
end
section
variable [Fam]
def lp :isT "int" "bool" = false:=by decide +kernel
def pA :isT "int" "int" = true:=by decide +kernel
def T5 :isT "tuple" "tuple" = true:=by decide +kernel
section
variable {s N k:Nat}
end
end
section
variable [Fam]
def sz {n:Nat}(h:n<=100000):n<=Os:=IV h (by rw[Jr];decide)
end
section
variable [Fam]
end
section
variable [Fam]
def E9 {bd:My->DE->Option DE}{body:DE->M Out}{Q:Out->FdS->Prop}(I:Nat->DE->FdS->Prop):∀(items:List My) (n:Nat) (E:DE) (F:FdS),I n E F ->
  (∀i d,items[i]? = some d->∀E F,I (n+i) E F->∃E1,bd d E=some E1/\wp (body E1 F) λo F'=>∃E2,o = .nx E2/\I (n+i+1) E2 F')->(∀E F,I (n+items.length) E F->Q (.nx E) F)->wp (R9 bd body items E F) Q
 | [],n,E,F,h,_,hq=>d6.2<|hq E F h
 | d::r,n,E,F,h,st,hq=>by
  obtain⟨E1,e1,h1⟩:=st 0 d rfl E F h;rw[R9,e1,Jd,c8];refine l5 h1 λo F1 ⟨E2,e2,h2⟩=>?_
  subst e2;refine E9 I r (n+1) E2 F1 h2 (λi d e E F hI=>?_) (λE F hI=>hq E F (by rw[IK];rw[show n+(r.length+1)=n+1+r.length by omega];exact hI));have:=st (i+1) d (by simpa using e) E F (by rw[show n+(i+1)=n+1+i by omega];exact hI);rw[show n+(i+1)+1=n+1+i+1 by omega]at this;exact this
def nK {lo:Int}{n:Nat}:(gc lo n).length=n:=by simp[gc]
def W5 {i j:Int}(h1:i.natAbs<R1)(h2:j.natAbs<R1):m5 (.int i) (.int j)=some (.int<|i*j):=IE<|.inr ⟨h1,h2⟩
def rn {i j:Int}(h1:j≠0)(h2:j.natAbs<2 ^ 9000):dS (.int i) (.int j)=some (.int<|i.fdiv j):=IE ⟨h1,h2⟩
def oG {i j:Int}(h1:0<j)(h2:j.natAbs<2 ^ 9000):dS (.int i) (.int j)=some (.int<|i / j):=by rw[rn (by omega) h2,NH i<|by omega]
def ym {i j:Int}(h1:0<j):wd (.int i) (.int j)=some (.int<|i % j):=IE h1
end
section
variable [Fam]
section
variable {F:FdS}{Q:My->FdS->Prop}{n:Nat}
theorem lg {me:DE->M My}{f:My->My}{rest:DE}{Q:List My->FdS->Prop}:∀(ds:List My) (o:Option DV),(∀d∈ds,∀(F:FdS) (Q:My->FdS->Prop),Q (f d) F->wp (me (some (.dat d)::rest) F) Q)->Q (ds.map f) F->wp (P2 (bN 0) C6 me ds (o::rest) F) Q
 | [],o,_,q=>d6.2 q
 | d::ds,o,h,q=>by rw[P2];have e:bN 0 d (o::rest)=some (some (.dat d)::rest):=rfl;rw[e,Jd,c8];refine Z3.2 ?_;rw[IE rfl,c8];refine h d IG F _ ?_;rw[c8];exact lg ds _ (λd hd=>h d<|IA _ hd)<|d6.2 q
def lN {mt:DE->M Bool}{me:DE->M My}{g:My->Bool}{f:My->My}{rest:DE}{Q:List My->FdS->Prop}:∀(ds:List My) (o:Option DV),(∀d∈ds,∀(F:FdS) (Q:Bool->FdS->Prop),Q (g d) F->wp (mt (some (.dat d)::rest) F) Q) ->
  (∀d∈ds,g d=true->∀(F:FdS) (Q:My->FdS->Prop),Q (f d) F->wp (me (some (.dat d)::rest) F) Q)->Q ((ds.filter g).map f) F->wp (P2 (bN 0) mt me ds (o::rest) F) Q
 | [],o,_,_,q=>d6.2 q
 | d::ds,o,ht,h,q=>by
  rw[P2];have e:bN 0 d (o::rest)=some (some (.dat d)::rest):=rfl;rw[e,Jd,c8];refine ht d IG F _ ?_;cases c:g d with
  | false =>rw[List.filter_cons_of_neg (by rw[c];simp)]at q;rw[II<|by simp];exact lN ds _ (λd hd=>ht d<|IA _ hd) (λd hd=>h d<|IA _ hd) q
  | true =>rw[List.filter_cons_of_pos c,IJ]at q;rw[IE rfl,c8];refine h d IG c F _ ?_;rw[c8];exact lN ds _ (λd hd=>ht d<|IA _ hd) (λd hd=>h d<|IA _ hd)<|d6.2 q
def sx {d:My}(h:Z4 d=true):bF [d]=some (.str d.shown):=IE h
def Bo {xs ys:List My}(h:xs.length+ys.length<=100000):K0 (.list xs) (.list ys)=some (.list<|xs++ys):=IE<|sz h
def CO {xs ys:List My}(h:xs.length+ys.length<=100000):K0 (.tuple xs) (.tuple ys)=some (.tuple<|xs++ys):=IE<|sz h
def AU {f g:My->My->Option My}{a b c:DE->M My}{E:DE}{F:FdS}{Q:My->FdS->Prop}:wp (sCh f g a b c E F) Q↔wp (a E F) λx F1=>wp (b E F1) λy F2=>oB (f x y) λz=>oB (T4 z) λt=>cIf t (wp (c E F2) λw F3=>oB (g y w) λv=>Q v F3) (Q (.bool false) F2):=by
 unfold sCh;rw[c8];refine G6 λx F1=>?_;rw[c8];refine G6 λy F2=>?_
 simp only[A9,oB];refine exists_congr λz=>and_congr_right λ_=>exists_congr λt=>and_congr_right λ_=>?_
 cases t
 .simp only[Jk,JI,nQ];exact d6
 .simp only[Kl,nY];rw[c8];refine G6 λw F3=>?_;simp only[A9,d6]
end
section
variable {F:FdS}{Q:Out->FdS->Prop}{E:DE}{i:Nat}{ds:List My}
def rY {v:DE->M My}(he:az E i=some ds)(hl:ds.length<=100000)(q:wp (v E F) λx F1=>Q (.nx<|E.set i<|some<|.own<|ds++[x]) F1):wp (mB i v E F) Q:=by
 unfold mB;rw[c8];refine l5 q λx F1 h=>?_
 rw[he,Jd,IE<|Jj hl (by rw[Jr];decide)];exact d6.2 h
def qW {v:DE->M My}(he:az E i=some ds)(q:wp (v E F) λx F1=>∃zs,x = .list zs/\ds.length+zs.length<=100000/\Q (.nx<|E.set i<|some<|.own<|ds++zs) F1):wp (jK i v E F) Q:=by
 unfold jK;rw[c8];refine l5 q λx F1 h=>?_
 obtain⟨zs,rfl,hl,q⟩:=h;rw[he,Jd];dsimp only;rw[IE<|sz hl];exact d6.2 q
def BL {a b:DE->M My}{Q:List My->FdS->Prop}(q:wp (a E F) λx F1=>wp (b E F1) λy F2=>∃xs k,x = .list xs/\y = .int k /\ -(2 ^ 62)<=k/\k<2 ^ 62/\xs.length*k.toNat<=100000/\Q (List.replicate k.toNat xs).flatten F2):wp (vN a b E F) Q:=by
 unfold vN;rw[c8];refine l5 q λx F1 h=>?_
 rw[c8];refine l5 h λy F2 h=>?_
 obtain⟨xs,k,rfl,rfl,h1,h2,hl,q⟩:=h;dsimp only;rw[IE ⟨h1,h2,sz hl⟩];exact d6.2 q
def As {a:DE->M My}{Q:List My->FdS->Prop}(q:wp (a E F) λx F1=>oB (cR x) λds=>Q (O5 0 ds) F1):wp (jV a E F) Q:=by
 unfold jV;rw[c8];refine l5 q λx F1 h=>?_
 obtain⟨ds,e,q⟩:=h;dsimp only;rw[e,Jd];exact d6.2 q
end
end
section
variable [Fam]
def rz {bd:My->DE->Option DE}{me:DE->M My}{Sh:DE->Prop}{P:My->My->Prop}{c:Int}(hc:0<=c):∀(ds:List My) (E:DE) (F:FdS) (Q:List My->FdS->Prop),Sh E ->
  (∀d∈ds,∀E,Sh E->∃E1,bd d E=some E1/\Sh E1/\∀F:FdS,F.t+c<=199999->wp (me E1 F) λy F'=>F'.t<=F.t+c/\P d y)->F.t+c*ds.length<=199999 ->
  (∀zs F',zs.length=ds.length->(∀z∈zs,∃d∈ds,P d z)->F'.t<=F.t+c*ds.length->Q zs F')->wp (P2 bd C6 me ds E F) Q
 | [],E,F,Q,_,_,_,q=>d6.2 (q [] F rfl (λz hz=>by cases hz)<|by simp)
 | d::ds,E,F,Q,hE,st,hF,q=>by
  have e1:c*((d::ds).length:Int)=c*(ds.length:Int)+c:=by rw[IK];push_cast;rw[Oc,Nt]
  have hp:0<=c*(ds.length:Int):=KL hc (by omega);rw[e1]at hF q;obtain⟨E1,eb,h1,h2⟩:=st d IG E hE;rw[P2,eb,Jd,c8];refine Z3.2 ?_;rw[IE rfl,c8];refine l5 (h2 F<|by omega) λy F1 ⟨t1,py⟩=>?_
  rw[c8];refine rz hc ds E1 F1 _ h1 (λd hd=>st d<|IA _ hd) (by omega) λzs F2 hl hz t2=>d6.2 (q _ F2 (by simp[hl]) (λz hm=>?_)<|by omega)
  rcases IP.1 hm with rfl | hm
  .exact⟨d,IG,py⟩
  .obtain⟨d',hd',p'⟩:=hz z hm;exact⟨d',IA _ hd',p'⟩
def rP {me:DE->M My}{P:My->My->Prop}{c:Int}{rest:DE}{F:FdS}{Q:List My->FdS->Prop}(ds:List My)(o:Option DV)(hc:0<=c)
  (st:∀d∈ds,∀F:FdS,F.t+c<=199999->wp (me (some (.dat d)::rest) F) λy F'=>F'.t<=F.t+c/\P d y) (hF:F.t+c*ds.length<=199999)
  (q:∀zs F',zs.length=ds.length->(∀z∈zs,∃d∈ds,P d z)->F'.t<=F.t+c*ds.length->Q zs F'):wp (P2 (bN 0) C6 me ds (o::rest) F) Q :=
 rz (Sh:=λE=>∃o,E=o::rest) hc ds _ F Q ⟨o,rfl⟩ (λd hd E ⟨o,e⟩=>by subst e;exact⟨_,rfl,⟨_,rfl⟩,st d hd⟩) hF q
def Ct {xs:List My}{k:Int}(h:xs.length*k.toNat<=100000)(h1:-(2 ^ 63)<=k)(h2:k<2 ^ 63):m5 (.tuple xs) (.int k)=some (.tuple (List.replicate k.toNat xs).flatten):=by unfold m5;exact IE ⟨h1,h2,sz h⟩
end
end L3
set_option hygiene false
local macro_rules | `(tactic| walk_at "go")=>`(tactic| (repeat first | (with_reducible first | refine L3.h9 ?_ | refine L3.dW ?_ | refine L3.v5 ?_ | refine L3.y9.2 ?_ | refine L3.U9.2 ?_ | refine L3.S9.2 ?_ | refine L3.B5.2 ?_ | refine L3.L5.2 ?_ | refine L3.K7.2 ?_ | refine L3.j8.2 ?_ | refine L3.lh.2 ?_ | refine L3.G3.2 ?_ | refine L3.g8.2 ?_ | refine L3.X2.2 ?_ | refine L3.K1.2 ?_ | refine L3.f9.2 ?_ | refine L3.d4.2 ?_ | refine L3.A7.2 ?_ | refine L3.j5.2 ?_ | refine L3.G4.2 ?_ | refine L3.j6.2 ?_ | refine L3.v6.2 ?_ | refine L3.G7.2 ?_) | ((with_reducible refine L3.D4.2 ?_);try dsimp only[L3.A1,IJ,JG,IK,JB,List.replicate,Ji,Jo,Nat.reduceAdd,Nat.reduceSub]) | ((with_reducible apply L3.X3);exact rfl) | ((with_reducible apply L3.R0);exact rfl) | ((with_reducible apply L3.c7);exact rfl) | ((with_reducible refine And.intro (L3.n8 ?_) ?_);exact rfl) | ((with_reducible refine And.intro (L3.h7 ?_) ?_);exact rfl;try dsimp only[Mp,Mq]) | refine L3.aS rfl ?_ | refine L3.B8 rfl ?_))
namespace L3
open PySem PySem.Spec PyProof.Rows L2
section
variable [Fam]
def uE {c:DE->M Bool}{b:DE->M Out}{Q:Out->FdS->Prop}(I:DE->FdS->Prop)(μ:DE->Nat)
  (st:∀E F,I E F->wp (c E F) λt F1=>cIf t (wp (b E F1) λo F2=>∃E2,o = .nx E2/\I E2 F2 /\ μ E2 < μ E)<|Q (.nx E) F1):∀(n:Nat) (E:DE) (F:FdS),I E F->μ E<n->wp (bf c b n E F) Q
 | 0,E,F,_,h=>absurd h<|LH _
 | n+1,E,F,hI,h=>by
  rw[bf,c8];refine l5 (st E F hI) λt F1 h1=>?_
  cases t with
  | false=>rw[nQ]at h1;rw[II<|by simp];exact d6.2 h1
  | true =>
   rw[nY]at h1;rw[IE rfl,c8];refine l5 h1 λo F2 ⟨E2,e,hI2,hm⟩=>?_
   subst e;exact uE I μ st n E2 F2 hI2 (by omega)
def AK {c:DE->M Bool}{b:DE->M Out}{Q:Out->FdS->Prop}(I:DE->FdS->Prop)(μ:DE->Nat){E:DE}{F:FdS}(h0:I E F)
  (st:∀E F,I E F->wp (c E F) λt F1=>cIf t (wp (b E F1) λo F2=>∃E2,o = .nx E2/\I E2 F2 /\ μ E2 < μ E)<|Q (.nx E) F1):wp (mWh c b E F) Q:=by obtain⟨o,F',e,q⟩:=uE I μ st (μ E+1) E F h0<|Kd _;exact⟨o,F',zr e,q⟩
def gU {i j:Nat}{a:DE->M (List My)}{E:DE}{F:FdS}{Q:Out->FdS->Prop}(q:wp (a E F) λxs F1=>∃x y,xs=[x,y]/\i<E.length/\j<E.length/\Q (.nx<|(E.set i<|some<|.dat x).set j<|some<|.dat y) F1):wp (js i j a E F) Q:=by
 unfold js;rw[c8];refine l5 q λxs F1 h=>?_
 obtain⟨x,y,rfl,h1,h2,q⟩:=h;simp only[bN,h1,Kl,Jd,JH,h2];exact d6.2 q
def BJ {i:Int}:pD [.int i]=some (.int (i.natAbs:Int)):=by show some (My.int<|if i<0 then -i else i)=_;congr 2;split <;> omega
def D9:List DV->M My:=F0 ["one","other"] (mSq (js 0 1<|d5 (sN pD<|d5 (sW 0) j9)<|d5 (sN pD<|d5 (sW 1) j9) j9)
  (mSq (mWh (uB<|s2 gtD (sW 1)<|sC<|.int 0)<|js 0 1<|d5 (sV 1)<|d5 (s2 wd (sW 0)<|sW 1) j9)
  (mRt<|sV 0)))
def Ba {a b:Int}{F:FdS}{Q:My->FdS->Prop}(q:Q (.int (Int.gcd a b:Nat)) F):wp (D9 [.dat<|.int a,.dat<|.int b] F) Q:=by
 unfold D9;walk_at "go";refine gU ?_;walk_at "go";have hab:∀z:Int,(if z<0 then -z else z)=(z.natAbs:Int):=λz=>by split <;> omega
 rw[hab a,hab b];refine⟨_,_,rfl,h7 rfl,h7 rfl,h9 ?_⟩;walk_at "go";refine AK (λE F'=>F'=F/\∃x y:Nat,E=[some<|.dat<|.int x,some<|.dat<|.int y]/\Nat.gcd x y=Int.gcd a b) (λE=>match E with
  | [_,some<|.dat<|.int y]=>y.natAbs
  | _=>0) ⟨rfl,a.natAbs,b.natAbs,rfl,rfl⟩ ?_
 rintro E F1 ⟨rfl,x,y,rfl,hg⟩;walk_at "go";refine S4 (λe=>?_) (λe=>?_)
 .have hy:(0:Int)<y:=Jg e;refine gU ?_;walk_at "go";refine c7 (ym hy) ?_;walk_at "go";refine⟨_,_,rfl,h7 rfl,h7 rfl,_,rfl,⟨rfl,y,x % y,rfl,?_⟩,?_⟩
  .rw[<-hg,NS x y,Nat.gcd_rec y x,NS]
  .show((x:Int) % (y:Int)).natAbs<(y:Int).natAbs;have h1:=Nl (x:Int) (b:=(y:Int)) (by omega);have h2:=Mr (x:Int) hy;omega
 .have hy:y=0:=by have:=JQ e;omega
  subst hy;refine h9 ?_;walk_at "go";rw[Nat.gcd_zero_right]at hg;rw[hg];exact q
def zA {i j:Int}:eqD false (.int i) (.int j)=some (.bool<|decide (i=j)):=by show(if SeqAt.shaped (.int i)=true/\SeqAt.shaped (.int j)=true then _ else none)=_;rw[IE (show SeqAt.shaped (.int i)=true/\SeqAt.shaped (.int j)=true from⟨by simp[SeqAt.shaped,My.canLay0,My.depth],by simp[SeqAt.shaped,My.canLay0,My.depth]⟩),II<|show ¬(false=true) by decide];refine JX (λb=>some<|My.bool b) ?_;simp only[My.eqv];exact Bool.beq_eq_decide_eq ..
def wA {i j:Int}:eqD true (.int i) (.int j)=some (.bool (!decide (i=j))):=by show(if SeqAt.shaped (.int i)=true/\SeqAt.shaped (.int j)=true then _ else none)=_;rw[IE (show SeqAt.shaped (.int i)=true/\SeqAt.shaped (.int j)=true from⟨by simp[SeqAt.shaped,My.canLay0,My.depth],by simp[SeqAt.shaped,My.canLay0,My.depth]⟩),IE rfl];refine JX (λb=>some<|My.bool b) ?_;simp only[My.eqv];rw[Bool.beq_eq_decide_eq]
end
section
variable [Fam]
end
section
variable [Fam]
def C2:List DV->M My:=F0 ["top","bottom","divisor"] (mSq (A4 2<|i0 D9<|vD (sV 0)<|vD (sV 1) m9)
  (mSq (mIf (uB<|s2 ltD (sW 1)<|sC<|.int 0) (A4 2<|s1 wJ<|sW 2) mNx)
  (mRt<|K8<|d5 (s2 dS (sW 0)<|sW 2)<|d5 (s2 dS (sW 1)<|sW 2) j9)))
structure Low (i j t b:Int):Prop where
 pos:0<b
 low:Int.gcd t b=1
 as:t*j=i*b
 lt:t.natAbs<=i.natAbs
 lb:b.natAbs<=j.natAbs
def dA {i j:Int}(hj:0<j):Low i j (i / (Int.gcd i j:Int)) (j / (Int.gcd i j:Int)):=by
 have hg:0<Int.gcd i j:=Nr i (by omega);have d1:(Int.gcd i j:Int) ∣ i:=NT ..;have d2:(Int.gcd i j:Int) ∣ j:=MJ ..;refine⟨Int.ediv_pos_of_pos_of_dvd hj (by omega) d2,Int.gcd_ediv_gcd_ediv_gcd hg,?_,Int.natAbs_ediv_le_natAbs ..,Int.natAbs_ediv_le_natAbs ..⟩;have hg0:(Int.gcd i j:Int)≠0:=by omega
 clear hg;generalize (Int.gcd i j:Int)=g at *;obtain⟨x,rfl⟩:=d1;obtain⟨y,rfl⟩:=d2;have hg:=hg0;rw[Int.mul_ediv_cancel_left x hg,Int.mul_ediv_cancel_left y hg,NU g y,<-Int.mul_assoc,NU g x,Int.mul_assoc x g y,NU g y,<-Int.mul_assoc]
def wj {i j:Int}(hj:j<0):Low i j (i / (-(Int.gcd i j:Int))) (j / (-(Int.gcd i j:Int))):=by
 have h:=dA (i:=-i) (j:=-j) (by omega);rw[Int.neg_gcd,Int.gcd_neg]at h;obtain⟨h1,h2,h3,h4,h5⟩:=h;have e1:i / (-(Int.gcd i j:Int)) = -i / (Int.gcd i j:Int):=by rw[Int.ediv_neg,Int.neg_ediv_of_dvd<|NT ..]
 have e2:j / (-(Int.gcd i j:Int)) = -j / (Int.gcd i j:Int):=by rw[Int.ediv_neg,Int.neg_ediv_of_dvd<|MJ ..]
 rw[e1,e2];refine⟨h1,h2,?_,by rw[Int.natAbs_neg]at h4;exact h4,by rw[Int.natAbs_neg]at h5;exact h5⟩;rw[Int.mul_neg,Int.neg_mul]at h3;omega
def aR {i j:Int}{F:FdS}{Q:My->FdS->Prop}(hj:j≠0)(hb:j.natAbs<2 ^ 9000)(q:∀t b,Low i j t b->Q (.tuple [.int t,.int b]) F):wp (C2 [.dat<|.int i,.dat<|.int j] F) Q:=by
 unfold C2;walk_at "go";refine Ba ?_;have hg:0<Int.gcd i j:=Nr i hj;have hgl:Int.gcd i j<=j.natAbs:=NJ (by omega)<|Int.ofNat_dvd_left.1<|MJ ..;refine⟨h7 rfl,h9 ?_⟩;walk_at "go";refine S4 (λe=>?_) (λe=>?_)
 .have hj:j<0:=Jg e;walk_at "go";have hd:(-((Int.gcd i j:Nat):Int)).natAbs<2 ^ 9000:=by rw[Int.natAbs_neg];exact Jj hgl hb
  have h0:-((Int.gcd i j:Nat):Int)≠0:=by omega
  have d1:-((Int.gcd i j:Nat):Int) ∣ i:=Int.neg_dvd.2<|NT ..;have d2:-((Int.gcd i j:Nat):Int) ∣ j:=Int.neg_dvd.2<|MJ ..;refine c7 (rn h0 hd) ?_;walk_at "go";refine c7 (rn h0 hd) ?_;walk_at "go";rw[Int.fdiv_eq_ediv_of_dvd d1,Int.fdiv_eq_ediv_of_dvd d2];exact q _ _<|wj hj
 .have hj:0<j:=by have:=JQ e;omega
  walk_at "go";have hd:((Int.gcd i j:Nat):Int).natAbs<2 ^ 9000:=Jj hgl hb;refine c7 (oG (by omega) hd) ?_;walk_at "go";refine c7 (oG (by omega) hd) ?_;walk_at "go";exact q _ _<|dA hj
end
section
variable [Fam]
def val (B:Int):List Int->Int
 | []=>0
 | x::r=>x+B*val B r
section
variable {B:Int}
theorem eB:∀(xs ys:List Int),val B (xs++ys)=val B xs+B ^ xs.length*val B ys
 | [],ys=>by simp[val]
 | x::xs,ys=>by rw[Ji,val,val,eB xs ys,IK,Int.pow_succ];generalize B ^ xs.length=P;grind
theorem nC:∀(zs:List Int) (k:Nat) (a c:Int),zs[k]? = some a->val B (zs.set k<|a+c)=val B zs+c*B ^ k
 | [],k,a,c,h=>by simp at h
 | z::zs,0,a,c,h=>by
  simp at h;subst h;simp only[Mp,val,Int.pow_zero];omega
 | z::zs,k+1,a,c,h=>by rw[Mq,val,val,nC zs k a c (by simpa using h),Int.pow_succ];generalize B ^ k=P;grind
theorem dG:∀xs:List Int,val 1 xs=xs.sum
 | []=>rfl
 | x::xs=>by rw[val,dG xs,JZ,Int.one_mul]
theorem kI:∀n:Nat,val B (List.replicate n 0)=0
 | 0=>rfl
 | n+1=>by rw[JE,val,kI n];simp
end
theorem jr:∀{xs:List Int},(∀x∈xs,0<=x)->0<=xs.sum/\∀x∈xs,x<=xs.sum
 | [],_=>by simp
 | y::xs,h=>by
  obtain⟨h1,h2⟩:=jr λz hz=>h z<|IA _ hz
  have h3:=h y IG;rw[JZ];refine⟨by omega,λx hx=>?_⟩;rcases IP.1 hx with rfl | hx
  .omega
  .have:=h2 x hx;omega
def bB:Int:=10000000000000000000000000000000000000000000000000000000000000000*1000000000000000000000000000000000000
def md:1000000000<bB:=by decide +kernel
def tw:bB.natAbs<2 ^ 400:=by decide +kernel
def fC {x:Int}(h0:0<=x)(h1:x<bB):x.natAbs<R1:=LN (by omega) (IQ tw<|dM<|by decide)
structure Fl (xs:List Int) (L:Nat) (N S:Int):Prop where
 len:xs.length=L
 one:1<=L
 nn:∀x∈xs,0<=x
 v:val bB xs=N
 s:xs.sum=S
 lo:bB ^ (L-1)<=N
 sp:1<=S
 hi:S<bB
def Fl.dig {xs:List Int}{L:Nat}{N S:Int}(h:Fl xs L N S):∀x∈xs,0<=x/\x<bB:=λx hx=>by have:=(jr h.nn).2 x hx;have:=h.s;have:=h.hi;exact⟨h.nn x hx,by omega⟩
section
variable {F:FdS}{E:DE}
def wQ {Q:Out->FdS->Prop}{f:Int->Int->Int}{i:Nat}{k v:DE->M My}{ns:List Int}(he:az E i=some (ns.map .int))
  (q:wp (k E F) λx F1=>∃(n:Int) (j:Nat) (a:Int),x = .int n/\ixN ns.length n=some j/\ns[j]? = some a/\wp (v E F1) λy F2=>∃b,y = .int b/\Q (.nx<|E.set i<|some<|.own<|(ns.set j<|f a b).map .int) F2):wp (fP f i k v E F) Q:=by
 unfold fP;rw[c8];refine l5 q λx F1 h=>?_
 obtain⟨n,j,a,rfl,e1,e2,h⟩:=h;have e3:(ns.map My.int)[j]? = some (.int a):=by rw[IU,e2];rfl
 have e4:ixN (ns.map My.int).length n=some j:=by rw[Iz];exact e1
 simp only[fk,he,Jd,e4,e3];rw[c8];refine l5 h λy F2 h=>?_
 obtain⟨b,rfl,q⟩:=h;simp only[fk,Jd];rw[List.map_set]at q;exact d6.2 q
end
def xX {n:Nat}{i:Int}(h0:0<=i)(h1:i<n):ixN n i=some i.toNat:=by unfold ixN;rw[IE h0,IE h1]
abbrev fT (xs:List Int):My:=.tuple<|xs.map .int
end
section
variable [Fam]
def zt {i:Int}(h0:-(2 ^ 62)<=i)(h1:i<2 ^ 62):aI [.int i]=some (gc 0 i.toNat):=IE ⟨h0,h1⟩
def ll {n:Nat}(h:n<=100000):aI [.int (n:Nat)]=some (gc 0 n):=by have e:=zt (i:=(n:Int)) (by omega) (by omega);rwa [Jx]at e
def pr (p:Int×Int):My:=.tuple [.int p.1,.int p.2]
theorem V6 {me:DE->M My}{f:Int×Int->My}{rest:DE}{Q:List My->FdS->Prop}:∀(ps:List (Int×Int)) (o o':Option DV) (F:FdS),(∀p∈ps,∀(F:FdS) (Q:My->FdS->Prop),Q (f p) F->wp (me (some (.dat<|.int p.1)::some (.dat<|.int p.2)::rest) F) Q)->Q (ps.map f) F->wp (P2 (D6 2<|i9 (bN 0)<|i9 (bN 1) E7) C6 me (ps.map pr) (o::o'::rest) F) Q
 | [],o,o',F,_,q=>d6.2 q
 | p::ps,o,o',F,h,q=>by rw[IJ,P2];have e:D6 2 (i9 (bN 0)<|i9 (bN 1) E7) (pr p) (o::o'::rest)=some (some (.dat<|.int p.1)::some (.dat<|.int p.2)::rest):=rfl;rw[e,Jd,c8];refine Z3.2 ?_;rw[IE rfl,c8];refine h p IG F _ ?_;rw[c8];exact V6 ps _ _ F (λp hp=>h p<|IA _ hp)<|d6.2 q
theorem bE:∀ns:List Int,T3 (ns.map .int)=some ns
 | []=>rfl
 | n::ns=>by rw[IJ,T3,bE ns];rfl
def cH {ns:List Int}:Q9 [.list<|ns.map .int]=some (.int ns.sum):=by simp only[Q9,bE,Nh]
def yy {ns:List Int}:Q9 [.tuple<|ns.map .int]=some (.int ns.sum):=by simp only[Q9,bE,Nh]
def O2 (ps:List (Int×Int)):Int:=(ps.map λp=>p.1*p.2).sum
def eu (ps:List (Int×Int)):Int:=(ps.map λp=>p.2).sum
def ao:List DV->M My:=F0 ["pairs","weighed"] (mSq (A4 1<|sN Q9<|d5 (sLC (C9<|sW 0) 2 [] (D6 2<|i9 (bN 0)<|i9 (bN 1) E7) C6<|s2 m5 (sW 0)<|sW 1) j9)
  (mRt<|i0 C2<|vD (sV 1)<|vD (sN Q9<|d5 (sLC (C9<|sW 0) 2 [] (D6 2<|i9 (bN 0)<|i9 (bN 1) E7) C6<|sV 1) j9) m9))
def sL {ps:List (Int×Int)}{F:FdS}{Q:My->FdS->Prop}(hl:ps.length<=1000)(h:∀p∈ps,p.1.natAbs<R1/\p.2.natAbs<R1)(hp:1<=eu ps)(hb:(eu ps).natAbs<2 ^ 9000)(q:∀t b,Low (O2 ps) (eu ps) t b->Q (.tuple [.int t,.int b]) F):wp (ao [.dat<|.list<|ps.map pr] F) Q:=by
 have e1:(ps.map λp=>My.int<|p.1*p.2)=(ps.map λp=>p.1*p.2).map .int:=by rw[Jn];rfl
 have e2:(ps.map λp=>My.int p.2)=(ps.map λp=>p.2).map .int:=by rw[Jn];rfl
 unfold ao;walk_at "go";refine⟨sz (by rw[Iz];omega),?_⟩;refine V6 (f:=λp=>.int<|p.1*p.2) ps none none F (λp hp F Q q=>?_) ?_
 .walk_at "go";refine c7 (W5 (h p hp).1 (h p hp).2) q
 .rw[e1];refine f9.2<|c7 cH ?_;walk_at "go";refine⟨sz (by rw[Iz];omega),?_⟩;refine V6 (f:=λp=>.int p.2) ps none none F (λp hp F Q q=>?_) ?_
  .walk_at "go";exact q
  .rw[e2];refine f9.2<|c7 cH ?_;walk_at "go";exact aR (by have:(1:Int)<=eu ps:=hp;intro z;have z:eu ps=0:=z;omega) hb q
def en:Nat->List Int->List (Int×Int)
 | _,[]=>[]
 | k,x::r=>((k:Nat),x)::en (k+1) r
theorem rH:∀(k:Nat) (xs:List Int),(en k xs).length=xs.length
 | _,[]=>rfl
 | k,x::r=>by rw[en,IK,IK,rH]
theorem jG:∀(k:Nat) (xs:List Int),O5 k (xs.map .int)=(en k xs).map pr
 | _,[]=>rfl
 | k,x::r=>by rw[IJ,O5,en,IJ,jG];rfl
theorem my:∀{k:Nat} {xs:List Int} {p:Int×Int},p∈en k xs->p.2∈xs/\0<=p.1/\p.1<=k+xs.length
 | _,[],p,h=>by simp[en]at h
 | k,x::r,p,h=>by
  rw[en]at h;rcases IP.1 h with rfl | h
  .exact⟨IG,by simp,by simp only[IK];omega⟩
  .obtain⟨h1,h2,h3⟩:=my h;exact⟨IA _ h1,h2,by rw[IK];omega⟩
theorem yz:∀(k:Nat) (xs:List Int),eu (en k xs)=xs.sum
 | _,[]=>rfl
 | k,x::r=>by have:=yz (k+1) r;simp only[eu,en,IJ,JZ] at *;omega
def eV:List DV->M My:=F0 ["flow"]<|mRt<|i0 ao<|vD (wx<|sV 0) m9
def ze {m:DE->M My}{E:DE}{F:FdS}{Q:My->FdS->Prop}(q:wp (m E F) λx F1=>oB (cR x) λds=>ds.length<=1000/\Q (.list<|O5 0 ds) F1):wp (wx m E F) Q:=by
 unfold wx;rw[c8];refine l5 q λx F1 h=>?_
 obtain⟨ds,e,h1,h2⟩:=h;dsimp only;rw[e,Jd,IE h1];exact d6.2 h2
def Fl.big {xs:List Int}{L:Nat}{N S:Int}(h:Fl xs L N S)(hL:L<=1000):∀p∈en 0 xs,p.1.natAbs<R1/\p.2.natAbs<R1:=λp hp=>by obtain⟨h1,h2,h3⟩:=my hp;have:=h.len;exact⟨fC h2 (by have:=md;omega),fC (h.dig _ h1).1 (h.dig _ h1).2⟩
def Fl.s9 {xs:List Int}{L:Nat}{N S:Int}(h:Fl xs L N S):S.natAbs<2 ^ 9000:=by have h1:=h.sp;have h2:=h.hi;exact LN (by omega) (IQ tw<|Jq (by decide)<|by decide)
def rB {xs:List Int}{L:Nat}{N S:Int}{F:FdS}{Q:My->FdS->Prop}(h:Fl xs L N S)(hL:L<=1000)(q:∀t b,Low (O2<|en 0 xs) S t b->Q (.tuple [.int t,.int b]) F):wp (eV [.dat<|fT xs] F) Q:=by
 have hl:=h.len;have es:eu (en 0 xs)=S:=by rw[yz,h.s]
 unfold eV;walk_at "go";refine ze ?_;walk_at "go";refine⟨by rw[Iz];omega,?_⟩;rw[jG];walk_at "go";refine sL (by rw[rH];omega) (h.big hL) (by rw[es];exact h.sp) (by rw[es];exact h.s9) ?_;rw[es];intro t b hb;walk_at "go";exact q t b hb
def dN:List DV->M My:=F0 ["flow"]<|mRt<|sN Q9<|d5 (sW 0) j9
def nW {xs:List Int}{F:FdS}{Q:My->FdS->Prop}(q:Q (.int xs.sum) F):wp (dN [.dat<|fT xs] F) Q:=by unfold dN;walk_at "go";refine c7 yy ?_;walk_at "go";exact q
def W1:List DV->M My:=F0 ["flow","k"] (mSq (mIf (fj<|uB<|sCh leD ltD (sC<|.int 0) (sW 1)<|sN ig<|d5 (sW 0) j9) (mRt<|sC<|.tuple [.int 0,.int 1]) mNx)
  (mRt<|i0 C2<|vD (s2 ixD (sW 0)<|sW 1)<|vD (i0 dN<|vD (sV 0) m9) m9))
def gH (xs:List Int)(k:Int):Int:=if 0<=k/\k<xs.length then xs.getD k.toNat 0 else 0
def yC {xs:List Int}{k:Int}(h0:0<=k)(h1:k<xs.length):atI (xs.map My.int) k=some (.int<|gH xs k):=by
 unfold atI gH;rw[Iz,xX h0 h1,Jd,IE ⟨h0,h1⟩,IU];have hk:k.toNat<xs.length:=by omega
 simp[IM hk,List.getD]
def vm {xs:List Int}{L:Nat}{N S k:Int}{F:FdS}{Q:My->FdS->Prop}(h:Fl xs L N S)(q:∀t b,Low (gH xs k) S t b->Q (.tuple [.int t,.int b]) F):wp (W1 [.dat<|fT xs,.dat<|.int k] F) Q:=by
 have hsp:=h.sp;have out:¬(0<=k/\k<xs.length)->Q (.tuple [.int 0,.int 1]) F:=λhn=>by
  refine q 0 1 ⟨by decide,by decide,?_,?_,?_⟩
  .unfold gH;rw[II hn];simp
  .simp
  .show 1<=S.natAbs;omega
 unfold W1;refine D4.2<|y9.2<|U9.2<|Y4.2<|K7.2<|AU.2 ?_;walk_at "go";refine S4 (λe1=>?_) (λe1=>?_)
 .have e1:=Jg e1;walk_at "go";rw[Iz];by_cases e2:k<xs.length
  .rw[Je e2];walk_at "go";refine c7 (yC e1 e2) ?_;walk_at "go";refine nW ?_;walk_at "go";rw[h.s];refine aR (by omega) h.s9 λt b hb=>?_
   walk_at "go";exact q t b hb
  .rw[Jf e2];walk_at "go";exact out λz=>e2 z.2
 .have e1:=JQ e1;walk_at "go";exact out λz=>e1 z.1
end
section
variable [Fam]
def qd (q:Rat):My:=.tuple [.int q.num,.int ((q.den:Nat):Int)]
def ip {i j t b:Int}(h:Low i j t b)(hj:0<j):My.tuple [.int t,.int b]=qd (mkRat i j.toNat):=by
 obtain⟨h1,h2,h3,_,_⟩:=h;have nz:b.toNat≠0:=by omega
 have cp:t.natAbs.Coprime b.toNat:=by
  have:b.toNat=b.natAbs:=by omega
  rw[this];exact h2
 have e1:(⟨t,b.toNat,nz,cp⟩:Rat)=mkRat t b.toNat:=by rw[Rat.mk_eq_mkRat]
 have e2:mkRat t b.toNat=mkRat i j.toNat:=by rw[NV nz<|by omega];rw[show((j.toNat:Nat):Int)=j by omega,show((b.toNat:Nat):Int)=b by omega];exact h3
 rw[<-e2,<-e1];unfold qd;simp only;rw[show((b.toNat:Nat):Int)=b by omega]
def rZ {i j:Int}{F:FdS}{Q:My->FdS->Prop}(hj:0<j)(hb:j.natAbs<2 ^ 9000)(q:Q (qd<|mkRat i j.toNat) F):wp (C2 [.dat<|.int i,.dat<|.int j] F) Q :=
 aR (by omega) hb λt b h=>by rw[ip h hj];exact q
def rT {i:Int}{n:Nat}{F:FdS}{Q:My->FdS->Prop}(hj:0<n)(hb:n<2 ^ 9000)(q:Q (qd<|mkRat i n) F):wp (C2 [.dat<|.int i,.dat<|.int (n:Nat)] F) Q :=
 rZ (by omega) (by omega) (by rw[Jx];exact q)
structure Sz (p:Rat):Prop where
 num:p.num.natAbs<2 ^ 4000
 den:p.den<2 ^ 4000
def p4 {n:Nat}(h:n<2 ^ 4000):n<R1:=IQ h (dM<|by decide)
def Sz.dd {p q:Rat}(hp:Sz p)(hq:Sz q):p.den*q.den<2 ^ 9000:=by have:=NW hp.den hq.den;rw[<-MS]at this;exact LN this (Mb (by decide)<|by decide)
def Sz.mul1 {p q:Rat}(hp:Sz p)(hq:Sz q):m5 (.int p.num) (.int ((q.den:Nat):Int))=some (.int<|p.num*((q.den:Nat):Int)):=W5 (p4 hp.num) (p4 (by have:=hq.den;omega))
def Sz.mul2 {p q:Rat}(hp:Sz p)(hq:Sz q):m5 (.int ((p.den:Nat):Int)) (.int ((q.den:Nat):Int))=some (.int (((p.den*q.den:Nat)):Int)):=by rw[Ln];exact W5 (p4 (by have:=hp.den;omega)) (p4 (by have:=hq.den;omega))
def den_pos (p:Rat):0<p.den:=NF p.den_nz
def iJ:List DV->M My:=F0 ["one","other"]<|mRt<|i0 C2<|vD (s2 K0 (s2 m5 (s2 ixD (sW 0)<|sC<|.int 0)<|s2 ixD (sW 1)<|sC<|.int 1)<|s2 m5 (s2 ixD (sW 1)<|sC<|.int 0)<|s2 ixD (sW 0)<|sC<|.int 1)<|vD (s2 m5 (s2 ixD (sW 0)<|sC<|.int 1)<|s2 ixD (sW 1)<|sC<|.int 1) m9
def dI:List DV->M My:=F0 ["one","other"]<|mRt<|i0 C2<|vD (s2 fS (s2 m5 (s2 ixD (sW 0)<|sC<|.int 0)<|s2 ixD (sW 1)<|sC<|.int 1)<|s2 m5 (s2 ixD (sW 1)<|sC<|.int 0)<|s2 ixD (sW 0)<|sC<|.int 1)<|vD (s2 m5 (s2 ixD (sW 0)<|sC<|.int 1)<|s2 ixD (sW 1)<|sC<|.int 1) m9
section
variable {F:FdS}{Q:My->FdS->Prop}{p q:Rat}
def ix0:ixD (qd p) (.int 0)=some (.int p.num):=rfl
def ix1:ixD (qd p) (.int 1)=some (.int ((p.den:Nat):Int)):=rfl
def zd (hp:Sz p)(hq:Sz q)(k:Q (qd<|p+q) F):wp (iJ [.dat<|qd p,.dat<|qd q] F) Q:=by unfold iJ;refine D4.2<|B5.2<|j6.2<|G4.2<|j8.2<|j8.2<|j8.2<|K1.2<|R0 rfl<|g8.2<|c7 ix0<|j8.2<|K1.2<|R0 rfl<|g8.2<|c7 ix1<|c7 (hp.mul1 hq) ?_;refine j8.2<|j8.2<|K1.2<|R0 rfl<|g8.2<|c7 ix0<|j8.2<|K1.2<|R0 rfl<|g8.2<|c7 ix1<|c7 (hq.mul1 hp) ?_;refine c7 C7<|G4.2<|j8.2<|j8.2<|K1.2<|R0 rfl<|g8.2<|c7 ix1<|j8.2<|K1.2<|R0 rfl<|g8.2<|c7 ix1<|c7 (hp.mul2 hq)<|j5.2 ?_;refine rT (KA (den_pos p)<|den_pos q) (hp.dd hq)<|v5 ?_;rw[Rat.add_def,LM]at k;exact k
def uX (hp:Sz p)(hq:Sz q)(k:Q (qd<|p-q) F):wp (dI [.dat<|qd p,.dat<|qd q] F) Q:=by unfold dI;refine D4.2<|B5.2<|j6.2<|G4.2<|j8.2<|j8.2<|j8.2<|K1.2<|R0 rfl<|g8.2<|c7 ix0<|j8.2<|K1.2<|R0 rfl<|g8.2<|c7 ix1<|c7 (hp.mul1 hq) ?_;refine j8.2<|j8.2<|K1.2<|R0 rfl<|g8.2<|c7 ix0<|j8.2<|K1.2<|R0 rfl<|g8.2<|c7 ix1<|c7 (hq.mul1 hp) ?_;refine c7 W2<|G4.2<|j8.2<|j8.2<|K1.2<|R0 rfl<|g8.2<|c7 ix1<|j8.2<|K1.2<|R0 rfl<|g8.2<|c7 ix1<|c7 (hp.mul2 hq)<|j5.2 ?_;refine rT (KA (den_pos p)<|den_pos q) (hp.dd hq)<|v5 ?_;rw[Rat.sub_def,LM]at k;exact k
end
def gk (a:Int){D:Nat}(hD:D≠0):(mkRat a D).den ∣ D/\∀M:Nat,a.natAbs<=M*D->(mkRat a D).num.natAbs<=M*(mkRat a D).den:=by
 rw[<-LM hD,Rat.normalize_eq];have g1:a.natAbs.gcd D ∣ D:=Nat.gcd_dvd_right ..;have g2:a.natAbs.gcd D ∣ a.natAbs:=Nat.gcd_dvd_left ..;have gp:0<a.natAbs.gcd D:=Nat.gcd_pos_of_pos_right _<|NF hD;refine⟨Nat.div_dvd_of_dvd g1,λM h=>?_⟩;show(a / ((a.natAbs.gcd D:Nat):Int)).natAbs<=M*(D / a.natAbs.gcd D);generalize a.natAbs.gcd D=g at *;obtain⟨x,hx⟩:=g1;obtain⟨y,hy⟩:=g2;have e1:D / g=x:=by rw[hx];exact Nat.mul_div_cancel_left x gp
 have e2:(a / (g:Int)).natAbs=y:=by have hd:(g:Int) ∣ a:=Int.ofNat_dvd_left.2 ⟨y,hy⟩;rw[Int.natAbs_ediv_of_dvd hd,hy,Js];exact Nat.mul_div_cancel_left y gp
 rw[e1,e2];rw[hy,hx]at h;have h':g*y<=g*(M*x):=by
  have:M*(g*x)=g*(M*x):=by rw[<-Nat.mul_assoc,NP M g,Nat.mul_assoc]
  omega
 exact Nat.le_of_mul_le_mul_left h' gp
structure Qb (D M:Nat) (p:Rat):Prop where
 den:p.den ∣ D
 num:p.num.natAbs<=M*p.den
def Qb.as {D M:Nat}{p:Rat}(h:Qb D M p)(hD:D≠0):∃a:Int,p=mkRat a D/\a.natAbs<=M*D:=by
 obtain⟨x,hx⟩:=h.den;refine⟨p.num*(x:Int),?_,?_⟩
 .conv=>lhs;rw[<-Mx p]
  rw[NV p.den_nz hD,hx];push_cast;grind
 .rw[Mz,Js,hx];have:=Nat.mul_le_mul_right x h.num;rwa [Nat.mul_assoc]at this
def Qb.of {D M:Nat}{a:Int}(hD:D≠0)(h:a.natAbs<=M*D):Qb D M (mkRat a D):=⟨(gk a hD).1,(gk a hD).2 M h⟩
def Qb.add {D M M':Nat}{p q:Rat}(hp:Qb D M p)(hq:Qb D M' q)(hD:D≠0):Qb D (M+M') (p+q):=by
 obtain⟨a,rfl,ha⟩:=hp.as hD;obtain⟨b,rfl,hb⟩:=hq.as hD;have e:mkRat a D+mkRat b D=mkRat (a+b) D:=by rw[Rat.mkRat_add_mkRat _ _ hD hD,NV (Nat.mul_ne_zero hD hD) hD];push_cast;grind
 rw[e];refine Qb.of hD ?_;rw[Nat.add_mul];omega
def Qb.sz {D M:Nat}{p:Rat}(h:Qb D M p)(hD:D≠0)(h1:D<2 ^ 3000)(h2:M<2 ^ 1000):Sz p:=by
 have hle:=NJ (NF hD) h.den;refine⟨?_,Jj hle<|LN h1<|Mb (by decide)<|by decide⟩;refine Jj h.num ?_;have e:(2:Nat) ^ 4000=2 ^ 1000*2 ^ 3000:=by rw[<-MS]
 rw[e];exact NW h2<|Jj hle h1
end
end L3
namespace Bz
open PySem L2 L3
section
variable [Fam]
def c_added:List DV->M My:=F0 ["parts","told","part"] (mSq (A4 1<|sC<|.tuple [.int 0,.int 1])
  (mSq (W9 (C9<|sV 0) (bN 2)<|A4 1<|i0 iJ<|vD (sV 1)<|vD (sV 2) m9)
  (mRt<|sV 1)))
section
variable {xs:List Int}{L T:Nat}{N:Int}
variable {F:FdS}{Q:My->FdS->Prop}
def cZ (ps:List Rat):Rat:=ps.foldl (· + ·) 0
def pj {ps:List Rat}{p:Rat}:cZ (ps++[p])=cZ ps+p:=by simp[cZ,List.foldl_append]
def ag {ps:List Rat}{i:Nat}{p:Rat}(h:ps[i]? = some p):cZ (ps.take<|i+1)=cZ (ps.take i)+p:=by rw[MK,h,Mt,pj]
def oN {D M:Nat}(hD:D≠0){ps:List Rat}(h:∀p∈ps,Qb D M p):∀i,i<=ps.length->Qb D (i*M) (cZ<|ps.take i):=by
 intro i;induction i with
 | zero=>intro _;exact⟨Nat.one_dvd _,by simp[cZ]⟩
 | succ i ih =>intro hi;have e:=IM (show i<ps.length by omega);rw[ag e,Nat.add_mul,Nat.one_mul];exact(ih<|by omega).add (h _<|JU _) hD
def vT {D M:Nat}{ps:List Rat}(hD:D≠0)(h1:D<2 ^ 3000)(h:∀p∈ps,Qb D M p)(hl:ps.length<=1000)(hM:M<=1000000)(q:Q (qd<|cZ ps) F):wp (c_added [.dat<|.list<|ps.map qd] F) Q:=by
 have big:∀z:Nat,z<=2000000000->z<2 ^ 1000:=λz hz=>Jj hz (IQ (m:=2 ^ 40) (by decide)<|Jq (by decide)<|by decide)
 unfold c_added;refine D4.2<|y9.2<|S9.2<|g8.2 ⟨h7 rfl,h9 ?_⟩;refine y9.2<|L6.2<|v6.2<|X2.2<|X3 rfl<|c7 M3 ?_;refine E9 (λi E F'=>F'=F/\∃(o:Option DV),E=[some<|.dat<|.list<|ps.map qd,some<|.dat<|qd<|cZ<|ps.take i,o]) _ 0 _ F ⟨rfl,none,rfl⟩ ?_ ?_
 .rintro i d hd E F1 ⟨rfl,o,rfl⟩;rw[Jv] at *;rw[IU]at hd;obtain⟨p,hp,rfl⟩:=Ja.1 hd;have hi:=(IH.1 hp).1;have b1:=oN hD h i (by omega);have b2:=h p<|Ju hp;have hiM:i*M<=1000*1000000:=Kq (by omega) hM;refine⟨_,rfl,S9.2<|j6.2<|G4.2<|X2.2<|X3 rfl<|G4.2<|X2.2<|X3 rfl<|j5.2 ?_⟩;refine zd (b1.sz hD h1<|big _<|by omega) (b2.sz hD h1<|big _<|by omega) ⟨h7 rfl,_,rfl,rfl,some<|.dat<|qd p,?_⟩;rw[ag hp];rfl
 .rintro E F1 ⟨rfl,o,rfl⟩;rw[Jv,Iz,Kz];exact B5.2<|X2.2<|X3 rfl<|v5 q
end
def AZ {xs:List Int}{h:Nat}:gH xs (h:Int)=xs.getD h 0:=by
 unfold gH;split
 .rw[Jx]
 .rename_i hn;rw[Jb,Kx<|by omega];rfl
section
variable {xs:List Int}{L T:Nat}{N:Int}{F:FdS}{Q:My->FdS->Prop}
variable {T1:Nat}{N1:Int}
end
section
variable {xs:List Int}{L:Nat}{N S:Int}
end
section
variable {xs:List Int}{L T:Nat}{N:Int}
end
end
section
variable [Fam]
def eqS {x:Str}:eqD true (.str x) (.str x)=some (.bool false):=by show some (My.bool<|if true=true then !decide (x=x) else decide (x=x))=_;simp
def CP {x:Str}:eqD false (.str x) (.str x)=some (.bool true):=by show some (My.bool<|if false=true then !decide (x=x) else decide (x=x))=_;simp
end
section
variable [Fam]
def c_less:List DV->M My:=F0 ["one","other"]<|mRt<|s2 ltD (s2 m5 (s2 ixD (sW 0)<|sC<|.int 0)<|s2 ixD (sW 1)<|sC<|.int 1)<|s2 m5 (s2 ixD (sW 1)<|sC<|.int 0)<|s2 ixD (sW 0)<|sC<|.int 1
def c_word_of:List DV->M My:=F0 ["flow","hands","brought","most"] (mSq (js 2 3<|d5 (i0 eV<|vD (sV 0) m9)<|d5 (K8<|d5 (sV 1)<|d5 (sC<|.int 1) j9) j9)
  (mSq (mIf (uT<|i0 c_less<|vD (sV 2)<|vD (sV 3) m9) (mRt<|sC<|.str "rests") mNx)
  (mSq (mIf (uT<|i0 c_less<|vD (sV 3)<|vD (sV 2) m9) (mRt<|sC<|.str "runs") mNx)
  (mRt<|sIf (uB<|s2 (eqD false) (i0 W1<|vD (sV 0)<|vD (sV 1) m9)<|sC<|.tuple [.int 1,.int 1]) (sC<|.str "still")<|sC<|.str "swings"))))
def uU {xs:List Int}(h:∀x∈xs,0<=x)(k:Nat):0<=xs.getD k 0:=by
 rw[Jb];cases e:xs[k]? with
 | none=>simp
 | some x=>exact h x<|Ju e
def xk {xs:List Int}(h:∀x∈xs,0<=x)(k:Nat):xs.getD k 0<=xs.sum:=by
 rw[Jb];cases e:xs[k]? with
 | none=>exact(jr h).1
 | some x=>exact(jr h).2 x<|Ju e
def eqT {xs ys:List My}(h1:PySem.SeqAt.shaped (.tuple xs)=true)(h2:PySem.SeqAt.shaped (.tuple ys)=true):eqD false (.tuple xs) (.tuple ys)=some (.bool<|My.eqv (.tuple xs)<|.tuple ys):=by unfold eqD;simp[h1,h2]
def eqL {xs ys:List My}(h1:PySem.SeqAt.shaped (.list xs)=true)(h2:PySem.SeqAt.shaped (.list ys)=true):eqD false (.list xs) (.list ys)=some (.bool<|My.eqv (.list xs)<|.list ys):=by unfold eqD;simp[h1,h2]
def ans (xs:List Int)(h:Nat)(S:Int):Str:=if O2 (en 0 xs)<(h:Int)*S then "rests" else if (h:Int)*S<O2 (en 0 xs) then "runs" else if xs.getD h 0=S then "still" else "swings"
section
variable {F:FdS}{Q:My->FdS->Prop}{xs:List Int}{L h:Nat}{N S:Int}
def tU {a b c d:Int}(ha:a.natAbs<R1)(hb:b.natAbs<R1)(hc:c.natAbs<R1)(hd:d.natAbs<R1)(q:Q (.bool<|decide (a*d<c*b)) F):wp (c_less [.dat<|.tuple [.int a,.int b],.dat<|.tuple [.int c,.int d]] F) Q:=by unfold c_less;walk_at "go";refine c7 (W5 ha hd) ?_;walk_at "go";refine c7 (W5 hc hb) ?_;walk_at "go";exact q
def rS (hf:Fl xs L N S)(hL:L<=1000):(O2<|en 0 xs).natAbs<R1:=by
 have key:∀{ps:List (Int×Int)},(∀p∈ps,0<=p.1/\p.1<=1000/\0<=p.2)->0<=O2 ps/\O2 ps<=1000*eu ps:=by
  intro ps;induction ps with
  | nil=>intro _;simp[O2,eu]
  | cons p ps ih =>
   intro h;obtain⟨h1,h2⟩:=ih λp hp=>h p<|IA _ hp
   obtain⟨a,b,c⟩:=h p IG;simp only[O2,eu,IJ,JZ] at *;have h3:=Int.mul_le_mul_of_nonneg_right b c;have h4:=KL a c;omega
 have hl:=hf.len;obtain⟨a,b⟩:=key (ps:=en 0 xs) λp hp=>by obtain⟨a,b,c⟩:=my hp;exact⟨b,by omega,hf.nn _ a⟩
 rw[yz,hf.s]at b;refine IQ (m:=2 ^ 500) ?_ (dM<|by decide);have:(1000*bB).natAbs<2 ^ 500:=by decide +kernel
 have:=hf.hi;omega
def wM {t b lot:Int}(hl:Low lot S t b)(hs:1<=S):(t=1/\b=1)↔lot=S:=by
 obtain⟨h1,h2,h3,_,_⟩:=hl;constructor
 .rintro ⟨rfl,rfl⟩;omega
 .intro e;subst e;rw[NU lot b]at h3;have:t=b:=Int.eq_of_mul_eq_mul_right (by omega) h3;subst this;rw[Int.gcd_self]at h2;omega
def lt_iff {t b w:Int}{j:Int}(hl:Low w S t b)(hs:1<=S):(t<j*b↔w<j*S)/\(j*b<t↔j*S<w):=by
 obtain⟨h1,h2,h3,_,_⟩:=hl;have e1:(t-j*b)*S=(w-j*S)*b:=by grind
 have p1:∀x:Int,(x*S<0↔x<0)/\(0<x*S↔0<x):=λx=>by
  refine⟨⟨λz=>?_,λz=>Int.mul_neg_of_neg_of_pos z<|by omega⟩,⟨λz=>?_,λz=>Int.mul_pos z<|by omega⟩⟩
  .rcases NX x 0 with y | y
   .exact y
   .have:=KL y (show 0<=S by omega);omega
  .rcases NX 0 x with y | y
   .exact y
   .have:=KL (show 0 <= -x by omega) (show 0<=S by omega);rw[Int.neg_mul]at this;omega
 have p2:∀x:Int,(x*b<0↔x<0)/\(0<x*b↔0<x):=λx=>by
  refine⟨⟨λz=>?_,λz=>Int.mul_neg_of_neg_of_pos z<|by omega⟩,⟨λz=>?_,λz=>Int.mul_pos z<|by omega⟩⟩
  .rcases NX x 0 with y | y
   .exact y
   .have:=KL y (show 0<=b by omega);omega
  .rcases NX 0 x with y | y
   .exact y
   .have:=KL (show 0 <= -x by omega) (show 0<=b by omega);rw[Int.neg_mul]at this;omega
 have a1:=p1<|t-j*b;have a2:=p2<|w-j*S;rw[e1]at a1;constructor
 .constructor
  .intro z;have:=a2.1.mp (a1.1.mpr<|by omega);omega
  .intro z;have:=a1.1.mp (a2.1.mpr<|by omega);omega
 .constructor
  .intro z;have:=a2.2.mp (a1.2.mpr<|by omega);omega
  .intro z;have:=a1.2.mp (a2.2.mpr<|by omega);omega
def gdi {i:Int}(h:i.natAbs<=bB.natAbs):Gd 0 1 0 (.int i):=iH (Jj h<|by decide +kernel)
def Ay (hf:Fl xs L N S)(hL:L<=1000)(hh:h<=3)(q:Q (.str<|ans xs h S) F):wp (c_word_of [.dat<|fT xs,.dat<|.int (h:Nat)] F) Q:=by
 have hsp:=hf.sp;have hhi:=hf.hi;have hB:=md;unfold c_word_of;refine D4.2<|y9.2<|gU<|d4.2<|j6.2<|G4.2<|X2.2<|X3 rfl<|j5.2 ?_;refine rB hf hL λt b hb=>?_
 have ht:=Jj hb.lt<|rS hf hL;have hb2:=Jj hb.lb (fC (x:=S) (by omega) hhi);have hhb:((h:Nat):Int).natAbs<R1:=fC (by omega) (by omega);have h1b:(1:Int).natAbs<R1:=fC (by decide) (by omega);obtain⟨i1,i2⟩:=lt_iff (j:=(h:Int)) hb hsp;refine d4.2 (A7.2<|d4.2<|X2.2<|X3 rfl<|d4.2<|g8.2<|f9.2 ⟨sz (by simp),f9.2 ⟨_,_,rfl,h7 rfl,h7 rfl,h9 ?_⟩⟩);refine y9.2<|U9.2<|iy.2<|j6.2<|G4.2<|X2.2<|X3 rfl<|G4.2<|X2.2<|X3 rfl<|j5.2 ?_;refine tU ht hb2 hhb h1b ?_;rw[Nt];refine c7 rfl (S4 (λe=>?_)<|λe=>?_)
 .have e:=Jg e;refine B5.2<|g8.2<|dW<|v5 ?_;unfold ans at q;rwa [IE<|i1.1 e]at q
 .have e:=JQ e;refine L5.2<|h9<|y9.2<|U9.2<|iy.2<|j6.2<|G4.2<|X2.2<|X3 rfl<|G4.2<|X2.2<|X3 rfl<|j5.2 ?_;refine tU hhb h1b ht hb2 ?_;rw[Nt];refine c7 rfl (S4 (λe2=>?_)<|λe2=>?_)
  .have e2:=Jg e2;refine B5.2<|g8.2<|dW<|v5 ?_;unfold ans at q;rwa [II<|λz=>e<|i1.2 z,IE<|i2.1 e2]at q
  .have e2:=JQ e2;unfold ans at q;rw[II<|λz=>e<|i1.2 z,II<|λz=>e2<|i2.2 z]at q;refine L5.2<|h9<|B5.2<|ua.2<|K7.2<|j8.2<|j6.2<|G4.2<|X2.2<|X3 rfl<|G4.2<|X2.2<|X3 rfl<|j5.2 ?_;refine vm hf λt' b' hb'=>?_
   rw[AZ]at hb';have io:=wM hb' hsp;have hle:=xk hf.nn h;have hnn:=uU hf.nn h;rw[hf.s]at hle;have l1:=hb'.lt;have l2:=hb'.lb;have sh:PySem.SeqAt.shaped (.tuple [.int t',.int b'])=true:=by
    refine Gd.shaped (n:=0) (N:=3) (k:=1) (Gd.tup (M:=1) (λd hd=>?_)<|by simp[df,cnt]) (by decide) (by decide);simp only[IP,Kc,LK]at hd;rcases hd with rfl | rfl
    .exact gdi (by omega)
    .exact gdi (by omega)
   refine g8.2<|c7 (eqT sh rfl) ?_;have ee:My.eqv (.tuple [.int t',.int b']) (.tuple [.int 1,.int 1])=decide (xs.getD h 0=S):=by
    by_cases z:xs.getD h 0=S
    .obtain⟨z1,z2⟩:=io.2 z;rw[Je z,z1,z2];rfl
    .rw[Jf z];have:¬(t'=1/\b'=1):=λy=>z<|io.1 y
     simp only[My.eqv,My.eqvAll,Bool.and_true];simpa using this
   rw[ee];refine c7 rfl (S4 (λe3=>?_)<|λe3=>?_)
   .rw[IE<|Jg e3]at q;exact g8.2<|v5 q
   .rw[II<|JQ e3]at q;exact g8.2<|v5 q
end
end
section
variable [Fam]
def c_lfrac:List DV->M My:=F0 ["_law_top","_law_bottom","_law_one","_law_other"] (mSq (js 2 3<|d5 (sN pD<|d5 (sW 0) j9)<|d5 (sV 1) j9)
  (mSq (mWh (uB<|s2 gtD (sW 3)<|sC<|.int 0)<|js 2 3<|d5 (sV 3)<|d5 (s2 wd (sW 2)<|sW 3) j9)
  (mRt<|K8<|d5 (s2 dS (sW 0)<|sW 2)<|d5 (s2 dS (sW 1)<|sW 2) j9)))
def c_over:List DV->M My:=F0 ["one","other"]<|mRt<|i0 C2<|vD (s2 m5 (s2 ixD (sW 0)<|sC<|.int 0)<|s2 ixD (sW 1)<|sC<|.int 1)<|vD (s2 m5 (s2 ixD (sW 0)<|sC<|.int 1)<|s2 ixD (sW 1)<|sC<|.int 0) m9
section
variable {F:FdS}{Q:My->FdS->Prop}{p q:Rat}
def zR (hp:Sz p)(hq:Sz q)(h0:0<q)(k:Q (qd<|p / q) F):wp (c_over [.dat<|qd p,.dat<|qd q] F) Q:=by
 have hn:0<q.num:=by have:=(Rat.lt_iff 0 q).1 h0;simpa using this
 have hd:=den_pos p;unfold c_over;refine D4.2<|B5.2<|j6.2<|G4.2<|j8.2<|j8.2<|K1.2<|R0 rfl<|g8.2<|c7 ix0<|j8.2<|K1.2<|R0 rfl<|g8.2<|c7 ix1<|c7 (Sz.mul1 hp hq) ?_;refine G4.2 (j8.2<|j8.2<|K1.2<|R0 rfl<|g8.2<|c7 ix1<|j8.2<|K1.2<|R0 rfl<|g8.2<|c7 ix0<|c7 (W5 (p4 (by have:=hp.den;omega))<|p4 hq.num)<|j5.2 ?_);have hj:0<((p.den:Nat):Int)*q.num:=Int.mul_pos (by omega) hn;refine rZ hj ?_ ?_
 .rw[Mz,Js];have a:=NW hp.den hq.num;rw[<-MS]at a;exact IQ a (Jq (by decide)<|by decide)
 .have e:mkRat (p.num*((q.den:Nat):Int)) (((p.den:Nat):Int)*q.num).toNat=p / q:=by
   have e1:(((p.den:Nat):Int)*q.num).toNat=p.den*q.num.toNat:=by
    have:(((p.den:Nat):Int)*q.num)=((p.den*q.num.toNat:Nat):Int):=by push_cast;rw[Int.toNat_of_nonneg<|by omega]
    rw[this,Jx]
   have hqn:q≠0:=λz=>by rw[z]at h0;exact absurd h0 (by decide)
   rw[e1,La];have ep:p*(p.den:Rat)=(p.num:Rat):=by
    have sf:=Mx p;rw[La]at sf;have hd0:(p.den:Rat)≠0:=by exact_mod_cast p.den_nz
    have tt:=Lh (a:=(p.num:Rat)) hd0;rw[sf]at tt;exact tt
   have eq:q*(q.den:Rat)=(q.num:Rat):=by
    have sf:=Mx q;rw[La]at sf;have hd0:(q.den:Rat)≠0:=by exact_mod_cast q.den_nz
    have tt:=Lh (a:=(q.num:Rat)) hd0;rw[sf]at tt;exact tt
   have en:((q.num.toNat:Nat):Rat)=(q.num:Rat):=by have:((q.num.toNat:Nat):Int)=q.num:=Int.toNat_of_nonneg (by omega);exact_mod_cast JX (λz:Int=>(z:Rat)) this
   push_cast;rw[en];have hpd:(p.den:Rat)≠0:=by exact_mod_cast p.den_nz
   have hqd:(q.den:Rat)≠0:=by exact_mod_cast q.den_nz
   have hqn0:(q.num:Rat)≠0:=by exact_mod_cast (show q.num≠0 by omega)
   have hz:(p.den:Rat)*(q.num:Rat)≠0:=λz=>(Rat.mul_eq_zero.1 z).elim hpd hqn0
   have a1:=Lh (a:=(p.num:Rat)*(q.den:Rat)) hz;have a2:=Lh (a:=p) hqn;have key:((p.num:Rat)*(q.den:Rat) / ((p.den:Rat)*(q.num:Rat))-p / q)*((p.den:Rat)*(q.num:Rat))=0:=by
    generalize hy:p / q=y at *;generalize (p.num:Rat)*(q.den:Rat) / ((p.den:Rat)*(q.num:Rat))=z at *;have:y*((p.den:Rat)*(q.num:Rat))=(p.num:Rat)*(q.den:Rat):=by rw[<-ep,<-eq,<-a2];grind
    grind
   rcases Rat.mul_eq_zero.1 key with z | z
   .grind
   .exact absurd z hz
  rw[e];exact v5 k
end
end
end Bz
namespace L3
open L2
abbrev Pn:=Int×Int×Bool
end L3
namespace L3
open PySem PySem.Spec PyProof.Rows L2
section
abbrev pnD (p:Pn):My:=.tuple [.int p.1,.int p.2.1,.bool p.2.2]
def BQ (l:List Nat):List My:=l.map λi:Nat=>My.int (i:Int)
def wc (n:Nat):gc 0 n=BQ (List.range n):=by unfold gc BQ;exact Lz λi _=>by congr 1;omega
section
variable [Fam]
end
section
variable [Fam]
variable {F:FdS}{Q:My->FdS->Prop}
end
end
section
variable [Fam]
section
variable {F:FdS}{Q:My->FdS->Prop}
end
end
section
variable [Fam]
end
end L3
namespace L3
open L2
section
end
section
abbrev Bt:=List<|Int×Int
def J0 (bt:Bt):Int:=(bt.map λc=>c.2).sum
end
end L3
namespace L3
open PySem PySem.Spec PyProof.Rows L2
section
variable [Fam]
abbrev cmD (c:Int×Int):My:=.tuple [.int c.1,.int c.2]
abbrev b2 :My->DE->Option DE:=D6 2<|i9 (bN 0)<|i9 (bN 1) E7
section
variable {F:FdS}
theorem jy {me:DE->M My}{α:Type}{x y:α->My}{f:α->My}{rest:DE}{Q:List My->FdS->Prop}:∀(ds:List α) (o o':Option DV),(∀d∈ds,∀(F:FdS) (Q:My->FdS->Prop),Q (f d) F->wp (me (some (.dat<|x d)::some (.dat<|y d)::rest) F) Q)->Q (ds.map f) F->wp (P2 b2 C6 me (ds.map λd=>.tuple [x d,y d]) (o::o'::rest) F) Q
 | [],o,o',_,q=>d6.2 q
 | d::ds,o,o',h,q=>by rw[IJ,P2];have e:b2 (.tuple [x d,y d]) (o::o'::rest)=some (some (.dat<|x d)::some (.dat<|y d)::rest):=rfl;rw[e,Jd,c8];refine Z3.2 ?_;rw[IE rfl,c8];refine h d IG F _ ?_;rw[c8];exact jy ds _ _ (λd hd=>h d<|IA _ hd)<|d6.2 q
end
section
variable {F:FdS}{Q:My->FdS->Prop}
end
end
section
variable [Fam]
def Aw {c1 c2:DE->M DV}{E:DE}{F:FdS}{i j:Nat}{Q:Out->FdS->Prop}(h:wp (c1 E F) λx F1=>wp (c2 E F1) λy F2=>(i<E.length/\j<E.length)/\Q (.nx<|(E.set i<|some x).set j<|some y) F2):wp (oA i j c1 c2 E F) Q:=by
 unfold oA;rw[c8];refine l5 h λx F1 h1=>?_
 rw[c8];refine l5 h1 λy F2 h2=>?_
 rw[IE h2.1];exact d6.2 h2.2
def CD {m:DE->M (List My)}{E:DE}{F:FdS}{Q:DV->FdS->Prop}(h:wp (m E F) λx F1=>Q (.own x) F1):wp (cO m E F) Q:=by unfold cO;rw[c8];exact l5 h λx F1 h1=>d6.2 h1
def Cs {m:DE->M My}{E:DE}{F:FdS}{Q:DV->FdS->Prop}(h:wp (m E F) λx F1=>Q (.dat x) F1):wp (cD m E F) Q:=by unfold cD;rw[c8];exact l5 h λx F1 h1=>d6.2 h1
section
variable {F:FdS}{Q:My->FdS->Prop}
end
end
section
variable [Fam]
abbrev btD (b:Bt):My:=.tuple<|b.map cmD
def wB {n i:Nat}{d:My}{f:Nat->My}(h:((List.range n).map f)[i]? = some d):i<n/\d=f i:=by rw[IU]at h;obtain⟨b,e,rfl⟩:=Ja.1 h;obtain⟨hi,rfl⟩:=IH.1 e;simp only[JW]at hi;exact⟨hi,by simp⟩
section
variable {F:FdS}{Q:My->FdS->Prop}
end
end
section
variable [Fam]
section
variable {F:FdS}{Q:My->FdS->Prop}
end
end
section
variable [Fam]
end
section
variable [Fam]
def Bg {me:DE->M My}{α:Type}{F:FdS}{x:α->My}{f:α->My}{rest:DE}{Q:List My->FdS->Prop}:∀(ds:List α) (o:Option DV),(∀d∈ds,∀(F:FdS) (Q:My->FdS->Prop),Q (f d) F->wp (me (some (.dat<|x d)::rest) F) Q)->Q (ds.map f) F->wp (P2 (bN 0) C6 me (ds.map x) (o::rest) F) Q:=λds o h q=>by
 have key:∀(l:List α) (o:Option DV) (Q:List My->FdS->Prop),(∀d∈l,d∈ds)->Q (l.map f) F->wp (P2 (bN 0) C6 me (l.map x) (o::rest) F) Q:=by
  intro l;induction l with
  | nil=>intro o Q _ q;exact d6.2 q
  | cons d l ih =>intro o Q hs q;rw[IJ,P2];have e:bN 0 (x d) (o::rest)=some (some (.dat<|x d)::rest):=rfl;rw[e,Jd,c8];refine Z3.2 ?_;rw[IE rfl,c8];refine h d (hs d IG) F _ ?_;rw[c8];exact ih _ _ (λz hz=>hs z<|IA _ hz)<|d6.2 q
 exact key ds o Q (λd hd=>hd) q
end
section
structure Sto {α:Type} (lt:α->α->Bool):Prop where
 irr:∀a,lt a a=false
 tr:∀a b c,lt a b=true->lt b c=true->lt a c=true
 tot:∀a b,a≠b->lt a b=true\/lt b a=true
def Sto.as {α:Type}{lt:α->α->Bool}(h:Sto lt){a b:α}(h1:lt a b=true):lt b a=false:=by
 cases e:lt b a
 .rfl
 .have:=h.tr a b a h1 e;rw[h.irr a]at this;cases this
section
variable {α:Type}[DecidableEq α]{lt:α->α->Bool}
def U8 (lt:α->α->Bool):List α->List α->Bool
 | [],[]=>false
 | [],_::_=>true
 | _::_,[]=>false
 | a::l,b::m=>if a=b then U8 lt l m else lt a b
theorem kF (h:Sto lt):∀l:List α,U8 lt l l=false
 | []=>rfl
 | a::l=>by rw[U8,IE rfl];exact kF h l
theorem nU (h:Sto lt):∀l m n:List α,U8 lt l m=true->U8 lt m n=true->U8 lt l n=true
 | [],[],n,h1,h2=>by cases h1
 | [],b::m,[],h1,h2=>by cases h2
 | [],b::m,c::n,h1,h2=>rfl
 | a::l,[],n,h1,h2=>by cases h1
 | a::l,b::m,[],h1,h2=>by cases h2
 | a::l,b::m,c::n,h1,h2=>by
  rw[U8]at h1 h2 ⊢;by_cases e1:a=b
  .subst e1;rw[IE rfl]at h1;by_cases e2:a=c
   .rw[IE e2]at h2 ⊢;exact nU h l m n h1 h2
   .rw[II e2]at h2 ⊢;exact h2
  .rw[II e1]at h1;by_cases e2:b=c
   .subst e2;rw[II e1];exact h1
   .rw[II e2]at h2;have h3:=h.tr a b c h1 h2;rw[II λz=>by subst z;rw[h.irr]at h3;cases h3];exact h3
theorem jF (h:Sto lt):∀l m:List α,l≠m->U8 lt l m=true\/U8 lt m l=true
 | [],[],n=>absurd rfl n
 | [],b::m,_=>.inl rfl
 | a::l,[],_=>.inr rfl
 | a::l,b::m,n=>by
  rw[U8,U8];by_cases e:a=b
  .rw[IE e,IE e.symm];exact jF h l m λz=>n (by rw[e,z])
  .rw[II e,II λz=>e z.symm];exact h.tot a b e
def sy (h:Sto lt):Sto (U8 lt):=⟨kF h,nU h,jF h⟩
theorem qG {p q:α->Bool}(h:∀x,p x=true->q x=true):∀l:List α,(l.filter p).length<=(l.filter q).length
 | []=>IT _
 | a::l=>by
  have ih:=qG h l;rw[MZ,MZ];by_cases hp:p a=true
  .rw[IE hp,IE<|h a hp,IK,IK];omega
  .rw[II hp];split
   .rw[IK];omega
   .exact ih
theorem tG {p q:α->Bool}(h:∀x,p x=true->q x=true){x:α}(h1:p x=false)(h2:q x=true):∀{l:List α},x∈l->(l.filter p).length<(l.filter q).length
 | [],hm=>by cases hm
 | a::l,hm=>by
  rw[MZ,MZ];rcases IP.1 hm with rfl | hm
  .have:=qG h l;rw[II (by rw[h1];decide),IE h2,IK];omega
  .have ih:=tG h h1 h2 hm;by_cases hp:p a=true
   .rw[IE hp,IE<|h a hp,IK,IK];omega
   .rw[II hp];split
    .rw[IK];omega
    .exact ih
def om (lt:α->α->Bool)(l:List α)(i:Nat):Int:=match l[i]? with
 | some a=>((l.filter λb=>lt b a).length:Nat)
 | none=>0
def wy (h:Sto lt){l:List α}(nd:l.Nodup){i j:Nat}{a b:α}(hij:i≠j)(ea:l[i]? = some a)(eb:l[j]? = some b):lt a b=decide (om lt l i<om lt l j):=by
 have hne:a≠b:=λz=>by subst z;obtain⟨h1,h2⟩:=IH.1 ea;obtain⟨h3,h4⟩:=IH.1 eb;exact hij<|(List.getElem_inj nd).1<|h2.trans h4.symm
 have ma:a∈l:=Ju ea;have mb:b∈l:=Ju eb;unfold om;rw[ea,eb];have key:∀{a b:α},a∈l->lt a b=true->(l.filter λc=>lt c a).length<(l.filter λc=>lt c b).length:=λ{a b} ha hab=>tG (λc hc=>h.tr c a b hc hab) (h.irr a) hab ha
 dsimp only;rcases h.tot a b hne with hab | hba
 .have:=key ma hab;rw[hab,Je<|by omega]
 .have:=key mb hba;rw[h.as hba,Jf<|by omega]
def pL (lt:α->α->Bool)(d:α):List α->List α
 | []=>[d]
 | e::r=>if lt e d=true then e::pL lt d r else d::e::r
def oO (lt:α->α->Bool):List α->List α
 | []=>[]
 | d::r=>pL lt d<|oO lt r
theorem gK (lt:α->α->Bool)(d:α):∀l:List α,(pL lt d l).Perm (d::l)
 | []=>.refl _
 | e::r=>by
  rw[pL];split
  .exact((gK lt d r).cons e).trans<|.swap d e r
  .exact .refl _
theorem eX (lt:α->α->Bool):∀l:List α,(oO lt l).Perm l
 | []=>.refl _
 | d::r=>(gK lt d _).trans<|(eX lt r).cons d
variable {x:α->My}
structure Itm (x:α->My) (lt:α->α->Bool):Prop where
 eq:∀a b,My.eqv (x a) (x b)=decide (a=b)
 lt:∀a b,a≠b->ltW (x a) (x b)=some (lt a b)
theorem iM (h:Itm x lt):∀l m:List α,ltM (l.map x) (m.map x)=some (U8 lt l m)
 | [],[]=>rfl
 | [],b::m=>rfl
 | a::l,[]=>rfl
 | a::l,b::m=>by
  rw[IJ,IJ,ltM,h.eq,U8];by_cases e:a=b
  .rw[IE<|Je e,IE e];exact iM h l m
  .rw[II (by rw[Jf e];decide),II e];exact h.lt a b e
abbrev rwD (x:α->My)(l:List α):My:=.tuple<|l.map x
theorem ke (h:Itm x lt)(d:List α):∀l:List (List α),pz (d.map x) (l.map (·.map x))=(pL (U8 lt) d l).map (·.map x)
 | []=>rfl
 | e::r=>by
  rw[IJ,pz,pL,iM h];by_cases z:U8 lt e d=true
  .rw[IE (by rw[z]),IE z,IJ,ke h d r]
  .rw[II (by simpa using z),II z];rfl
theorem gu (h:Itm x lt):∀l:List (List α),cV (l.map (·.map x))=(oO (U8 lt) l).map (·.map x)
 | []=>rfl
 | d::r=>by rw[IJ,cV,gu h r,ke h];rfl
def pQ (h:Itm x lt)(ho:Sto lt){as:List (List α)}(nd:as.Nodup)(h64:as.length<64)(hg:∀l∈as,cS<|l.map x):Y0 [.list<|as.map<|rwD x]=some (.list<|(oO (U8 lt) as).map<|rwD x):=by
 have e:as.map (rwD x)=(as.map (·.map x)).map My.tuple:=by rw[Jn];rfl
 rw[e,oP (κ:=om (U8 lt) as) ⟨by rw[Iz];exact h64,λd hd=>by obtain⟨l,hl,rfl⟩:=Jm.1 hd;exact hg l hl,λi j di dj hij ei ej=>?_⟩,gu h,Jn]
 .rfl
 .rw[IU]at ei ej;obtain⟨a,ea,rfl⟩:=Ja.1 ei;obtain⟨b,eb,rfl⟩:=Ja.1 ej;rw[iM h,wy (sy ho) nd hij ea eb]
def fR {β:Type}(l:List (List α × β))(a:List α)(v:β):List (List α × β):=if a∈l.map (·.1) then l.map (λp=>if p.1=a then(p.1,v) else p) else l++[(a,v)]
def bx {β:Type}(l:List (List α × β))(a:List α):Option β:=(l.find? λp=>decide (p.1=a)).map (·.2)
structure Kys (x:α->My):Prop where
 is:∀l:List α,(P0 0<|rwD x l).isSome=true
 inj:∀l m:List α,P0 0 (rwD x l)=P0 0 (rwD x m)↔l=m
abbrev kvD {β:Type}(x:α->My)(y:β->My)(p:List α × β):My×My:=(rwD x p.1,y p.2)
theorem jh {β:Type}{y:β->My}(h:Kys x)(a:List α):∀l:List (List α × β),R5 0 (l.map<|kvD x y) (rwD x a)=(bx l a).map y
 | []=>rfl
 | p::l=>by
  have ih:=jh (y:=y) h a l;unfold R5 bx at ih ⊢;rw[IJ];by_cases z:p.1=a
  .rw[Kn (p:=λp:My×My=>decide (P0 0 p.1=P0 0 (rwD x a)))<|Je<|(h.inj _ _).2 z,Kn (p:=λp:List α × β=>decide (p.1=a))<|Je z];rfl
  .rw[Ko (p:=λp:My×My=>decide (P0 0 p.1=P0 0 (rwD x a)))<|λq=>z<|(h.inj _ _).1<|Jg q,Ko (p:=λp:List α × β=>decide (p.1=a))<|λq=>z<|Jg q];exact ih
theorem aW {β:Type}{a:List α}:∀{l:List (List α × β)},(bx l a).isSome=true↔a∈l.map (·.1)
 | []=>by simp[bx]
 | p::l=>by
  have ih:=aW (a:=a) (l:=l);unfold bx at ih ⊢;by_cases z:p.1=a
  .rw[Kn (p:=λp:List α × β=>decide (p.1=a))<|Je z];simp[z]
  .rw[Ko (p:=λp:List α × β=>decide (p.1=a))<|λq=>z<|Jg q,ih,IJ,IP];exact⟨.inr,λq=>q.resolve_left λe=>z e.symm⟩
def vx {β:Type}{y:β->My}(h:Kys x)(a:List α)(v:β)(l:List (List α × β)):ar 0 (l.map<|kvD x y) (rwD x a) (y v)=(fR l a v).map (kvD x y):=by
 unfold ar fR;rw[jh h];by_cases z:a∈l.map (·.1)
 .have:=aW.2 z;rw[IE (by rw[NM];exact this),IE z,Jn,Jn];refine Lz λp _=>?_
  by_cases q:p.1=a
  .simp only[Function.comp];rw[IE<|(h.inj _ _).2 q,IE q]
  .simp only[Function.comp];rw[II λw=>q<|(h.inj _ _).1 w,II q]
 .have:¬(bx l a).isSome=true:=λw=>z<|aW.1 w
  rw[II (by rw[NM];exact this),II z,Kt];rfl
def pS {β:Type}{a:List α}{v:β}{l:List (List α × β)}(nd:(l.map (·.1)).Nodup):((fR l a v).map (·.1)).Nodup/\(fR l a v).length<=l.length+1:=by
 unfold fR;split
 .rename_i z;refine⟨?_,by rw[Iz];omega⟩;have e:(l.map λp=>if p.1=a then(p.1,v) else p).map (·.1)=l.map (·.1):=by
   rw[Jn];refine Lz λp _=>?_
   simp only[Function.comp];split <;> rfl
  rw[e];exact nd
 .rename_i z;refine⟨?_,by rw[JJ];exact IT _⟩;rw[Kt,List.nodup_append];exact⟨nd,by simp,λb hb c hc e=>z (by simp at hc;rw[<-hc,<-e];exact hb)⟩
def qJ {β:Type}{P:List α × β->Prop}{a:List α}{v:β}{l:List (List α × β)}(h:∀p∈l,P p)(hv:P (a,v)):∀p∈fR l a v,P p:=λp hp=>by
 unfold fR at hp;split at hp
 .obtain⟨q,hq,rfl⟩:=Jm.1 hp;split
  .rename_i e;rw[e];exact hv
  .exact h q hq
 .rcases LD.1 hp with hp | hp
  .exact h p hp
  .rw[Jy.1 hp];exact hv
theorem gm {β:Type}{a:List α}{v:β}:∀{l:List (List α × β)},bx l a=some v->(a,v)∈l
 | [],h=>by cases h
 | p::l,h=>by
  unfold bx at h;by_cases z:p.1=a
  .rw[Kn (p:=λp:List α × β=>decide (p.1=a))<|Je z]at h;cases h;rw[<-z];exact IG
  .rw[Ko (p:=λp:List α × β=>decide (p.1=a))<|λq=>z<|Jg q]at h;exact IA _<|gm h
theorem nI {β:Type}{a:List α}{v:β}:∀{l:List (List α × β)},(l.map (·.1)).Nodup->(a,v)∈l->bx l a=some v
 | [],_,h=>by cases h
 | p::l,nd,h=>by
  rw[IJ,Lk]at nd;unfold bx;rcases IP.1 h with rfl | h
  .rw[Kn (p:=λp:List α × β=>decide (p.1=a))<|Je rfl];rfl
  .rw[Ko (p:=λp:List α × β=>decide (p.1=a))<|λq=>nd.1 (by rw[Jg q];exact Jm.2 ⟨_,h,rfl⟩)];exact nI nd.2 h
def pH {β:Type}{l:List (List α × β)}(nd:(l.map (·.1)).Nodup){as:List (List α)}(hp:as.Perm (l.map (·.1))):∃rs:List (List α × β),rs.Perm l/\rs.map (·.1)=as/\∀p∈rs,bx l p.1=some p.2:=by
 have hall:∀a∈as,∃v,bx l a=some v:=λa ha=>JS.1<|aW.2<|hp.mem_iff.1 ha
 have key:∀as:List (List α),(∀a∈as,∃v,bx l a=some v)->∃rs:List (List α × β),rs.map (·.1)=as/\∀p∈rs,bx l p.1=some p.2:=by
  intro as;induction as with
  | nil=>intro _;exact⟨[],rfl,λp hp=>by cases hp⟩
  | cons a as ih =>
   intro h;obtain⟨rs,e1,e2⟩:=ih λb hb=>h b<|IA _ hb
   obtain⟨v,ev⟩:=h a IG;refine⟨(a,v)::rs,by rw[IJ,e1],λp hp=>?_⟩;rcases IP.1 hp with rfl | hp
   .exact ev
   .exact e2 p hp
 obtain⟨rs,e1,e2⟩:=key as hall;refine⟨rs,?_,e1,e2⟩;have nd1:(rs.map (·.1)).Nodup:=by rw[e1];exact hp.nodup_iff.2 nd
 have nR:rs.Nodup:=(List.pairwise_map.1 nd1).imp λh e=>h<|JX _ e
 have nL:l.Nodup:=(List.pairwise_map.1 nd).imp λh e=>h<|JX _ e
 refine(List.perm_ext_iff_of_nodup nR nL).2 λp=>⟨λh=>gm<|e2 p h,λh=>?_⟩
 have:p.1∈rs.map (·.1):=by rw[e1];exact hp.mem_iff.2<|Jm.2 ⟨p,h,rfl⟩
 obtain⟨q,hq,eq⟩:=Jm.1 this;have h1:=e2 q hq;have h2:=nI nd (show(p.1,p.2)∈l from h);rw[eq,h2]at h1;have:q=p:=Prod.ext eq (IS h1).symm;rw[<-this];exact hq
end
def pB (a b:Int×Int):Bool:=if a.1=b.1 then decide (a.2<b.2) else decide (a.1<b.1)
def CG :Sto pB:=by
 refine⟨λa=>?_,λa b c h1 h2=>?_,λa b h=>?_⟩
 .unfold pB;rw[IE rfl];exact Jf (by omega)
 .unfold pB at *;split at h1 <;> split at h2 <;> split <;> simp only[Lo] at * <;> omega
 .unfold pB;by_cases e:a.1=b.1
  .rw[IE e,IE e.symm];have:a.2≠b.2:=λz=>h<|Prod.ext e z
   simp only[Lo];omega
  .rw[II e,II λz=>e z.symm];simp only[Lo];omega
def Ca {a b:Int}:(My.int a).eqv (.int b)=decide (a=b):=by simp[My.eqv];rfl
def Cr :Itm cmD pB:=by
 refine⟨λa b=>?_,λa b h=>?_⟩
 .show(My.tuple _).eqv _=_;simp only[My.eqv,My.eqvAll,Bool.and_true];rw[Mj];simp[Prod.ext_iff]
 .show ltM [.int a.1,.int a.2] [.int b.1,.int b.2]=_;unfold pB;rw[ltM,Ca,ltM,Ca];by_cases e:a.1=b.1
  .have e2:a.2≠b.2:=λz=>h<|Prod.ext e z
   rw[IE<|Je e,IE e,II (by rw[Jf e2];decide)];rfl
  .rw[II (by rw[Jf e];decide),II e];rfl
end
section
theorem bQ:∀l:List (Int×Int),aD (l.map cmD)=some (l.map λc=>.inr [.inl c.1,.inl c.2])
 | []=>rfl
 | c::l=>by rw[IJ,aD,bQ l];rfl
def zg :Kys cmD:=by
 have key:∀l:List (Int×Int),P0 0 (rwD cmD l)=aD (l.map cmD):=λl=>rfl
 refine⟨λl=>?_,λl m=>?_⟩
 .rw[key,bQ];rfl
 .rw[key,key,bQ,bQ];refine⟨λh=>?_,λh=>by rw[h]⟩;refine(List.map_inj_right λa b e=>?_).1<|IS h;injection e with e
  injection e with e1 e2
  injection e2 with e2 _
  injection e1 with e1
  injection e2 with e2
  exact Prod.ext e1 e2
variable [Fam]
def zU (l:List (Int×Int)):cS (l.map cmD):=by
 refine⟨?_,?_,λx hx=>?_⟩
 .induction l with
  | nil=>rfl
  | cons c l ih=>rw[IJ];simp only[My.canLayAll0,My.canLay0,ih,Bool.and_self]
 .refine IV ((X5 (k:=2)).2 λd hd=>?_) (by decide);obtain⟨c,_,rfl⟩:=Jm.1 hd;simp[My.depth,My.depthAll]
 .cases l with
  | nil=>cases hx
  | cons c l=>exact⟨_,(IS hx).symm⟩
section
variable {E:DE}{F:FdS}{i c:Nat}
def Az {Q:Out->FdS->Prop}(h:i<E.length)(q:Q (.nx<|E.set i<|some<|.dic true c []) F):wp (jZ i c E F) Q:=by unfold jZ;rw[IE h];exact d6.2 q
def yF {Q:Out->FdS->Prop}{v k:DE->M My}{ps:List (My×My)}(he:bc E i=some (true,c,ps))(q:wp (v E F) λx F1=>wp (k E F1) λy F2=>(P0 c y).isSome=true/\ps.length<=1000/\Q (.nx<|E.set i<|some<|.dic true c<|ar c ps y x) F2):wp (oR i c v k E F) Q:=by
 unfold oR;rw[c8];refine l5 q λx F1 h=>?_
 rw[c8];refine l5 h λy F2 h=>?_
 rw[he,Jd];dsimp only;rw[IE ⟨rfl,rfl,h.1,Jj h.2.1 (by rw[Jr];decide)⟩];exact d6.2 h.2.2
variable {Q:My->FdS->Prop}
def AG {w:Bool}{k:DE->M My}{ps:List (My×My)}(he:bc E i=some (w,c,ps))(q:wp (k E F) λy F1=>(P0 c y).isSome=true/\oB (R5 c ps y) λz=>Q z F1):wp (jN i c k E F) Q:=by
 unfold jN;rw[c8];refine l5 q λy F1 h=>?_
 rw[he,Jd];dsimp only;rw[IE ⟨rfl,h.1⟩];obtain⟨z,e,q⟩:=h.2;rw[e,Jd];exact d6.2 q
def yD {w:Bool}{ps:List (My×My)}(he:bc E i=some (w,c,ps))(q:Q (.list<|ps.map (·.1)) F):wp (kg i c E F) Q:=by unfold kg;rw[he,Jd,IE rfl];exact d6.2 q
end
theorem iX {α:Type}{x:α->My}{P:α->Prop}:∀{ds:List My},(∀d∈ds,∃a,d=x a/\P a)->∃l:List α,ds=l.map x/\∀a∈l,P a
 | [],_=>⟨[],rfl,λ_ z=>by cases z⟩
 | d::ds,h=>by
  obtain⟨l,e,hl⟩:=iX λd hd=>h d<|IA _ hd
  obtain⟨a,ea,ha⟩:=h d IG;refine⟨a::l,by rw[IJ,<-e,<-ea],λb hb=>?_⟩;rcases IP.1 hb with rfl | hb
  .exact ha
  .exact hl b hb
abbrev Kw (α:Type):=List α×Int
abbrev kwD {α:Type}(x:α->My)(p:Kw α):My:=.tuple [rwD x p.1,.int p.2]
abbrev kiD {α:Type}(x:α->My)(p:Kw α):My×My:=kvD x My.int p
section
variable {F:FdS}
def mN {α:Type}[DecidableEq α]{x:α->My}{lt:α->α->Bool}(hi:Itm x lt)(ho:Sto lt)(hk:Kys x)(hg:∀l:List α,cS<|l.map x){l:List (Kw α)}(nd:(l.map (·.1)).Nodup)(h64:l.length<64){E:DE}{i:Nat}{w:Bool}(he:bc E i=some (w,0,l.map<|kiD x)){Q:My->FdS->Prop}
  (q:∀rs:List (Kw α),rs.Perm l->Q (.list<|rs.map<|kwD x) F):wp (sLC (C9<|sN Y0<|d5 (kg i 0) j9) 1 [i] (bN 0) C6 (K8<|d5 (sV 0)<|d5 (jN 1 0<|sV 0) j9) E F) Q:=by
 refine G7.2<|v6.2<|G3.2<|d4.2<|yD he<|f9.2 ?_;have ek:(l.map<|kiD x).map (·.1)=(l.map (·.1)).map (rwD x):=by rw[Jn,Jn];rfl
 rw[ek];refine c7 (pQ hi ho nd (by rw[Iz];exact h64) λl _=>hg l)<|c7 M3 ?_;obtain⟨rs,hp,hf,hv⟩:=pH nd<|eX (U8 lt)<|l.map (·.1);rw[<-hf,Jn];have hl:rs.length<64:=by rw[hp.length_eq];exact h64
 refine⟨sz (by rw[Iz];omega),?_⟩;have hc:dO 1 [i] E=[none,some<|.dic w 0<|l.map<|kiD x]:=by unfold dO;rw[IJ,JG,V9 he];rfl
 rw[hc];refine Bg (x:=λp:Kw α=>rwD x p.1) (f:=kwD x) rs _ (λp hp F Q q=>?_)<|q rs hp;refine A7.2 (d4.2<|X2.2<|X3 rfl<|d4.2<|AG rfl<|X2.2<|X3 rfl ⟨hk.is p.1,c7 (by rw[jh hk,hv p hp];rfl)<|f9.2 ⟨n8 rfl,q⟩⟩)
def cE {n:Nat}(h:n<=100000):aI [.int (n:Int)]=some ((List.range n).map λi=>.int (i:Int)):=by have:=ll (n:=n) h;rw[wc]at this;exact this
end
end
section
def FI (K:Fg)(x:Str)(st:On):Prop:=∃(f:Of) (oc:Oe) (od:Option Of) (kV doc pm:Oe) (an:Option Of) (OP ct:Oe) (osl:Array (Option Oe)),
 PySem.W.nsIn K OA x=some (some<|.ref f)/\K.lookup f=some ⟨oc,od,.func<|PySem.W.fnOf x x (defArgs st) (defBody st) (defScope st) .none kV doc pm an OP ct,osl⟩/\PySem.W.codeIn K OP x=true/\PySem.W.keepIn K (.ref f)=true
variable {P:Oh}{w:Oi}{K:Fg}{mg:Str->Option Oe}{base h:Oq}{x q:Str}{st:On}{f:Of}{fd:Om}{ps:List Str}{k:Nat}{sp:Sp}
def FI.of {oc:Oe}{od:Option Of}{kV doc pm:Oe}{an:Option Of}{OP ct:Oe}{osl:Array (Option Oe)}(a:PySem.W.nsIn K OA x=some (some<|.ref f))(b:K.lookup f=some ⟨oc,od,.func<|PySem.W.fnOf x x (defArgs st) (defBody st) (defScope st) .none kV doc pm an OP ct,osl⟩)
  (c:PySem.W.codeIn K OP x=true) (d:PySem.W.keepIn K (.ref f)=true):FI K x st:=⟨f,oc,od,kV,doc,pm,an,OP,ct,osl,a,b,c,d⟩
def FI.mk (X:K.In h)(G:h.Ns OA mg)(ps:List Str)(F:FI K x st)
  (hb:∀(kV doc pm:Oe) (an:Option Of) (OP ct:Oe) (us:List Oe),us.length=ps.length->bindArgs (PySem.W.fnOf x x (defArgs st) (defBody st) (defScope st) .none kV doc pm an OP ct) ⟨us,[]⟩=pure (ps.zip us)) :
  ∃f fd,Fun K x x st f fd/\mg x=some (.ref f)/\bG K fd ps []/\(∃oc od osl,K.lookup f=some ⟨oc,od,.func fd,osl⟩)/\PySem.W.nsIn K OA x=some (some<|.ref f):=by obtain⟨f,oc,od,kV,doc,pm,an,OP,ct,osl,a,b,c,d⟩:=F;have Fn:=fun_mk b c d;exact⟨f,_,Fn,JY X G a,Fn.binds hb,⟨oc,od,osl,b⟩,a⟩
def cal (P:Oh)(w:Oi)(base:Oq)(F:FnOk P w K mg base CX0 k f fd ps sp)(m:mg x=some (.ref f))(Fn:Fun K x q st f fd)(b:bG K fd ps []):i3 P w K mg base x k ps sp:=⟨f,fd,F,m,Fn.kp,b⟩
end
section
variable [Feeds]{X:Cx}{K:Fg}{e:Oo}{es:List Oo}{p pos q:Pos}
def i8 {x:Str}{k m n:Nat}{ps:List Str}{f:List DV->M My}{tl:TA}{ms:DE->M (List DV)}(C:i3 X.prog X.w X.K X.mg X.base x k ps (spD K n f))(hr:Room m X.A)(ha:Evs K X (e::es) tl ms)(hk:k<=m:=by decide)(hn:∀E F args F',ms E F=some (args,F')->args.length=n:=by repeat (first | exact tW | apply xy | apply CW))(hg:Gl X x:=by rfl)
  (hdb:(x == ("__debug__":Str))=false:=by decide) (he:Ot (e::es) X.env=(false,eval e X.env)::Ot es X.env:=by rfl) (hpl:(Ox pos<|Ot es X.env).any (·.1)=false:=by rfl) :
  Ev K X (.Call (.Name x p) (e::es) [] pos) (bJ (spD K n f) [] E0 tl) (i0 f ms):=vQ C (hr.mono hk) ha hn hg hdb he hpl
def k9 (i:Nat){x:Str}{c:Int}{j}(hK:X.K=K:=by rfl)(hN:X.N[i]? = some x:=by rfl)(hv:Vis X.env.scope x:=by first | exact Or.inl rfl | exact Or.inr (Or.inl rfl) | exact Or.inr<|Or.inr rfl)(hd:(x == ("__debug__":Str))=false:=by decide)
  (hcd:(x == ("__classdict__":Str))=false:=by decide):Ev K X (.Subscript (.Name x p) (.Constant (.int c) j q) pos) (tOp (rD2 K ixD) (Q8 i)<|tC<|.int c) (s2 ixD (sW i)<|sC<|.int c):=W6 (W8 hK) (j4 i hN hv hd hcd) (Ev.bw f8) (by intro _ _;rfl)
abbrev nth (l:List On)(n:Nat):On:=l.getD n<|.Pass ⟨0,0,0,0⟩
end
section
end
section
end
variable {OM:List (Of×Ou)}
section
section
variable {prog:Oh}{w:Oi}{A:Oj}{R:Result->Og->Prop}{I:Of}{fp wr:List Of}{n:Nat}{P:Nat->Oe->Prop}{St:Nat->Oq->Prop}{dv:Oe}
def xM (bt:Nat->Nat->Bool)(P:Nat->Oe->Prop)(dv:Oe)(n:Nat)(v:Oe):Prop:=(n=0/\v=dv)\/(0<n/\P (argBest bt<|n-1) v)
def Ap (bt:Nat->Nat->Bool)(P:Nat->Oe->Prop)(i:Nat)(old:Array Oe):Prop:=(i=0/\old = #[])\/∃j vb,i=j+1/\P (argBest bt j) vb/\old = #[vb,vb]
def oY (W:Walks prog w A.in1 I fp wr n P St)(bt:Nat->Nat->Bool)(hcmp:CmpOf prog w A.in1 .Gt P bt)(S:Of)(hSf:S ∉ fp) :
  ∀(k i:Nat) (s:Og) (old:Array Oe) (c:Nat),n-i=k->i<=n->St i s.heap->Ap bt P i old ->
  s.heap.get? S=some { cls:=.type "list",dict:=none,data:=.seq old c,slots:=#[] } ->
  (∀v h' tk,xM bt P dv n v->(∀b o,b ∉ wr->b≠S->s.heap.get? b=some o->h'.get? b=some o)->R (.ok<|.ret v) { s with heap:=h',toks:=tk }) ->
  codeAny (model prog w) A (.builtin "max.loop" ⟨[.ref I,.none,.ref S],[("default",dv)]⟩) R s:=by
 have hSw:S ∉ wr:=λh=>hSf<|W.sub _ h
 have hname:(toString "max" ++ toString ".loop":String) = "max.loop":=by decide
 intro k;induction k with
 | zero =>
  intro i s old c hk hi hst hc hS hR;have hin:i=n:=by omega
  refine LI F.entry_max_loop ?_;rw[KP Lw _];rcases hc with ⟨rfl,rfl⟩ | ⟨j,vb,rfl,hP,rfl⟩
  .show Oz _ A.in1 (seqItems? (.ref S) >>= _) _ _ s;refine Iw<|KY hS rfl ?_;show Oz _ A.in1 (tryCatch (pyNext<|.ref I) _ >>= _) _ _ s;refine Iw (MA<|W.done s _ _ (hin▸hst) λh' tk hk'=>?_);show Oz _ A.in1 (rule _ >>= _) _ _ _;refine Iw<|KN<|Iy ?_;exact hR dv h' tk (.inl ⟨hin.symm,rfl⟩) λb o hbw _ e=>hk' b o hbw e
  .show Oz _ A.in1 (seqItems? (.ref S) >>= _) _ _ s;refine Iw<|KY hS rfl ?_;show Oz _ A.in1 (tryCatch (pyNext<|.ref I) _ >>= _) _ _ s;refine Iw (MA<|W.done s _ _ (hin▸hst) λh' tk hk'=>?_);have hS':=hk' S _ hSw hS;show Oz _ A.in1 (updateSeq S (λ_=>#[]) >>= _) _ _ _;refine Iw ?_;refine Lm hS' rfl<|Iw<|Nv<|Iy ?_;exact hR vb _ tk (.inr ⟨by omega,by rw[<-hin];exact hP⟩) λb o hbw hbS e=>(JF _ _<|JC hbS).trans<|hk' b o hbw e
 | succ k ih =>
  intro i s old c hk hi hst hc hS hR;have hlt:i<n:=by omega
  refine LI F.entry_max_loop ?_;rw[KP Lw _];rcases hc with ⟨rfl,rfl⟩ | ⟨j,vb,rfl,hPb,rfl⟩
  .show Oz _ A.in1 (seqItems? (.ref S) >>= _) _ _ s;refine Iw<|KY hS rfl ?_;show Oz _ A.in1 (tryCatch (pyNext<|.ref I) _ >>= _) _ _ s;refine Iw (MA<|W.item 0 s _ _ hlt hst λv h' tk hP hst' hk'=>?_);have hS':=hk' S _ hSw hS;show Oz _ A.in1 (updateSeq S (λ_=>#[v,v]) >>= _) _ _ _;refine Iw ?_;refine Lm hS' rfl ?_;rw[hname];refine Iy ⟨LC Lw _,ih 1 _ #[v,v] _ (by omega) hlt (W.frame _ _ _ hst' λb hbf o e=>?_) (.inr ⟨0,v,rfl,hP,rfl⟩) (JD _ hS' rfl) λv' h'' tk'' hP' hk''=>?_⟩
   .exact(JF _ _ (λh:S=b=>hSf (by rw[h];exact hbf))).trans e
   .exact hR v' h'' tk'' hP' λb o hbw hbS e=>hk'' b o hbw hbS<|(JF _ _<|JC hbS).trans<|hk' b o hbw e
  .show Oz _ A.in1 (seqItems? (.ref S) >>= _) _ _ s;refine Iw<|KY hS rfl ?_;show Oz _ A.in1 (tryCatch (pyNext<|.ref I) _ >>= _) _ _ s;refine Iw (MA<|W.item (j+1) s _ _ hlt hst λv h' tk hP hst' hk'=>?_);have hS':=hk' S _ hSw hS;show Oz _ A.in1 (tryCatch (holding [v,v]<|richCompare .Gt v vb >>= _) _ >>= _) _ _ _;refine Iw<|MA<|JL<|Iw<|hcmp (j+1) (argBest bt j) v vb _ _ _ hP hPb ?_;refine Iw<|JL<|Kg ?_;refine Iw<|Nv<|Iy ?_;cases hb:bt (j+1) (argBest bt j) with
   | true =>
    simp only[Kl];refine Iw ?_;refine Lm hS' rfl<|Iw<|Nv ?_;rw[hname];refine Iy ⟨LC Lw _,ih (j+2) _ #[v,v] _ (by omega) hlt (W.frame _ _ _ hst' λb hbf o e=>?_) (.inr ⟨j+1,v,rfl,by simp only[argBest,hb,Kl];exact hP,rfl⟩) (JD _ hS' rfl)
     λv' h'' tk'' hP' hk''=>?_⟩
    .exact(JF _ _ (λh:S=b=>hSf (by rw[h];exact hbf))).trans e
    .exact hR v' h'' tk'' hP' λb o hbw hbS e=>hk'' b o hbw hbS<|(JF _ _<|JC hbS).trans<|hk' b o hbw e
   | false =>simp only[Jk,JI];refine Iw<|Nv ?_;rw[hname];refine Iy ⟨LC Lw _,ih (j+2) _ #[vb,vb] c (by omega) hlt hst' (.inr ⟨j+1,vb,rfl,by simp only[argBest,hb,Jk,JI];exact hPb,rfl⟩) hS' λv' h'' tk'' hP' hk''=>?_⟩;exact hR v' h'' tk'' hP' λb o hbw hbS e=>hk'' b o hbw hbS<|hk' b o hbw e
end
section
variable {prog:Oh}{w:Oi}{A:Oj}{E:Oe->Og->Prop}{s:Og}{dv:Oe}
def pV (a d:Oe):argsOk "max" ⟨[a],[("default",d)]⟩:=by unfold argsOk;kernel_rfl
def iU {id:String}{b:Builtin}{args:List Oe}{kw:List (Str×Oe)}{Q:Oe->Og->Prop}(hk:builtinKind id=none)(hp:plainId id=true)
  (hb:entryFor table id=some b) (ha:argsOk id ⟨args,kw⟩)
  (hc:Oz (model prog w) A.in1 (b ⟨args,kw⟩) (λfin s'=>match fin with
   | .done f=>(match (Except.ok f:Result) with | .ok (.ret v)=>Q v s' | .ok _=>False | .error e=>E e s')
   | .again c'=>c'.quiet=true/\codeAny (model prog w) A c' (λr s'=>match r with | .ok (.ret v)=>Q v s' | .ok _=>False | .error e=>E e s') s') E s) :
  Oz (model prog w) A (call (.builtin id) args kw) Q E s:=by
 refine LF<|Nm hp hb ?_;simp only[checkBuiltinCall,hk];cases hsig:Manifest.signature? id with
 | none=>exact Iy hc
 | some sig =>
  have ha':Bind.checkArgs id sig ⟨args,kw⟩=pure ():=by simpa only[argsOk,hsig] using ha
  simp only[ha'];exact Iy hc
def qo :Builtin.Builtins.bindParams "max" ["key","default"] 0 ⟨[],[("default",dv)]⟩=pure [none,some dv]:=rfl
def iS {l:Of}{xs:Array (Int×Tok)}{Q:Oe->Og->Prop}(hh:A.handled=none)(hl:s.heap.IsList l (intItems xs))
  (h:∀v h' tk,xM (λi j=>decide (numAt xs i > numAt xs j)) (λi v=>(intItems xs)[i]? = some v) dv xs.size v->(∀b o,s.heap.get? b=some o->h'.get? b=some o)->Q v { s with heap:=h',toks:=tk }) :
  Oz (model prog w) A (call (.builtin "max") [.ref l] [("default",dv)]) Q E s:=by
 have hname:(toString "max" ++ toString ".loop":String) = "max.loop":=by decide
 refine iU F.kind_max F.plain_max F.entry_max (pV _ _) ?_;show Oz _ A.in1 (Builtin.Builtins.bindParams "max" ["key","default"] 0 ⟨[],[("default",dv)]⟩ >>= _) _ _ s;refine Iw<|Nu qo ?_;refine Iw<|Iy ?_;refine Iw (iter_intList hl λs₂ e st hfp hlI=>?_);subst e;refine Iw<|JP ?_;rw[hname];have W:=Walks.list (prog:=prog) (w:=w) (A:=A.in1) hh _ l hlI<|intItems xs;refine Iy ⟨LC Lw _,oY W _ (CmpOf.ints_gt (numAt xs)<|λ_ _=>MQ) _ (λhm=>KF _<|hfp _ hm) _ 0 _ #[] _ rfl (JV _) (W.frame _ _ _ st λb _ o e=>ID _ e) (.inl ⟨rfl,rfl⟩) (Jc _ rfl) λv h' tk hP hk=>?_⟩;exact h v h' tk (by simpa [intItems] using hP) (old_kept λb o hbw e=>hk b o hbw (IX<|IF e)<|ID _ e)
end
section
variable {X:Cx}{K:Fg}{pos p kp:Pos}{e e2:Oo}{te te2:TE}
def qw (hK:X.K=K)(hc:X.calm=true){s:Og}{σ:St}{H:Hp}{a:Of}{ns:List Int}{y:V}{u:Oe}{Q:VK}(I:Inv X OM σ H s)(hq:SqL K H a (ns.map V.int))(ry:u0 y u)
  (q:Q (if ns=[] then y else .int (K9 ns)) H):Oz (model X.prog X.w) X.A (call (.builtin "max") [.ref a] [("default",u)]) (EP X OM σ Q) X.xe s:=by
 subst hK;obtain⟨its,rv,p,hz⟩:=I.list hq;have hlen:its.length=ns.length:=by rw[<-rv.length,Iz]
 have hi:=W4 rv;obtain⟨zs,hzs⟩:=hi.allInts.items;have hl:s.heap.IsList a (intItems zs):=hzs▸p.isList;have hsz:zs.size=ns.length:=by
  have:(intItems zs).size=its.length:=by rw[<-hzs];simp
  rw[<-hlen,<-this];simp[intItems]
 have hval:∀(i:Nat) (v:Oe),its.toArray[i]? = some v->∃t,v = .int (ns.getD i 0) t:=λi v hv=>by
  have hv:its[i]? = some v:=by simpa using hv
  obtain⟨hi,_⟩:=IH.1 hv;have hb:(ns.map V.int)[i]? = some (V.int<|ns.getD i 0):=by rw[IU,IM<|by omega];simp[List.getD,IM<|show i<ns.length by omega]
  obtain⟨u,hu,ru⟩:=rv.get hb;rw[hv]at hu;cases hu;exact ru
 have hnum:∀i,i<ns.length->numAt zs i=ns.getD i 0:=λi hi=>by
  have hi2:i<its.length:=by omega
  obtain⟨t,e⟩:=hval i its[i] (by simp[hi2]);have e2:(intItems zs)[i]? = some its[i]:=by rw[<-hzs];simp[hi2]
  obtain⟨t2,e3⟩:=MQ e2;rw[e]at e3;injection e3 with e4 _
  exact e4.symm
 refine iS (I.ok.hd hc) hl λv h' tk hv hk=>?_
 rcases hv with ⟨h0,rfl⟩ | ⟨hpos,hv⟩
 .have:ns=[]:=KU.1 (by omega);rw[IE this]at q;exact⟨y,H,I.kept hk,ry,q⟩
 .have hne:ns≠[]:=Mf.1 (by omega);rw[II hne]at q;obtain⟨h1,h2⟩:=argBest_gt (numAt zs)<|zs.size-1;obtain⟨t,e⟩:=MQ hv;subst e;generalize argBest (λi j=>decide (numAt zs i > numAt zs j)) (zs.size-1)=j at *;have hj:j<ns.length:=by omega
  have em:numAt zs j=K9 ns:=by rw[hnum j hj];refine Int.le_antisymm (V7<|getD_mem hj) ?_;obtain⟨i,hi,e⟩:=mem_getD<|Q7 hne;have:=h2 i (by omega);rw[hnum i hi,hnum j hj]at this;rw[<-e];exact this
  rw[em];exact⟨.int<|K9 ns,H,I.kept hk,⟨t,rfl⟩,q⟩
def ff:List My->Option My
 | [.list ds,z]=>(T3 ds).bind λns=>if ns=[] then(match z with
  | .int i=>some (.int i)
  | _=>none) else some (.int<|K9 ns)
 | _=>none
def qQ (X:Cx)(r:List V->Hp->VK->Prop):Prop:=∀{OM:List (Of×Ou)} {s:Og} {σ:St} {H:Hp} {xs:List V} {y:V} {us:List Oe} {z:Oe} {Q:VK},Inv X OM σ H s->n5 xs us->u0 y z->r (xs++[y]) H Q->Oz (model X.prog X.w) X.A (call (.builtin "max") us [("default",z)]) (EP X OM σ Q) X.xe s
def vh {r:List V->Hp->VK->Prop}(hr:qQ X r)(hm:X.mg "max" = none)(ha:PA X [e] (z8 te P1))(hb:PE X e2 te2)(hg:Gl X "max":=by rfl)(he:Ot [e] X.env=[(false,eval e X.env)]:=by rfl):PE X (.Call (.Name "max" p) [e] [⟨some "default",e2,kp⟩] pos) (tCB r<|z8 te<|z8 te2 P1):=by intro OM s σ H Q I h;refine Ld (aT I hg hm rfl ?_ (by decide)<|by decide);refine callWith_kw (thn (ha pos OM s σ H (λvs H1=>te2 σ H1 λy H2=>r (vs++[y]) H2 Q) I h) λus s1 ⟨vs,H1,I1,r1,q1⟩=>?_) (by rw[he];rfl) (by rw[he];rfl);refine kws_cons (thn (hb OM s1 σ H1 _ I1 q1) λz s2 ⟨y,H2,I2,r2,q2⟩=>kws_nil ?_);exact hr I2 r1 r2 q2
variable [Feeds]{m m2:DE->M My}
def vR (hK:X.K=K)(hc:X.calm=true):qQ X (rDN K ff):=λ{OM s σ H xs y us z Q} I r ry h=>by
 obtain⟨fp,B,ds,d,bk,h1,hf,q⟩:=h;unfold ff at hf;walk_at "kh"
 rename_i ds w;obtain⟨ns,e,hg⟩:=bS9 hf;clear hf;cases J5 e;obtain⟨v1,v2,e1,⟨a,ws,rfl,ha,hd⟩,a2⟩:=BG h1 rfl;cases cm hd;obtain⟨rfl,rfl⟩:xs=[.ref a]/\y=v2:=by
  match xs,e1 with
  | [x],e1=>cases e1;exact⟨rfl,rfl⟩
  | x::x2::r,e1=>simp at e1
 obtain⟨u,rfl,ru⟩:=L8 r;cases ru;refine qw hK hc I (SqL.of<|g6 _ _ ha) ry ?_;by_cases h0:ns=[]
 .rw[IE h0]at hg ⊢;cases w <;> simp at hg;subst hg;cases a2;exact q _ H (k8.refl H) c6.int
 .rw[II h0]at hg ⊢;cases hg;exact q _ H (k8.refl H) c6.int
def xx (hK:X.K=K)(hc:X.calm=true)(hm:X.mg "max" = none)(ha:Eb K X e te m)(hb:Eb K X e2 te2 m2)(hg:Gl X "max":=by rfl)(he:Ot [e] X.env=[(false,eval e X.env)]:=by rfl)(he2:Ot [e2] X.env=[(false,eval e2 X.env)]:=by rfl)(he3:Ot [e,e2] X.env=(false,eval e X.env)::Ot [e2] X.env:=by rfl) :
  Ev K X (.Call (.Name "max" p) [e] [⟨some "default",e2,kp⟩] pos) (tCB (rDN K ff)<|z8 te<|z8 te2 P1) (sN ff<|d5 m<|d5 m2 j9) :=
 ⟨vh (vR hK hc) hm (l8 ha.pe A8 he) hb.pe hg he,sX (j3 ha (j3 hb n6 he2) he3).ok⟩
def oK:List My->Option My
 | [.int i,.int j,.int k]=>some<|.int<|max i<|max j k
 | _=>none
def CQ {fp B:List Of}{H:Hp}{ds:List My}{d e f:My}{vs:List V}(h:cM K fp B H ds vs)(eq:ds=[d,e,f]):∃v w x,vs=[v,w,x]/\G1 K fp B H d v/\G1 K fp B H e w/\G1 K fp B H f x:=by subst eq;obtain⟨v,r,rfl,h1,w,r2,rfl,h2,x,r3,rfl,h3,h4⟩:=h;cases h4;exact⟨v,w,x,rfl,h1,h2,h3⟩
def wq (hK:X.K=K)(hc:X.calm=true):A3 X (.builtin "max") (rDN K oK):=by
 walk_at "kc";unfold oK at hf;walk_at "kh"
 rename_i i j k;obtain⟨v,w,x,rfl,hv,hw,hx⟩:=CQ h1 rfl;cases(show v = .int i from hv);cases(show w = .int j from hw);cases(show x = .int k from hx);cases r with
 | cons ra r =>
  cases r with
  | cons rb r =>
   cases r with
   | cons rc r =>
    cases r;obtain⟨t1,rfl⟩:=ra;obtain⟨t2,rfl⟩:=rb;obtain⟨t3,rfl⟩:=rc;refine max_three_ints (I.ok.hd hc) λh' tk hk=>?_
    refine⟨.int<|max i<|max j k,H,I.kept hk,?_,q _ H (k8.refl H) c6.int⟩;by_cases h1:j > i
    .by_cases h2:k > j
     .rw[IE h1,IE h2];exact⟨t3,by congr 1;omega⟩
     .rw[IE h1,II h2];exact⟨t2,by congr 1;omega⟩
    .by_cases h2:k > i
     .rw[II h1,IE h2];exact⟨t3,by congr 1;omega⟩
     .rw[II h1,II h2];exact⟨t1,by congr 1;omega⟩
end
end
end L3
namespace L3
open PySem PySem.Spec PyProof.Rows L2 PySem.W
section
variable {prog:Oh}{w:Oi}{A:Oj}{E:Oe->Og->Prop}{s:Og}{T:String}{r d:Of}{n:Nat}{P:Nat->Oe->Prop}{OK:Oq->Prop}
def rl {R:Result->Og->Prop}(K:KdlSrc prog w T r d n P OK)(hh:A.handled=none)(hok:OK s.heap)(hn:n<=Os)
  (hR:∀h' tk acc c',(∀b o,s.heap.get? b=some o->h'.get? b=some o)->h'.get? s.heap.objs.size=some { cls:=.type "list",dict:=none,data:=.seq acc c',slots:=#[] }->ItemsOf P acc n->R (.ok<|.ret<|.ref s.heap.objs.size) { s with heap:=h',toks:=tk }) :
  codeAny (model prog w) A (.builtin "proto.collect" ⟨[.ref r],[]⟩) R s:=by have hlt:=K.there _ hok;refine LI PySem.F.entry_proto_collect ?_;rw[KP PySem.F.plain_proto_collect _];show Oz _ A.in1 (newList [] >>= λl=>again<|.builtin "list.__iadd__" ⟨[l,.ref r],[]⟩) _ _ s;refine Iw<|JP ?_;refine Iy ⟨LC PySem.F.plain_list_iadd _,LI PySem.F.entry_list_iadd ?_⟩;rw[KP PySem.F.plain_list_iadd _];show Oz _ A.in1 (Builtin.List.listExtendWith (.ref s.heap.objs.size) (.ref r)<|.ref s.heap.objs.size) _ _ _;have hS:(s.heap.push { cls:=.type "list",data:=.seq ([]:List Oe).toArray }).get? s.heap.objs.size=some { cls:=.type "list",data:=.seq #[] }:=Jc _ rfl;exact kdl_extend (R:=R) (s:={ s with heap:=s.heap.push { cls:=.type "list",data:=.seq ([]:List Oe).toArray } }) K hh (K.keep _ _ hok λb _ o e=>ID _ e) _ (Jt hlt.1) (Jt hlt.2) _ _ hS (λh' tk acc' c' hk hS' hacc=>hR h' tk acc' c' (λb o e=>hk b o (IX<|IF e)<|ID _ e) hS' hacc) hn
def kz {Q:List Oe->Og->Prop}(K:KdlSrc prog w T r d n P OK)(hh:A.handled=none)(hok:OK s.heap)(hn:n<=Os)
  (hQ:∀h' tk acc,(∀b o,s.heap.get? b=some o->h'.get? b=some o)->ItemsOf P acc n->Q acc.toList { s with heap:=h',toks:=tk }):Oz (model prog w) A (collect<|.ref r) Q E s:=by unfold collect;refine Iw (wpAny_runValue<|rl K hh hok hn λh' tk acc' c' hk hS' hacc=>?_);show Oz _ A (load s.heap.objs.size >>= _) _ _ _;refine Iw<|wpAny_load hS' ?_;exact Iy<|hQ h' tk acc' hk hacc
def jE {x:Oe}{Q:Oe->Og->Prop}(h:Oz (model prog w) A.in1 (collect x) (λvs s1=>vs.length<64/\∃(kd:SortKind) (κ:Nat->Int),
   (2<=vs.length->∀(h':Oq) (Q:SortKind->Og->Prop),(∀b o,s1.heap.get? b=some o->h'.get? b=some o)->Q kd { s1 with heap:=h' }->Oz (model prog w) A.in1.in1 (keyKind' vs.toArray) Q E { s1 with heap:=h' }) /\
   (∀h':Oq,(∀b o,s1.heap.get? b=some o->h'.get? b=some o)->du prog w A.in1.in1 { s1 with heap:=h' } kd (pairsOf vs) κ) /\
   ∀(out:Array Oe) (p:Nat->Nat),out.size=vs.length->(∀i,i<vs.length->out.toList[i]? = vs[p i]?)->SoS κ p vs.length->Q (.ref s1.heap.objs.size) { s1 with heap:=sortedHeap (s1.heap.push<|seqObj "list" vs.toArray 0) s1.heap.objs.size vs out }) E s) :
  Oz (model prog w) A (call (.builtin "sorted") [x]) Q E s:=by
 refine Calls.call_function_entry kind_sorted plain_sorted entry_sorted (args_sorted1 _) ?_;unfold Builtin.«sorted»;refine Iw (m:=checkCount "sorted" 1 1 _)<|Iy ?_;refine Iw (Jh h (λvs s1 ⟨h64,kd,κ,hkind,hlt,hq⟩=>?_) λ_ _ e=>e);refine Iw (wpAny_newList ?_ (by rw[Jr];omega));have hoL:(s1.heap.push<|seqObj "list" vs.toArray 0).get? s1.heap.objs.size=some (seqObj "list" vs.toArray 0):=Jc _ rfl;have keep:∀b o,s1.heap.get? b=some o->(s1.heap.push<|seqObj "list" vs.toArray 0).get? b=some o/\b≠s1.heap.objs.size:=λb o q=>⟨ID _ q,IX<|IF q⟩
 show Oz _ _ _ _ _ { s1 with heap:=s1.heap.push (seqObj "list" vs.toArray 0) };refine Iw (JL (JT slot_list_sort ⟨_,hoL,rfl⟩ entry_list_sort (bD (s:={ s1 with heap:=s1.heap.push (seqObj "list" vs.toArray 0) }) hoL h64
  (λh2 h' Q hk hq=>hkind h2 h' Q (λb o e=>hk b o (keep b o e).2 (keep b o e).1) hq) (λh' hk=>hlt h' λb o e=>hk b o (keep b o e).2 (keep b o e).1) λout p a1 a2 a3=>⟨_,rfl,?_⟩)<|args_list_sort _))
 exact Iy ⟨_,rfl,hq out p a1 a2 a3⟩
end
section
variable {X:Cx}{K:Fg}
def ph (hu:X.A.units+64<OG){OM:List (Of×Ou)}{s:Og}{σ:St}{H:Hp}{zs:List V}{ds:List (List My)}{κ:Nat->Int}{its:List Oe}(I:Inv X OM σ H s)(rv:n5 zs its)(hlz:zs.length=ds.length)
  (hD:∀(i:Nat) (z:V) (d:List My),zs[i]? = some z->ds[i]? = some d->c6 X.K H (.tuple d) z) (hG:∀d∈ds,cS d) (hK:∀(i j:Nat) (di dj:List My),i≠j->ds[i]? = some di->ds[j]? = some dj->ltM di dj=some (decide (κ i < κ j))) (h64:ds.length<64) :
  ∃kd:SortKind,(2<=its.length->∀(h':Oq) (Q:SortKind->Og->Prop),(∀b o,s.heap.get? b=some o->h'.get? b=some o)->Q kd { s with heap:=h' }->Oz (model X.prog X.w) X.A.in1.in1 (keyKind' its.toArray) Q X.xe { s with heap:=h' }) /\
   ∀h':Oq,(∀b o,s.heap.get? b=some o->h'.get? b=some o)->du X.prog X.w X.A.in1.in1 { s with heap:=h' } kd (pairsOf its) κ:=by
 have hl2:its.length=zs.length:=rv.length.symm;have item:∀(i:Nat) (v:Oe) (d:List My),its[i]? = some v->ds[i]? = some d->∃as,Reads s.heap v (.tuple d) as:=λi v d e1 e2=>by
  have hi:i<zs.length:=by have:=(IH.1 e1).1;omega
  obtain⟨u,e3,e4⟩:=rv.get<|IM hi;rw[e1]at e3;cases e3;exact G8 I _ _ _ (hD i _ d (IM hi) e2) e4
 obtain⟨fs,tF,hT⟩:=X7 (h:=s.heap) (by omega) item hG;have tK:∀{h':Oq},(∀b o,s.heap.get? b=some o->h'.get? b=some o)->∀{vs:List Oe} {fs:List (Option Oe)},O4 s.heap vs fs->O4 h' vs fs:=by
  intro h' hk vs;induction vs with
  | nil=>intro fs t;cases fs with | nil=>exact t | cons _ _=>exact t.elim
  | cons v vs ih =>
   intro fs t;cases fs with
   | nil=>exact t.elim
   | cons f fs =>obtain⟨⟨a,o,xs,n,e1,e2,e3⟩,t⟩:=t;exact⟨⟨a,o,xs,n,e1,hk _ _ e2,e3⟩,ih t⟩
 refine⟨ia fs,λh2 h' Q' hk hQ=>?_,λh' hk=>?_⟩
 .have item':∀(i:Nat) (v:Oe) (d:List My),its[i]? = some v->ds[i]? = some d->∃as,Reads h' v (.tuple d) as:=λi v d e1 e2=>let ⟨as,r⟩:=item i v d e1 e2;⟨as,Ky hk r⟩
  refine qI (s:={ s with heap:=h' }) (tK hk tF) (by have:=tF.len;omega) (λf hf=>?_) hQ;obtain⟨fs',tF',hT'⟩:=X7 (h:=h') (by omega) item' hG;have:∀{vs:List Oe} {fs fs':List (Option Oe)},O4 h' vs fs->O4 h' vs fs'->fs=fs':=by
   intro vs;induction vs with
   | nil =>
    intro fs fs' t t';cases fs with
    | cons _ _=>exact t.elim
    | nil =>
     cases fs' with
     | nil=>rfl
     | cons _ _=>exact t'.elim
   | cons v vs ih =>
    intro fs fs' t t';cases fs with
    | nil=>exact t.elim
    | cons f fs =>
     cases fs' with
     | nil=>exact t'.elim
     | cons f' fs' =>obtain⟨⟨a,o,xs,n,e1,e2,e3,e4,e5⟩,t⟩:=t;obtain⟨⟨a',o',xs',n',g1,g2,g3,g4,g5⟩,t'⟩:=t';rw[e1]at g1;cases g1;rw[e2]at g2;cases g2;rw[e4]at g4;cases g4;rw[<-e5,<-g5,ih t t']
  rw[this (tK hk tF) tF']at hf;exact hT' _ f hf
 .intro i j x y hij ex ey E Q' hQ;rw[<-Kv,pairsOf_toList,Lq]at ex ey;have hi:i<its.length:=(IH.1 ex.1).1;have hj:j<its.length:=(IH.1 ey.1).1;have di:ds[i]? = some (ds[i]'(by omega)):=IM (by omega);have dj:ds[j]? = some (ds[j]'(by omega)):=IM (by omega);obtain⟨as,r1⟩:=item i _ _ ex.1 di;obtain⟨bs,r2⟩:=item j _ _ ey.1 dj;have r1:=Ky hk r1;have r2:=Ky hk r2;have g1:=hG _ (JU<|show i<ds.length by omega);have g2:=hG _ (JU<|show j<ds.length by omega);have lt:=hK i j _ _ hij di dj;have hu2:X.A.in1.in1.units+min (My.depthAll ds[i]+1) (My.depthAll ds[j]+1)<OG:=by have e:X.A.in1.in1.units=X.A.units+1+1:=rfl;have:=g1.2.1;omega
  unfold ia;split
  .exact fO (s:={ s with heap:=h' }) r1 r2 g1.1 g2.1 (by omega) lt hQ
  .split
   .exact gZ (s:={ s with heap:=h' }) r1 r2 g1.1 g2.1 hu2 lt hQ
   .exact gS (s:={ s with heap:=h' }) r1 r2 g1.1 g2.1 hu2 lt hQ
def nE (K:Frag)(k:NKey):List V->Hp->VK->Prop:=λys H Q=>∃(p:Of) (xs:List (k.K×Of×V)) (ds:List (List My)) (κ:Nat->Int),ys=[.ref p]/\H p=some (.ext<|NDi k p xs)/\xs.length=ds.length/\(∀(i:Nat) (z:V) (d:List My),(xs.map λx=>V.ref x.2.1)[i]? = some z->ds[i]? = some d->c6 K H (.tuple d) z)/\(∀d∈ds,cS d) /\
 (∀(i j:Nat) (di dj:List My),i≠j->ds[i]? = some di->ds[j]? = some dj->ltM di dj=some (decide (κ i < κ j)))/\ds.length<64/\∀(p:Of) (ys:List V),H p=none->StK κ (xs.map λx=>V.ref x.2.1) ys->Q (.ref p) (upd H p<|.lst ys)
def kK {k:NKey}(hh:X.A.handled=none)(hK:X.K=K)(hu:X.A.units+64<OG):A3 X (.builtin "sorted") (nE K k):=by
 subst hK;intro OM s σ H ys us Q I r h;obtain⟨p,xs,ds,κ,rfl,e,hlz,hD,hG,hKK,h64,q⟩:=h;obtain⟨u,rfl,rx⟩:=L8 r;cases rx;obtain⟨z,hd,vs,rel,o,es,ep,h1,h2,h3,h4,h5⟩:=oh I e;have hl:es.size=xs.length:=by have a:=JX List.length h4;rw[Iz,JM]at a;rw[a,<-NG rel]
 refine jE (kz (A:=X.A.in1) (vX (es:=es) (ep:=ep) hd) hh ⟨o,h1,h2,h3⟩ (by omega) λh' tk acc hk hacc=>?_);have hv:n5 (xs.map λx=>V.ref x.2.1) acc.toList:=by
  have e1:acc.toList=vs.map λq=>Oe.ref q.2.1:=by
   have hlv:es.size=vs.length:=by have a:=JX List.length h4;rw[Iz,JM]at a;exact a
   refine List.ext_getElem (by rw[JM,Iz,hacc.1,hlv]) λj g1 g2=>?_
   rw[JM]at g1;obtain⟨g3,ev⟩:=hacc.2 j acc[j]<|Array.getElem?_eq_getElem g1;rw[Array.getElem_toList,ev,LV];have e2:es.toList[j]'(by rw[JM];exact g3)=es[j]:=Array.getElem_toList ..;rw[<-e2];simp only[h4,LV]
  rw[e1];exact nc rel
 have I1:Inv X OM σ H { s with heap:=h',toks:=tk }:=I.kept hk;have hlen:acc.toList.length=xs.length:=by rw[<-hv.length,Iz]
 obtain⟨kd,m1,m2⟩:=ph hu I1 hv (by rw[Iz];exact hlz) hD hG hKK h64;refine⟨by omega,kd,κ,m1,m2,λout p' a1 a2 a3=>?_⟩;generalize hits:acc.toList=its at *;generalize hzs:(xs.map λx=>V.ref x.2.1)=zs at *;have hzl:zs.length=its.length:=hv.length;obtain⟨ep',he⟩:=sortedHeap_at (h:=h'.push<|seqObj "list" its.toArray 0) (a:=h'.objs.size) (vs:=its) (n:=0) (out:=out)<|Jc _ rfl;have ysl:((List.range its.length).map λi=>zs.getD (p' i) .non).length=its.length:=by rw[Iz,JW]
 have ysg:∀i,i<its.length->((List.range its.length).map λi=>zs.getD (p' i) .non)[i]? = zs[p' i]?:=λi hi=>by rw[IU,Kf hi];have hpi:=a3.2.2 i hi;show some (zs.getD (p' i) .non)=_;rw[Jb,IM<|by omega];rfl
 have I2:Inv X OM σ (upd H h'.objs.size<|.lst<|(List.range its.length).map λi=>zs.getD (p' i) .non) { s with heap:=sortedHeap (h'.push<|seqObj "list" its.toArray 0) h'.objs.size its out,toks:=tk } :=
  I1.laid (a:=h'.objs.size) (λb o ho=>by
   have hlt:b<h'.objs.size:=IF ho;show(sortedHeap _ _ _ _).get? b=_;rw[sortedHeap_old (IX hlt) (by rw[size_push'];exact Kh hlt)];exact ID _ ho) (IT _) ⟨by rw[ysl,Jr];omega,out.toList,ep',Z1 (by rw[ysl,atl out,a1]) (λi x u hx hu=>by
   have hi:i<its.length:=by have:=(IH.1 hx).1;rwa [ysl]at this
   rw[ysg i hi]at hx;rw[a2 i hi]at hu;obtain⟨u',g1,g2⟩:=hv.get hx;rw[g1]at hu;rw[<-IS hu];exact g2),by rw[he]⟩
 exact⟨.ref h'.objs.size,_,I2,rfl,q _ _ (I1.hok.fresh<|IT _) ⟨by rw[ysl,hzl],p',by rw[hzl];exact a3,λi hi=>ysg i<|by omega⟩⟩
end
end L3
namespace L3
open PySem PySem.Spec PyProof.Rows L2
section
variable [Feeds]{K:Fg}{X:Cx}{pos p px:Pos}
def ui (i c:Nat){x:Str}(hh:X.A.handled=none)(hK:X.K=K)(hu:X.A.units+64<OG)(hm:X.mg "sorted" = none)(hv:OD "sorted" = some (.builtin "sorted"))(hN:X.N[i]? = some x:=by rfl)(hvis:Vis X.env.scope x:=by first | exact Or.inl rfl | exact Or.inr (Or.inl rfl) | exact Or.inr<|Or.inr rfl)(hd:(x == ("__debug__":Str))=false:=by decide)(hcd:(x == ("__classdict__":Str))=false:=by decide)
  (hg:Gl X "sorted":=by rfl) (hs:Ot [.Name x px] X.env=(false,eval (.Name x px) X.env)::Ot [] X.env:=by rfl) (hpl:(Ox pos<|Ot [] X.env).any (·.1)=false:=by rfl) :
  Ev K X (.Call (.Name "sorted" p) [.Name x px] [] pos) (tCB (nE K<|B3 c)<|z8 (Q8 i) P1) (sN Y0<|d5 (kg i c) j9) :=
 ⟨L7 (kK hh hK hu) hg hm hv (l8 (G5 hN hvis hd hcd) A8 hs) (by decide) (by decide) hs hpl,λG B E F σ H Q r F' I e q=>by
  obtain⟨⟨zs,F1⟩,e1,e⟩:=bS9 e;obtain⟨⟨y,F2⟩,e2,e1⟩:=bS9 e1;cases e1;obtain⟨z,hf,e⟩:=bS9 e;cases e;obtain⟨⟨w,c',ps⟩,e4,e5⟩:=bS9 e2;by_cases hc:c'=c;case neg=>rw[II hc]at e5;cases e5
  rw[IE hc]at e5;have eo:=V9 e4;clear e2 e4;subst hc;cases e5;obtain⟨u,w1,a,xs,rfl,hB,hfp,hx,hn,hdx⟩:=I.loc i _ eo;have hdt:=tI hdx;unfold Y0 at hf;dsimp only at hf;split at hf;case isFalse=>cases hf
  rename_i hcc;cases hf;obtain⟨ts,κ,et,hS⟩:=hcc;have et:ps.map (·.1)=ts.map My.tuple:=et;rw[et]at hdt;have hlen:(xs.map λx=>V.ref x.2.1).length=ts.length:=by rw[hdt.length,Iz]
  refine⟨_,w1,a,xs,ts,κ,rfl,hx,by rw[<-hlen,Iz],λi z d e1 e2=>(fy hdt i z d e1 e2).same g6,hS.2.1,hS.2.2,hS.1,λp ys hp o=>?_⟩;generalize (xs.map λx=>V.ref x.2.1)=xs at *;have eo:rq ((List.range ts.length).map λi=>V.int<|κ i) xs ys:=by
   obtain⟨hy,p',hs,hp'⟩:=o;have ek:∀i,i<xs.length->dh ((List.range ts.length).map λi=>V.int<|κ i) i = κ i:=λi hi=>by unfold dh;rw[Jb,IU,Kf<|by omega];rfl
   refine⟨hy,p',⟨λi j hij hj=>?_,hs.2.1,hs.2.2⟩,hp'⟩;have:=hs.1 i j hij hj;unfold Lx at this ⊢;rw[ek _<|hs.2.2 i<|by omega,ek _<|hs.2.2 j hj];exact this
  have ey:=jR eo (by rw[Iz,JW,hlen]);rw[Jn,show(kQ ∘ λi=>V.int<|κ i) = κ from rfl]at ey;subst ey;have:=(lY (ns:=(List.range ts.length).map κ) hdt).sort.dats;rw[gr hS]at this;rw[show(List.map (λx=>x.1) ps)=ts.map My.tuple from et,V3]at q;exact q _ _ (Kp.upd hp) (I.fd.same<|k8.upd hp)<|ai I.bk hp this⟩
end
end L3
namespace L3
open PySem PySem.W PySem.Spec PyProof.Rows L2
variable {C Wt:Of}{fi:Nat}{its:List (Sum Str Str)}
section
section
variable [Feeds]{K:Frag}{mg:Str->Option Oe}{C0:Of}{nm0:Str}{cl:List Of}{i:Nat}
end
section
variable {X:Cx}{e:Of}{fs:List (Str×V)}{i:Nat}{z:Str}{ies:List Oo}{r1 r2 r3:Pos}{k2}
end
end
section
section
variable {X:Cx}{f:Of}{x:Str}{p cp pos:Pos}
end
section
variable [Feeds]{K:Frag}{X:Cx}
end
section
variable [Feeds]{K:Frag}{X:Cx}{i:Nat}{ok:Of->Prop}{tsu:Of->Of->List (Str×V)->TS}
variable {x y wt gn told:Str}{suite:List On}{b₀:On}{pw hpos pos p1 p2 p3 p4 p5 p6:Pos}{k n j1:Nat}{k0}{ps:List Str}{a c:Oo}{es:List Oo}{tl:TA}{g:List DV->M My}{ms:DE->M (List DV)}{hd:Str->List My->DE->Option DE}
end
section
variable [Feeds]{K:Frag}{mg:Str->Option Oe}{CA CB:Of}{nmA nmB odd beat:Str}{cl:List Of}{i j:Nat}
section
variable {G:GF}{B B0:List Of}{H0:Hp}{E E1:DE}{F:FS}{σ:St}{H:Hp}{ws:List V}{ds:List My}
end
end
section
variable {X:Cx}{e CA CB:Of}{fs:List (Str×V)}{i j:Nat}{cl:List Of}{x y z nmA nmB odd beat:Str}{ces ies:List Oo}{k1 k2 k3 k4 c1 c2 c3 c4:Nat}
 {p1 p2 p3 p4 p5 p6 p7 p8 p9 pa pb pc q1 q2 q3 q4 q5 r1 r2 r3 r4 r5 r6 r7 r8 r9 ra rb rc s1 s2 s3 s4 s5 t1 t2 t3 t4 t5 t6 t7 t8 t9 tx ty tz u1 u2 u3 u4 pos:Pos}
end
end
end L3
namespace Bz
open PySem L2 L3
variable [Fam]
def Bd (k:Nat)(z:Int):Prop:=z.natAbs<=2 ^ k
def Bd.mul {j k:Nat}{a b:Int}(h1:Bd j a)(h2:Bd k b):Bd (j+k) (a*b):=by unfold Bd at *;rw[Mz,MS];exact Kq h1 h2
def Bd.add {k:Nat}{a b:Int}(h1:Bd k a)(h2:Bd k b):Bd (k+1) (a+b):=by unfold Bd at *;rw[Nat.pow_succ];have:=Int.natAbs_add_le a b;omega
def Bd.mono {j k:Nat}{a:Int}(h1:Bd j a)(h:j<=k):Bd k a:=IV h1 (Jq (by decide) h)
def Bd.big {k:Nat}{a:Int}(h:Bd k a)(hk:k<400000):a.natAbs<R1:=by refine Jj h (IQ (m:=2 ^ (k+1)) ?_<|dM<|by omega);exact Mb (by decide) (by omega)
section
variable {F:FdS}{Q:My->FdS->Prop}{a b:Int}{k:Nat}
end
end Bz
namespace K67
open PySem L2 L3
section
def top (i:Nat):On:=PySem.Challenge.pw_hatchwaits_k67_back_papers_told_or_words.main.body.getD i<|.Pass ⟨0,0,0,0⟩
instance famI:Fam:=Cn []
abbrev Dy:On:=top 11
abbrev Ex:On:=top 12
abbrev GH:On:=top 13
abbrev FV:On:=top 14
abbrev GJ:On:=top 15
abbrev GK:On:=top 16
abbrev DL:On:=top 17
abbrev FW:On:=top 21
abbrev Dv:On:=top 23
abbrev EK:On:=top 24
abbrev FX:On:=top 26
abbrev Ey:On:=top 27
abbrev GL:On:=top 28
abbrev Ep:On:=top 30
abbrev DO:On:=top 31
abbrev DG:On:=top 32
abbrev DM:On:=top 33
abbrev EM:On:=top 35
abbrev DC:On:=top 37
abbrev DP:On:=top 38
abbrev DU:On:=top 40
abbrev DW:On:=top 41
abbrev DX:On:=top 42
abbrev Ds:On:=top 43
abbrev DD:On:=top 44
abbrev DF:On:=top 45
abbrev Dq:On:=top 46
abbrev Do:On:=top 47
abbrev Dr:On:=top 48
abbrev DY:On:=top 49
abbrev DQ:On:=top 50
abbrev Du:On:=top 51
abbrev Dk:On:=top 52
abbrev ini_NoRest:On:=wW<|top 4
def it_NoRest:IniTxt ini_NoRest "NoRest.__init__" ["word"]:=⟨⟨rfl,rfl,rfl,by decide +kernel,rfl,by decide +kernel,by decide +kernel⟩,by decide +kernel,(.cons .nil),by decide,by decide,λ_ _ _ _ _ _ us hl=>match us,hl with | [_,_],_=>rfl⟩
structure Txt (K:Fg) (mg:Str->Option Oe):Prop where
 ValueError:mg "ValueError" = none
 abs:mg "abs" = none
 bool:mg "bool" = none
 enumerate:mg "enumerate" = none
 int:mg "int" = none
 isinstance:mg "isinstance" = none
 len:mg "len" = none
 list:mg "list" = none
 max:mg "max" = none
 min:mg "min" = none
 range:mg "range" = none
 repr:mg "repr" = none
 sorted:mg "sorted" = none
 sum:mg "sum" = none
 tuple:mg "tuple" = none
 g_NOUGHT:GD K mg "NOUGHT" (.tuple [.int 0,.int 1])
 g_ONE:GD K mg "ONE" (.tuple [.int 1,.int 1])
 err_NoRest:Cw K mg "WaitError" "NoRest" ["NoBeat","NoComer","NoHouse","NoPaper","NoRow","NoText","TooMany"]
section
variable {P:Oh}{w:Oi}{K:Fg}{mg:Str->Option Oe}{base:Oq}
def K4:FnScope ["one","other"] ["one","other"] (defScope Dy):={}
abbrev U2:=D9
def EL {f:Of}{fd:Om}(Fn:Fun K "common_divisor" "common_divisor" Dy f fd)(T:Txt K mg) :FnOk P w K mg base CX0 1 f fd ["one","other"] (spD K 2 U2):=by
 refine w4 Fn K4 λOP A outer s H E hr=>?_
 exact⟨_,(d7 (cn 0 1 rfl K4.nd<|d8 (l7 (mV) T.abs lC<|j3 (j4 0) n6)<|d8 (l7 (mV) T.abs lC<|j3 (j4 1) n6) j7)
   (d7 (jC (x8 fF (j4 1)<|Ev.bw f8)<|g9<|cn 0 1 rfl K4.nd<|d8 (i5 1)<|d8 (i4 uz (j4 0)<|j4 1) j7)
   (g9<|l3<|i5 0)))⟩
def Y6:FnScope ["top","bottom","divisor"] ["top","bottom"] (defScope Ex):={}
abbrev M0:=C2
def Gi {f:Of}{fd:Om}(Fn:Fun K "fraction" "fraction" Ex f fd)(T:Txt K mg)(Dz:i3 P w K mg base "common_divisor" 1 ["one","other"] (spD K 2 U2)):FnOk P w K mg base CX0 2 f fd ["top","bottom"] (spD K 2 M0):=by
 refine w4 Fn Y6 λOP A outer s H E hr=>?_
 exact⟨_,(d7 (m6 2 Y6.nd<|i8 Dz hr<|i6 (i5 0)<|i6 (i5 1) g7)
   (d7 (G0 (x8 fG (j4 1)<|Ev.bw f8) (g9<|m6 2 Y6.nd<|yq tM<|j4 2) B9)
   (g9<|l3<|A0<|d8 (i4 dJ (j4 0)<|j4 2)<|d8 (i4 dJ (j4 1)<|j4 2) j7)))⟩
def vj:FnScope ["one","other"] ["one","other"] (defScope GH):={}
abbrev tN:=iJ
def HN {f:Of}{fd:Om}(Fn:Fun K "plus" "plus" GH f fd)(T:Txt K mg)(Dn:i3 P w K mg base "fraction" 2 ["top","bottom"] (spD K 2 M0)):FnOk P w K mg base CX0 3 f fd ["one","other"] (spD K 2 tN):=by
 refine w4 Fn vj λOP A outer s H E hr=>?_
 exact⟨_,(g9<|l3<|i8 Dn hr<|i6 (i4 (A5 rfl) (Ev.bw<|i4 (j0 rfl) (Ev.bw<|k9 0)<|Ev.bw<|k9 1)<|Ev.bw<|i4 (j0 rfl) (Ev.bw<|k9 1)<|Ev.bw<|k9 0)<|i6 (i4 (j0 rfl) (Ev.bw<|k9 0)<|Ev.bw<|k9 1) g7)⟩
def uv:FnScope ["one","other"] ["one","other"] (defScope FV):={}
abbrev dw:=dI
def Hv {f:Of}{fd:Om}(Fn:Fun K "minus" "minus" FV f fd)(T:Txt K mg)(Dn:i3 P w K mg base "fraction" 2 ["top","bottom"] (spD K 2 M0)):FnOk P w K mg base CX0 3 f fd ["one","other"] (spD K 2 dw):=by
 refine w4 Fn uv λOP A outer s H E hr=>?_
 exact⟨_,(g9<|l3<|i8 Dn hr<|i6 (i4 Y7 (Ev.bw<|i4 (j0 rfl) (Ev.bw<|k9 0)<|Ev.bw<|k9 1)<|Ev.bw<|i4 (j0 rfl) (Ev.bw<|k9 1)<|Ev.bw<|k9 0)<|i6 (i4 (j0 rfl) (Ev.bw<|k9 0)<|Ev.bw<|k9 1) g7)⟩
def vg:FnScope ["one","other"] ["one","other"] (defScope GJ):={}
abbrev jt:=Bz.c_over
def HP {f:Of}{fd:Om}(Fn:Fun K "over" "over" GJ f fd)(T:Txt K mg)(Dn:i3 P w K mg base "fraction" 2 ["top","bottom"] (spD K 2 M0)):FnOk P w K mg base CX0 3 f fd ["one","other"] (spD K 2 jt):=by
 refine w4 Fn vg λOP A outer s H E hr=>?_
 exact⟨_,(g9<|l3<|i8 Dn hr<|i6 (i4 (j0 rfl) (Ev.bw<|k9 0)<|Ev.bw<|k9 1)<|i6 (i4 (j0 rfl) (Ev.bw<|k9 0)<|Ev.bw<|k9 1) g7)⟩
def uP:FnScope ["one","other"] ["one","other"] (defScope GK):={}
abbrev uc:=Bz.c_less
def HQ {f:Of}{fd:Om}(Fn:Fun K "less" "less" GK f fd)(T:Txt K mg) :FnOk P w K mg base CX0 1 f fd ["one","other"] (spD K 2 uc):=by
 refine w4 Fn uP λOP A outer s H E hr=>?_
 exact⟨_,(g9<|l3<|cK fG (Ev.bw<|i4 (j0 rfl) (Ev.bw<|k9 0)<|Ev.bw<|k9 1)<|Ev.bw<|i4 (j0 rfl) (Ev.bw<|k9 1)<|Ev.bw<|k9 0)⟩
def fz:FnScope ["pairs","weighed"] ["pairs"] (defScope DL):={}
abbrev gv:=ao
def GM {f:Of}{fd:Om}(Fn:Fun K "mean_of" "mean_of" DL f fd)(T:Txt K mg)(Dn:i3 P w K mg base "fraction" 2 ["top","bottom"] (spD K 2 M0)):FnOk P w K mg base CX0 3 f fd ["pairs"] (spD K 1 gv):=by
 refine w4 Fn fz λOP A outer s H E hr=>?_
 exact⟨_,(d7 (m6 1 fz.nd<|l7 (R7 rfl rfl) T.sum Z0<|j3 (Ev.bw<|K3 (osc:=(defScope DL)) (N:=["number","lot"]) (k:=2) (cap:=[]) rfl rfl ⟨rfl,by decide +kernel,by decide +kernel,by decide +kernel,rfl,rfl,by decide +kernel⟩ (w8<|j4 0) (λcl C ex OM s H=>(x6 (n:=2) rfl<|f7 (n9 (i:=0)<|show List.Nodup (["number","lot"]:List Str) by decide +kernel)<|f7 (n9 (i:=1)<|show List.Nodup (["number","lot"]:List Str) by decide +kernel) u6)) (λcl C ex OM s H=>u9)<|λcl C ex OM s H=>(i4 (j0 rfl) (j4 0)<|j4 1)) n6)
   (g9<|l3<|i8 Dn hr<|i6 (i5 1)<|i6 (l7 (R7 rfl rfl) T.sum Z0<|j3 (Ev.bw<|K3 (osc:=(defScope DL)) (N:=["number","lot"]) (k:=2) (cap:=[]) rfl rfl ⟨rfl,by decide +kernel,by decide +kernel,by decide +kernel,rfl,rfl,by decide +kernel⟩ (w8<|j4 0) (λcl C ex OM s H=>(x6 (n:=2) rfl<|f7 (n9 (i:=0)<|show List.Nodup (["number","lot"]:List Str) by decide +kernel)<|f7 (n9 (i:=1)<|show List.Nodup (["number","lot"]:List Str) by decide +kernel) u6)) (λcl C ex OM s H=>u9)<|λcl C ex OM s H=>(i5 1)) n6) g7))⟩
def bR:FnScope ["parts","told","part"] ["parts"] (defScope FW):={}
abbrev dF:=Bz.c_added
def Hw {f:Of}{fd:Om}(Fn:Fun K "added" "added" FW f fd)(T:Txt K mg)(GN:i3 P w K mg base "plus" 3 ["one","other"] (spD K 2 tN)):FnOk P w K mg base CX0 4 f fd ["parts"] (spD K 1 dF):=by
 refine w4 Fn bR λOP A outer s H E hr=>?_
 exact⟨_,(d7 (m6 1 bR.nd<|BR T.g_NOUGHT)
   (d7 (L0 rfl (T2<|i5 0) (n9 (i:=2) bR.nd)<|g9<|m6 1 bR.nd<|i8 GN hr<|i6 (i5 1)<|i6 (i5 2) g7)
   (g9<|l3<|i5 1)))⟩
def ck:FnScope ["beats"] ["beats"] (defScope Dv):={}
def C8:List DV->M My:=F0 ["beats"]<|mRt<|sN ff<|d5 (lX (C9<|sW 0) 4 [] (D6 2<|i9 (bN 0)<|i9 (bN 1) E7) C6 (C9<|sV 0) (D6 2<|i9 (bN 2)<|i9 (bN 3) E7) C6<|sV 3)<|d5 (sC<|.int 0) j9
def EN {f:Of}{fd:Om}(Fn:Fun K "greatest_work" "greatest_work" Dv f fd)(T:Txt K mg) :FnOk P w K mg base CX0 1 f fd ["beats"] (spD K 1 C8):=by
 refine w4 Fn ck λOP A outer s H E hr=>?_
 exact⟨_,(g9<|l3<|xx rfl rfl T.max (Ev.bw<|mh (osc:=(defScope Dv)) (N:=["beat","lot","rank","work"]) (k:=4) (cap:=[]) rfl rfl ⟨rfl,by decide +kernel,by decide +kernel,by decide +kernel,rfl,rfl,by decide +kernel⟩ (w8<|j4 0) (λcl C ex OM s H=>(x6 (n:=2) rfl<|f7 (n9 (i:=0)<|show List.Nodup (["beat","lot","rank","work"]:List Str) by decide +kernel)<|f7 (n9 (i:=1)<|show List.Nodup (["beat","lot","rank","work"]:List Str) by decide +kernel) u6)) (λcl C ex OM s H=>u9) (λcl C ex OM s H=>(T2<|i5 0)) (λcl C ex OM s H=>(x6 (n:=2) rfl<|f7 (n9 (i:=2)<|show List.Nodup (["beat","lot","rank","work"]:List Str) by decide +kernel)<|f7 (n9 (i:=3)<|show List.Nodup (["beat","lot","rank","work"]:List Str) by decide +kernel) u6)) (λcl C ex OM s H=>u9)<|λcl C ex OM s H=>(i5 3))<|Ev.bw f8)⟩
def cw:FnScope ["paper","stand","drop","heights"] ["paper","stand"] (defScope EK):={}
def Q4:List DV->M My:=F0 ["paper","stand","drop","heights"] (mSq (oW (D6 2<|i9 (bN 2)<|i9 (bN 3) E7)<|sV 0)
  (mRt<|i0 dF<|vD (sLC (C9<|sW 1) 3 [3] (D6 3<|i9 (bN 0)<|i9 (bN 1)<|i9 (bN 2) E7) C6<|s2 ixD (sW 3)<|s2 fS (sW 1)<|sC<|.int 1) m9))
def Hj {f:Of}{fd:Om}(Fn:Fun K "height" "height" EK f fd)(T:Txt K mg)(FY:i3 P w K mg base "added" 4 ["parts"] (spD K 1 dF)):FnOk P w K mg base CX0 5 f fd ["paper","stand"] (spD K 2 Q4):=by
 refine w4 Fn cw λOP A outer s H E hr=>?_
 exact⟨_,(d7 (mZ (i5 0)<|x6 (n:=2) rfl<|f7 (n9 (i:=2) cw.nd)<|f7 (n9 (i:=3) cw.nd) u6)
   (g9<|l3<|i8 FY hr<|i6 (K3 (osc:=(defScope EK)) (N:=["rank","left","begun","heights"]) (k:=3) (cap:=[3]) rfl rfl ⟨rfl,by decide +kernel,by decide +kernel,by decide +kernel,rfl,rfl,by decide +kernel⟩ (w8<|j4 1) (λcl C ex OM s H=>(x6 (n:=3) rfl<|f7 (n9 (i:=0)<|show List.Nodup (["rank","left","begun","heights"]:List Str) by decide +kernel)<|f7 (n9 (i:=1)<|show List.Nodup (["rank","left","begun","heights"]:List Str) by decide +kernel)<|f7 (n9 (i:=2)<|show List.Nodup (["rank","left","begun","heights"]:List Str) by decide +kernel) u6)) (λcl C ex OM s H=>u9)<|λcl C ex OM s H=>(W6 (W8 rfl) (j4 3)<|Ev.bw<|i4 Y7 (j4 1)<|Ev.bw f8)) g7))⟩
def sE:FnScope ["flow"] ["flow"] (defScope FX):={}
abbrev bC:=dN
def Hx {f:Of}{fd:Om}(Fn:Fun K "total" "total" FX f fd)(T:Txt K mg) :FnOk P w K mg base CX0 1 f fd ["flow"] (spD K 1 bC):=by
 refine w4 Fn sE λOP A outer s H E hr=>?_
 exact⟨_,(g9<|l3<|l7 (R7 rfl rfl) T.sum Z0<|j3 (j4 0) n6)⟩
def jW:FnScope ["flow","k"] ["flow","k"] (defScope Ey):={}
abbrev fq:=W1
def Gj {f:Of}{fd:Om}(Fn:Fun K "share_of" "share_of" Ey f fd)(T:Txt K mg)(Dn:i3 P w K mg base "fraction" 2 ["top","bottom"] (spD K 2 M0))(Er:i3 P w K mg base "total" 1 ["flow"] (spD K 1 bC)):FnOk P w K mg base CX0 3 f fd ["flow","k"] (spD K 2 fq):=by
 refine w4 Fn jW λOP A outer s H E hr=>?_
 exact⟨_,(d7 (G0 (Y3<|uI qK fG (Ev.bw f8) (j4 1)<|Ev.bw<|l7 (bX rfl) T.len bW<|j3 (j4 0) n6) (g9<|l3<|dk (.tuple [.int 0,.int 1]) rfl) B9)
   (g9<|l3<|i8 Dn hr<|i6 (W6 (W8 rfl) (j4 0)<|j4 1)<|i6 (i8 Er hr<|i6 (i5 0) g7) g7))⟩
def xl:FnScope ["flow"] ["flow"] (defScope GL):={}
abbrev dY:=eV
def HR {f:Of}{fd:Om}(Fn:Fun K "mean" "mean" GL f fd)(T:Txt K mg)(EO:i3 P w K mg base "mean_of" 3 ["pairs"] (spD K 1 gv)):FnOk P w K mg base CX0 4 f fd ["flow"] (spD K 1 dY):=by
 refine w4 Fn xl λOP A outer s H E hr=>?_
 exact⟨_,(g9<|l3<|i8 EO hr<|i6 (sA (i5 0) rfl T.enumerate T.list wH) g7)⟩
def lM:FnScope ["way"] ["way"] (defScope Ep):={}
def V0:List DV->M My:=F0 ["way"]<|mRt<|sN Q9<|d5 (lX (C9<|sW 0) 3 [] (bN 0) C6 (C9<|sV 0) (D6 2<|i9 (bN 1)<|i9 (bN 2) E7) C6<|sV 2) j9
def GO {f:Of}{fd:Om}(Fn:Fun K "work_in" "work_in" Ep f fd)(T:Txt K mg) :FnOk P w K mg base CX0 1 f fd ["way"] (spD K 1 V0):=by
 refine w4 Fn lM λOP A outer s H E hr=>?_
 exact⟨_,(g9<|l3<|l7 (R7 rfl rfl) T.sum Z0<|j3 (Ev.bw<|mh (osc:=(defScope Ep)) (N:=["beat","rank","work"]) (k:=3) (cap:=[]) rfl rfl ⟨rfl,by decide +kernel,by decide +kernel,by decide +kernel,rfl,rfl,by decide +kernel⟩ (w8<|j4 0) (λcl C ex OM s H=>(n9 (i:=0)<|show List.Nodup (["beat","rank","work"]:List Str) by decide +kernel)) (λcl C ex OM s H=>u9) (λcl C ex OM s H=>(T2<|i5 0)) (λcl C ex OM s H=>(x6 (n:=2) rfl<|f7 (n9 (i:=1)<|show List.Nodup (["beat","rank","work"]:List Str) by decide +kernel)<|f7 (n9 (i:=2)<|show List.Nodup (["beat","rank","work"]:List Str) by decide +kernel) u6)) (λcl C ex OM s H=>u9)<|λcl C ex OM s H=>(i5 2)) n6)⟩
def kr:FnScope ["weighed","works"] ["weighed","works"] (defScope DO):={}
def V1:List DV->M My:=F0 ["weighed","works"]<|mRt<|lX (C9<|sW 0) 4 [1] (D6 2<|i9 (bN 0)<|i9 (bN 1) E7) C6 (jV<|sV 4) (D6 2<|i9 (bN 2)<|i9 (bN 3) E7) (uB<|s2 gtD (sW 3)<|sC<|.int 0)<|K8<|d5 (s2 K0 (sW 0)<|K8<|d5 (K8<|d5 (sC<|.int 0)<|d5 (s2 K0 (sW 2)<|sC<|.int 1) j9) j9)<|d5 (s2 m5 (sW 1)<|sW 3) j9
def Gk {f:Of}{fd:Om}(Fn:Fun K "one_more" "one_more" DO f fd)(T:Txt K mg) :FnOk P w K mg base CX0 1 f fd ["weighed","works"] (spD K 2 V1):=by
 refine w4 Fn kr λOP A outer s H E hr=>?_
 exact⟨_,(g9<|l3<|mh (osc:=(defScope DO)) (N:=["beat","weight","k","lot","works"]) (k:=4) (cap:=[1]) rfl rfl ⟨rfl,by decide +kernel,by decide +kernel,by decide +kernel,rfl,rfl,by decide +kernel⟩ (w8<|j4 0) (λcl C ex OM s H=>(x6 (n:=2) rfl<|f7 (n9 (i:=0)<|show List.Nodup (["beat","weight","k","lot","works"]:List Str) by decide +kernel)<|f7 (n9 (i:=1)<|show List.Nodup (["beat","weight","k","lot","works"]:List Str) by decide +kernel) u6)) (λcl C ex OM s H=>u9) (λcl C ex OM s H=>(oS (i5 4) T.enumerate)) (λcl C ex OM s H=>(x6 (n:=2) rfl<|f7 (n9 (i:=2)<|show List.Nodup (["beat","weight","k","lot","works"]:List Str) by decide +kernel)<|f7 (n9 (i:=3)<|show List.Nodup (["beat","weight","k","lot","works"]:List Str) by decide +kernel) u6)) (λcl C ex OM s H=>(nG<|x8 fF (j4 3)<|Ev.bw f8))<|λcl C ex OM s H=>(A0<|d8 (i4 (A5 rfl) (j4 0)<|Ev.bw<|A0<|d8 (A0<|d8 f8<|d8 (i4 (A5 rfl) (j4 2)<|Ev.bw f8) j7) j7)<|d8 (i4 (j0 rfl) (j4 1)<|j4 3) j7))⟩
def B7:FnScope ["counts","works","last","powers","turn","told","weighed","many","lot"] ["counts","works"] (defScope DG):={}
def L9:List DV->M My:=F0 ["counts","works","last","powers","turn","told","weighed","many","lot"] (mSq (A4 2<|s2 fS (sN ig<|d5 (sW 0) j9)<|sC<|.int 1)
  (mSq (iw 3<|jY<|d5 (sC<|.int 1) j9)
  (mSq (W9 (Y2<|d5 (sV 2) j9) (bN 4)<|mB 3<|s2 m5 (s2 ixD (sW 3)<|s1 wJ<|sC<|.int 1)<|i0 bC<|vD (sV 1) m9)
  (mSq (oA 5 6 (cO<|jY j9)<|cD<|sC<|.list [.tuple [.tuple [],.int 1]])
  (mSq (W9 (jV<|sV 0) (D6 2<|i9 (bN 7)<|i9 (bN 8) E7) (mSq (mIf (uB<|s2 gtD (sW 7)<|sC<|.int 0) (A4 6<|i0 V1<|vD (sV 6)<|vD (sV 1) m9) mNx)
  (mIf (uB<|s2 gtD (sW 8)<|sC<|.int 0) (jK 5<|sLC (C9<|sW 6) 2 [8,3,2,7] (D6 2<|i9 (bN 0)<|i9 (bN 1) E7) C6<|K8<|d5 (sV 0)<|d5 (s2 m5 (s2 m5 (sW 2)<|sW 1)<|s2 ixD (sW 3)<|s2 fS (sW 4)<|sW 5) j9) mNx)))
  (mRt<|sN T7<|d5 (sN Y0<|d5 (sW 5) j9) j9))))))
def Gm {f:Of}{fd:Om}(Fn:Fun K "beats_of" "beats_of" DG f fd)(T:Txt K mg)(Er:i3 P w K mg base "total" 1 ["flow"] (spD K 1 bC))(EA:i3 P w K mg base "one_more" 1 ["weighed","works"] (spD K 2 V1)):FnOk P w K mg base CX0 2 f fd ["counts","works"] (spD K 2 L9):=by
 refine w4 Fn B7 λOP A outer s H E hr=>?_
 have hu5:(A.deeper<|PyProof.Rows.envOfC "beats_of" (defScope DG) s.heap.objs.size f OP).units+65<OG:=by have:=hr.un;omega
 exact⟨_,(d7 (m6 2 B7.nd<|i4 Y7 (Ev.bw<|l7 (bX rfl) T.len bW<|j3 (j4 0) n6)<|Ev.bw f8)
   (d7 (eE 3 B7.nd<|ft<|d8 f8 j7)
   (d7 (L0 rfl (S8 (d8 (i5 2) j7) T.range) (n9 (i:=4) B7.nd)<|g9<|mG 3 rfl<|i4 (j0 rfl) (Ev.bw<|W6 (W8 rfl) (j4 3)<|Ev.bw<|yq tM<|Ev.bw f8)<|Ev.bw<|i8 Er hr<|i6 (i5 1) g7)
   (d7 (xj 5 6 rfl B7.nd (Cp<|ft j7)<|CI<|dk (.list [.tuple [.tuple [],.int 1]]) rfl)
   (d7 (L0 rfl (oS (i5 0) T.enumerate) (x6 (n:=2) rfl<|f7 (n9 (i:=7) B7.nd)<|f7 (n9 (i:=8) B7.nd) u6) (d7 (G0 (x8 fF (j4 7)<|Ev.bw f8) (g9<|m6 6 B7.nd<|i8 EA hr<|i6 (i5 6)<|i6 (i5 1) g7) B9)
   (g9<|G0 (x8 fF (j4 8)<|Ev.bw f8) (g9<|wz 5 B7.nd<|Ev.bw<|K3 (osc:=(defScope DG)) (N:=["beat","weight","lot","powers","last","many"]) (k:=2) (cap:=[8,3,2,7]) rfl rfl ⟨rfl,by decide +kernel,by decide +kernel,by decide +kernel,rfl,rfl,by decide +kernel⟩ (w8<|j4 6) (λcl C ex OM s H=>(x6 (n:=2) rfl<|f7 (n9 (i:=0)<|show List.Nodup (["beat","weight","lot","powers","last","many"]:List Str) by decide +kernel)<|f7 (n9 (i:=1)<|show List.Nodup (["beat","weight","lot","powers","last","many"]:List Str) by decide +kernel) u6)) (λcl C ex OM s H=>u9)<|λcl C ex OM s H=>(A0<|d8 (i5 0)<|d8 (i4 (j0 rfl) (Ev.bw<|i4 (j0 rfl) (j4 2)<|j4 1)<|Ev.bw<|W6 (W8 rfl) (j4 3)<|Ev.bw<|i4 Y7 (j4 4)<|j4 5) j7)) B9)))
   (g9<|l3<|N7 (Q3 rfl) T.tuple I0<|j3 (Ev.bw<|l7 (qB rfl<|Jj (Mi (by decide) _) hu5) T.sorted hU<|j3 (j4 5) n6) n6))))))⟩
def P9:FnScope ["beats","brought","told","work","lot"] ["beats"] (defScope DM):={}
def U5:List DV->M My:=F0 ["beats","brought","told","work","lot"] (mSq (A4 1<|sLC (C9<|sW 0) 2 [] (D6 2<|i9 (bN 0)<|i9 (bN 1) E7) C6<|K8<|d5 (i0 V0<|vD (K8<|d5 (sV 0) j9) m9)<|d5 (sV 1) j9)
  (mSq (iw 2<|vN (sC<|.list [.int 0])<|s2 K0 (sN lq<|d5 (sLC (C9<|sW 1) 2 [] (D6 2<|i9 (bN 0)<|i9 (bN 1) E7) C6<|sV 0) j9)<|sC<|.int 1)
  (mSq (W9 (C9<|sV 1) (D6 2<|i9 (bN 3)<|i9 (bN 4) E7)<|fP (λi j=>i+j) 2 (sV 3)<|sV 4)
  (mRt<|sN T7<|d5 (sW 2) j9))))
def GP {f:Of}{fd:Om}(Fn:Fun K "flow_of" "flow_of" DM f fd)(T:Txt K mg)(ER:i3 P w K mg base "work_in" 1 ["way"] (spD K 1 V0)):FnOk P w K mg base CX0 2 f fd ["beats"] (spD K 1 U5):=by
 refine w4 Fn P9 λOP A outer s H E hr=>?_
 exact⟨_,(d7 (eW 1 (hN:=P9.nd) (osc:=(defScope DM)) (N:=["beat","lot"]) (k:=2) (cap:=[]) (hc:=rfl) (hosc:=rfl) (hcap:=⟨rfl,by decide +kernel,by decide +kernel,by decide +kernel,rfl,rfl,by decide +kernel⟩) (w8<|j4 0) (λcl C ex OM s H=>(x6 (n:=2) rfl<|f7 (n9 (i:=0)<|show List.Nodup (["beat","lot"]:List Str) by decide +kernel)<|f7 (n9 (i:=1)<|show List.Nodup (["beat","lot"]:List Str) by decide +kernel) u6)) (λcl C ex OM s H=>u9)<|λcl C ex OM s H=>(A0<|d8 (i8 ER hr<|i6 (A0<|d8 (i5 0) j7) g7)<|d8 (i5 1) j7))
   (d7 (eE 2 P9.nd<|zP (Ev.bw<|dk (.list [.int 0]) rfl)<|Ev.bw<|i4 (A5 rfl) (Ev.bw<|l7 (ni rfl rfl) T.max jf<|j3 (Ev.bw<|K3 (osc:=(defScope DM)) (N:=["work","lot"]) (k:=2) (cap:=[]) rfl rfl ⟨rfl,by decide +kernel,by decide +kernel,by decide +kernel,rfl,rfl,by decide +kernel⟩ (w8<|j4 1) (λcl C ex OM s H=>(x6 (n:=2) rfl<|f7 (n9 (i:=0)<|show List.Nodup (["work","lot"]:List Str) by decide +kernel)<|f7 (n9 (i:=1)<|show List.Nodup (["work","lot"]:List Str) by decide +kernel) u6)) (λcl C ex OM s H=>u9)<|λcl C ex OM s H=>(i5 0)) n6)<|Ev.bw f8)
   (d7 (L0 rfl (T2<|i5 1) (x6 (n:=2) rfl<|f7 (n9 (i:=3) P9.nd)<|f7 (n9 (i:=4) P9.nd) u6)<|g9<|uF 2 rfl (i5 3)<|i5 4)
   (g9<|l3<|N7 (Q3 rfl) T.tuple I0<|j3 (j4 2) n6))))⟩
def eG:FnScope ["flow","hands","brought","most"] ["flow","hands"] (defScope EM):={}
abbrev aa:=Bz.c_word_of
def GQ {f:Of}{fd:Om}(Fn:Fun K "word_of" "word_of" EM f fd)(T:Txt K mg)(ES:i3 P w K mg base "mean" 4 ["flow"] (spD K 1 dY))(FZ:i3 P w K mg base "less" 1 ["one","other"] (spD K 2 uc))(EB:i3 P w K mg base "share_of" 3 ["flow","k"] (spD K 2 fq)):FnOk P w K mg base CX0 5 f fd ["flow","hands"] (spD K 2 aa):=by
 refine w4 Fn eG λOP A outer s H E hr=>?_
 exact⟨_,(d7 (cn 2 3 rfl eG.nd<|d8 (i8 ES hr<|i6 (i5 0) g7)<|d8 (A0<|d8 (i5 1)<|d8 f8 j7) j7)
   (d7 (G0 (W0<|Ev.bw<|i8 FZ hr<|i6 (i5 2)<|i6 (i5 3) g7) (g9<|l3 M6) B9)
   (d7 (G0 (W0<|Ev.bw<|i8 FZ hr<|i6 (i5 3)<|i6 (i5 2) g7) (g9<|l3 M6) B9)
   (g9<|l3<|sD (x8 (fm rfl hr.units) (Ev.bw<|i8 EB hr<|i6 (i5 0)<|i6 (i5 1) g7)<|Ev.bw<|BR T.g_ONE) M6 M6))))⟩
def M8:FnScope ["beats","hands","most","flow","word","many"] ["beats","hands","most"] (defScope DC):={}
def Dt:List DV->M My:=F0 ["beats","hands","most","flow","word","many"] (mSq (A4 3<|i0 U5<|vD (sV 0) m9)
  (mSq (A4 4<|i0 aa<|vD (sV 3)<|vD (sV 1) m9)
  (mSq (mIf (uB<|s2 (eqD true) (sW 4)<|sC<|.str "rests") (iO "NoRest"<|d5 (sV 4) j9) mNx)
  (mSq (A4 5<|sN oK<|d5 (sC<|.int 1)<|d5 (sW 2)<|d5 (i0 C8<|vD (sV 0) m9) j9)
  (mRt<|K8<|d5 (i0 dw<|vD (K8<|d5 (sV 1)<|d5 (sC<|.int 1) j9)<|vD (i0 dY<|vD (sV 3) m9) m9)<|d5 (sN T7<|d5 (sLC (Y2<|d5 (sV 5) j9) 1 [] (bN 0) C6<|K8<|d5 (s2 K0 (sW 0)<|sC<|.int 1)<|d5 (sC<|.int 1) j9) j9) j9)))))
def FH {f:Of}{fd:Om}(Fn:Fun K "back_paper" "back_paper" DC f fd)(T:Txt K mg)(ET:i3 P w K mg base "flow_of" 2 ["beats"] (spD K 1 U5))(EU:i3 P w K mg base "word_of" 5 ["flow","hands"] (spD K 2 aa))(DA:i3 P w K mg base "greatest_work" 1 ["beats"] (spD K 1 C8))(Ga:i3 P w K mg base "minus" 3 ["one","other"] (spD K 2 dw))(ES:i3 P w K mg base "mean" 4 ["flow"] (spD K 1 dY)):FnOk P w K mg base (CXe P w) 6 f fd ["beats","hands","most"] (spX K mg 3 Dt):=by
 refine uO Fn M8 λOP A outer s H E hr=>?_
 obtain⟨Wt_NoRest,Cl_NoRest,fi_NoRest,cl_NoRest,hW_NoRest,hA_NoRest,ecl_NoRest,eini_NoRest,efit_NoRest⟩:=T.err_NoRest;exact⟨_,(fh (xH<|m6 3 M8.nd<|i8 ET hr<|i6 (i5 0) g7)
   (fh (xH<|m6 4 M8.nd<|i8 EU hr<|i6 (i5 3)<|i6 (i5 1) g7)
   (fh (BX (x8 (bP rfl hr.units) (j4 4)<|Ev.bw M6) (wN<|qZ "NoRest" xr ecl_NoRest eini_NoRest (hr.mono<|by decide) efit_NoRest.mgc<|d8 (i5 4) j7)<|tH B9)
   (tH (d7 (m6 5 M8.nd<|l7 (wq rfl rfl) T.max jf<|j3 (Ev.bw f8)<|j3 (j4 2)<|j3 (Ev.bw<|i8 DA hr<|i6 (i5 0) g7) n6)
   (g9<|l3<|A0<|d8 (i8 Ga hr<|i6 (A0<|d8 (i5 1)<|d8 f8 j7)<|i6 (i8 ES hr<|i6 (i5 3) g7) g7)<|d8 (N7 (Q3 rfl) T.tuple I0<|j3 (Ev.bw<|K3 (osc:=(defScope DC)) (N:=["k"]) (k:=1) (cap:=[]) rfl rfl ⟨rfl,by decide +kernel,by decide +kernel,by decide +kernel,rfl,rfl,by decide +kernel⟩ (Ei.bw<|S8 (d8 (i5 5) j7) T.range) (λcl C ex OM s H=>(n9 (i:=0)<|show List.Nodup (["k"]:List Str) by decide +kernel)) (λcl C ex OM s H=>u9)<|λcl C ex OM s H=>(A0<|d8 (i4 (A5 rfl) (j4 0)<|Ev.bw f8)<|d8 f8 j7)) n6) j7))))))⟩
def fQ:FnScope ["paper","stand"] ["paper","stand"] (defScope DP):={}
def L4:List DV->M My:=F0 ["paper","stand"]<|mRt<|i0 jt<|vD (i0 Q4<|vD (sV 0)<|vD (sV 1) m9)<|vD (s2 ixD (sW 0)<|sC<|.int 0) m9
def FJ {f:Of}{fd:Om}(Fn:Fun K "back_bound" "back_bound" DP f fd)(T:Txt K mg)(GR:i3 P w K mg base "over" 3 ["one","other"] (spD K 2 jt))(DN:i3 P w K mg base "height" 5 ["paper","stand"] (spD K 2 Q4)):FnOk P w K mg base CX0 6 f fd ["paper","stand"] (spD K 2 L4):=by
 refine w4 Fn fQ λOP A outer s H E hr=>?_
 exact⟨_,(g9<|l3<|i8 GR hr<|i6 (i8 DN hr<|i6 (i5 0)<|i6 (i5 1) g7)<|i6 (k9 0) g7)⟩
def jm (K:Fg):Sp:=λvs H Q _=>∃(a:Of) (ns:List Int),vs=[.ref a]/\SqL K H a (ns.map V.int)/\ns.length<=63 /\
 ∀(d c:Of) (H':Hp),Feeds.At d c H' (kD ns)->k8 H H'->Q (.ref d) H'
def Bm {ns:List Int}(h:ns.length<=63):pZ (ns.map V.int) none (some 63)=ns.map V.int:=by unfold pZ;have e:HT.sIx (ns.map V.int).length (ns.map V.int).length (some 63)=min 63 (ns.map V.int).length:=HT.sIx_nat _ _ 63;rw[e,HT.sIx_none,List.drop_zero,Nat.sub_zero,MN (by rw[Iz];omega)]
def jb:FnScope ["_law_script"] ["_law_script"] (defScope DU):={}
def Gb {f:Of}{fd:Om}(F:Fun K "_law_feed" "_law_feed" DU f fd):FnOk P w K mg base CX0 1 f fd ["_law_script"] (jm K):=by
 refine F.ok jb (λvs H Q E h=>?_) (λOP A outer s H vs Q E hr h=>?_)
 .obtain⟨a,ns,rfl,_⟩:=h;rfl
 .obtain⟨a,ns,rfl,hS,hl,k⟩:=h;refine⟨_,O6<|cq<|jl<|l8 (sZ vU (pv 0) vB<|vo p0)<|l8 p0<|l8 p0 A8,?_⟩;refine⟨_,rfl,63,rfl,a,_,rfl,hS,λq hq=>⟨Ka<|cN (by show 3<=1000;decide),λp hp=>?_⟩⟩;rw[Bm hl]at hp ⊢;have nqp:q≠p:=l6 i7 hp;refine k p q _ ⟨i7,by rw[h8 nqp];exact i7,hl,(by show(0:Int)<=0;decide),(by show(0:Int)<=0;decide),JC nqp⟩ λb o e=>?_
  have e1:upd H q (.lst<|ns.map V.int) b=some o:=by rw[h8<|l6 e hq];exact e
  rw[h8<|l6 e1 hp];exact e1
def E3:FnScope ["_law_feed_here","_law_many","_law_found","_law_at","_law_cell","_law_first"] ["_law_feed_here","_law_many"] (defScope DW):={}
def Gc {f:Of}{fd:Om}(Fn:Fun K "_law_draw" "_law_draw" DW f fd)(T:Txt K mg):FnOk P w K mg base CX0 1 f fd ["_law_feed_here","_law_many"] (spD K 2 A2):=by
 refine Fn.ok E3 (λvs H Q E h=>?_) (λOP A outer s H vs Q E hr h=>?_)
 .obtain⟨G,B,F,args,d,F',hl,_⟩:=h;exact hl
 .obtain⟨G,B,F,args,dd,F',hl,fB,bk,fa,ha,hm0,q⟩:=h;obtain⟨m,rfl⟩:∃m,args=[.feed,.dat<|.int m]:=by
   unfold A2 at hm0;split at hm0
   .exact⟨_,rfl⟩
   .cases hm0
  obtain⟨v,r,rfl,_,⟨d,c,rfl,rfl⟩,v2,r2,rfl,_,hv2,rfl⟩:=ha;have hv2:v2 = .int m:=by simpa only[DVr,c6] using hv2
  subst hv2;obtain⟨⟨r0,F1⟩,e1,e2⟩:=bS9 hm0;cases e2;replace e1:cW m F=some (r0,F1):=e1;have hcond:0<m/\m<1073741824/\F.t<199999:=by
   unfold cW at e1;split at e1
   .assumption
   .cases e1
  obtain⟨hm,hm2,htl⟩:=hcond;obtain⟨ns,a,l,t⟩:=F;obtain⟨⟨hd,hc,hl63,ha0,ht0,ndc⟩,tbo⟩:=fa;simp only at hd hc hl63 ha0 ht0 htl;have k:∀(r:Int) (H':Hp) (F2:FdS),cW m ⟨ns,a,l,t⟩=some (r,F2)->Feeds.At d c H' F2->(∀b o,H b=some o->b≠d->H' b=some o)->Q (.int r) H':=λr H' F2 er fa' kp=>by rw[er]at e1;cases e1;exact q _ H' (λb o e nb=>kp b o e λz=>nb<|by simp[m7,z]) ⟨fa',tbo.but hd ⟨λ_ z=>(by cases z),λ_ z=>(by cases z)⟩ kp⟩ c6.int
  have hdr:cW m ⟨ns,a,l,t⟩=some (if 0<l then(l % m,⟨ns,a,l / m,t+1⟩) else if 10 ^ 18<=(FdS.cellL ⟨ns,a,l,t⟩)/\a<ns.length then((FdS.cellL ⟨ns,a,l,t⟩) % m,⟨ns,a+1,(FdS.cellL ⟨ns,a,l,t⟩) / m,t+1⟩) else((FdS.mixL ⟨ns,a,l,t⟩) % m,⟨ns,a+1,l,t+1⟩)):=by unfold cW;rw[IE ⟨hm,hm2,htl⟩]
  have ncd:c≠d:=JC ndc;refine⟨_,B1 (jQ (bu uC (aA N2 (pv 0) p0<|λ_ _=>rfl) p0<|cB _)
    (B1 (N9 (i:=2) E3.nd rfl (Or.inl rfl)<|C3 W3 (aA N2 (pv 0) p0<|λ_ _=>rfl)<|pv 1)
     (B1 (iK (C3 jq (aA N2 (pv 0) p0<|λ_ _=>rfl)<|pv 1)<|mP (pv 0) p0 bL<|λ_=>rfl)<|O6<|cq<|pv 2)) dB)
   (B1 (N9 (i:=3) E3.nd rfl (Or.inl rfl)<|aA N2 (pv 0) p0<|λ_ _=>rfl)
   (B1 (iK (C3 aK (pv 3) p0)<|mP (pv 0) p0 bL<|λ_=>rfl)
   (B1 (N9 (i:=4) E3.nd rfl (Or.inl rfl) (kf (bu uC (L7 P3 (by rfl) T.len PySem.boot_len<|l8 (aA N2 (pv 0) p0<|λ_ _=>rfl) A8) p0<|cB _)
    (aA N2 (aA N2 (pv 0) p0<|λ_ _=>rfl) (C3 W3 (pv 3)<|L7 P3 (by rfl) T.len PySem.boot_len<|l8 (aA N2 (pv 0) p0<|λ_ _=>rfl) A8)<|λ_ _=>rfl) p0))
   (B1 (jQ (PW.pt<|mv (bu Bx (pv 4) (C3 qX p0 p0)<|cB _)<|og<|bu xQ (pv 3) (L7 P3 (by rfl) T.len PySem.boot_len<|l8 (aA N2 (pv 0) p0<|λ_ _=>rfl) A8)<|cB _)
    (B1 (iK (C3 jq (pv 4)<|pv 1)<|mP (pv 0) p0 bL<|λ_=>rfl)<|O6<|cq<|C3 W3 (pv 4)<|pv 1) dB)
   (B1 (N9 (i:=5) E3.nd rfl (Or.inl rfl)<|C3 W3 (C3 aO (C3 aK (C3 aK (C3 aK (C3 W3 (pv 4) p0)<|C3 aO (C3 aO p0<|pv 3)<|pv 3)<|C3 aO p0<|pv 3) p0) p0) p0)
   (B1 (N9 (i:=5) E3.nd rfl (Or.inl rfl)<|C3 W3 (C3 aK (C3 aK (C3 aO (pv 5)<|pv 5)<|C3 aO p0<|pv 3) p0) p0)
   (O6<|cq<|C3 W3 (C3 jq (C3 W3 (C3 aO (pv 5) p0) p0) p0)<|pv 1))))))),?_⟩
  refine⟨_,rfl,d,_,_,_,rfl,rfl,SqL.of hd,rfl,_,_,rfl,rfl,_,rfl,?_⟩;refine qx (λhleft=>?_) (λhleft=>?_)
  .have hleft:0<l:=Jg hleft;refine⟨_,rfl,d,_,_,_,rfl,rfl,SqL.of hd,rfl,_,rfl,_,_,rfl,rfl,hm,?_⟩;refine⟨_,rfl,d,_,_,_,rfl,rfl,SqL.of hd,rfl,_,rfl,_,_,rfl,rfl,⟨hm,hm2⟩,_,rfl,d,_,_,2,rfl,rfl,hd,rfl,_,rfl,?_⟩;exact k _ _ ⟨ns,a,l / m,t+1⟩ (by rw[hdr,IE hleft]) ⟨i7,by rw[h8 ncd];exact hc,hl63,ha0,by simp only;omega,ndc⟩ (λb o e hb=>by rw[h8 hb];exact e)
  .have hleft:¬0<l:=λz=>hleft<|Je z
   refine⟨_,rfl,d,_,_,_,rfl,rfl,SqL.of hd,rfl,?_⟩;refine⟨_,rfl,_,_,rfl,rfl,_,rfl,d,_,_,1,rfl,rfl,hd,rfl,?_⟩;have hd1:(upd H d<|.lst [.ref c,.int<|a+1,.int l]) d=some (.lst [.ref c,.int<|a+1,.int l]):=i7;have hc1:(upd H d<|.lst [.ref c,.int<|a+1,.int l]) c=some (.lst<|ns.map V.int):=by rw[h8 ncd];exact hc
   have kp1:∀b o,H b=some o->b≠d->(upd H d<|.lst [.ref c,.int<|a+1,.int l]) b=some o:=λb o e hb=>by rw[h8 hb];exact e
   show tZ _ _ _ _<|upd H d<|.lst [.ref c,.int<|a+1,.int l];generalize upd H d (.lst [.ref c,.int<|a+1,.int l])=H1 at hd1 hc1 kp1;have big:10 ^ 18<=(FdS.cellL ⟨ns,a,l,t⟩)/\a<ns.length->Q (.int<|FdS.cellL ⟨ns,a,l,t⟩ % m) (upd H1 d<|.lst [.ref c,.int<|a+1,.int<|FdS.cellL ⟨ns,a,l,t⟩ / m]):=λhb =>
    k _ _ ⟨ns,a+1,FdS.cellL ⟨ns,a,l,t⟩ / m,t+1⟩ (by rw[hdr,II hleft,IE hb]) ⟨i7,by rw[h8 ncd];exact hc1,hl63,by simp only;omega,by simp only;omega,ndc⟩ (λb o e hb=>by rw[h8 hb];exact kp1 b o e hb)
   have small:¬(10 ^ 18<=(FdS.cellL ⟨ns,a,l,t⟩)/\a<ns.length)->Q (.int<|FdS.mixL ⟨ns,a,l,t⟩ % m) H1:=λhb =>
    k _ _ ⟨ns,a+1,l,t+1⟩ (by rw[hdr,II hleft,II hb]) ⟨hd1,hc1,hl63,by simp only;omega,by simp only;omega,ndc⟩ kp1
   unfold FdS.mixL FdS.fst at small;simp only at small;refine⟨_,rfl,d,_,_,_,rfl,rfl,SqL.of hd1,rfl,c,_,rfl,.inl<|SqL.of hc1,_,_,rfl,rfl,_,rfl,?_⟩;refine qx (λhne=>?_) (λhe=>?_)
   .have hne:=Jg hne;rw[Iz]at hne;have h0:¬ns=[]:=by intro e;rw[e]at hne;simp at hne
    refine⟨_,rfl,d,_,_,_,rfl,rfl,SqL.of hd1,rfl,_,rfl,_,rfl,d,_,_,_,rfl,rfl,SqL.of hd1,rfl,c,_,rfl,.inl<|SqL.of hc1,_,_,rfl,rfl,(by rw[Iz];exact hne),c,_,_,_,rfl,rfl,SqL.of hc1,qU (F:=⟨ns,a,l,t⟩) h0,?_⟩;generalize FdS.cellL ⟨ns,a,l,t⟩=z at big small;obtain⟨q1,q2⟩:=mn (x:=(z % 1000003+47*a*a+31*a+907)*40009) (m:=999961) (by decide);have tl:¬(10 ^ 18<=(z:Int)/\a<ns.length)->Q (.int<|((z % 1000003+47*a*a+31*a+907)*40009 % 999961*((z % 1000003+47*a*a+31*a+907)*40009 % 999961)+38317*a+101) % 2097143*48271 % 2147483629 / 7 % m) H1:=small;refine⟨_,rfl,_,_,rfl,rfl,⟨by decide,by decide,by decide⟩,_,_,rfl,rfl,_,rfl,?_⟩;refine qx (λhb1=>⟨_,rfl,_,rfl,d,_,_,_,rfl,rfl,SqL.of hd1,rfl,c,_,rfl,.inl<|SqL.of hc1,_,_,rfl,rfl,_,rfl,qx (λhb2=>?_)<|λhb2=>?_⟩) (λhb1=>BI ?_)
    .have hb1:=Jg hb1;have hb2:=Jg hb2;rw[Iz]at hb2;exact⟨_,rfl,_,rfl,_,_,rfl,rfl,⟨hm,hm2⟩,_,rfl,d,_,_,2,rfl,rfl,hd1,rfl,_,rfl,_,rfl,_,_,rfl,rfl,hm,big ⟨hb1,hb2⟩⟩
    .have hq:=tl λhb=>hb2 (Je (by rw[Iz];exact hb.2))
     walk_at "ka"
    .have hq:=tl λhb=>hb1<|Je hb.1
     walk_at "ka"
   .have hne:¬(0:Int)<(ns.map V.int).length:=λz=>he<|Je z
    have h0:ns=[]:=by
     cases ns with
     | nil=>rfl
     | cons x y=>exact absurd (by simp only[Iz,IK];omega) hne
    have hcell:FdS.cellL ⟨ns,a,l,t⟩=0:=by unfold FdS.cellL;rw[IE h0]
    rw[hcell]at big small;obtain⟨q1,q2⟩:=mn (x:=((0:Int) % 1000003+47*a*a+31*a+907)*40009) (m:=999961) (by decide);have tl:¬(10 ^ 18<=((0:Int):Int)/\a<ns.length)->Q (.int<|(((0:Int) % 1000003+47*a*a+31*a+907)*40009 % 999961*(((0:Int) % 1000003+47*a*a+31*a+907)*40009 % 999961)+38317*a+101) % 2097143*48271 % 2147483629 / 7 % m) H1:=small;refine⟨_,rfl,_,_,rfl,rfl,⟨by decide,by decide,by decide⟩,_,_,rfl,rfl,_,rfl,?_⟩;refine qx (λhb1=>⟨_,rfl,_,rfl,d,_,_,_,rfl,rfl,SqL.of hd1,rfl,c,_,rfl,.inl<|SqL.of hc1,_,_,rfl,rfl,_,rfl,qx (λhb2=>?_)<|λhb2=>?_⟩) (λhb1=>BI ?_)
    .have hb1:=Jg hb1;have hb2:=Jg hb2;rw[Iz]at hb2;exact⟨_,rfl,_,rfl,_,_,rfl,rfl,⟨hm,hm2⟩,_,rfl,d,_,_,2,rfl,rfl,hd1,rfl,_,rfl,_,rfl,_,_,rfl,rfl,hm,big ⟨hb1,hb2⟩⟩
    .have hq:=tl λhb=>hb2 (Je (by rw[Iz];exact hb.2))
     walk_at "ka"
    .have hq:=tl λhb=>hb1<|Je hb.1
     walk_at "ka"
def V2:FnScope ["_law_top","_law_bottom","_law_one","_law_other"] ["_law_top","_law_bottom"] (defScope DX):={}
abbrev v4:=Bz.c_lfrac
def Ge {f:Of}{fd:Om}(Fn:Fun K "_law_frac" "_law_frac" DX f fd)(T:Txt K mg) :FnOk P w K mg base CX0 1 f fd ["_law_top","_law_bottom"] (spD K 2 v4):=by
 refine w4 Fn V2 λOP A outer s H E hr=>?_
 exact⟨_,(d7 (cn 2 3 rfl V2.nd<|d8 (l7 (mV) T.abs lC<|j3 (j4 0) n6)<|d8 (i5 1) j7)
   (d7 (jC (x8 fF (j4 3)<|Ev.bw f8)<|g9<|cn 2 3 rfl V2.nd<|d8 (i5 3)<|d8 (i4 uz (j4 2)<|j4 3) j7)
   (g9<|l3<|A0<|d8 (i4 dJ (j4 0)<|j4 2)<|d8 (i4 dJ (j4 1)<|j4 2) j7)))⟩
def D2:FnScope ["_law_feed_here","_law_hands","_law_few","_law_found","_law_k","_law_comers","_law_beat"] ["_law_feed_here","_law_hands"] (defScope Ds):={}
def E8:List DV->M My:=F0 ["_law_feed_here","_law_hands","_law_few","_law_found","_law_k","_law_comers","_law_beat"] (mSq (mIf (uB<|s2 (eqD false) (i0 A2<|vF 0<|vD (sC<|.int 6) m9)<|sC<|.int 0) (mSq (A4 2<|s2 K0 (sC<|.int 1)<|i0 A2<|vF 0<|vD (sC<|.int 12) m9)
  (mRt<|K8<|d5 (K8<|d5 (sC<|.tuple [])<|d5 (sV 2) j9)<|d5 (K8<|d5 (K8<|d5 (K8<|d5 (i0 A2<|vF 0<|vD (sC<|.int 2) m9)<|d5 (sV 1) j9)<|d5 (K8<|d5 (i0 A2<|vF 0<|vD (sC<|.int 2) m9)<|d5 (sV 1) j9) j9)<|d5 (sV 2) j9) j9)) mNx)
  (mSq (jZ 3 0)
  (mSq (W9 (Y2<|d5 (s2 K0 (sC<|.int 1)<|i0 A2<|vF 0<|vD (sC<|.int 4) m9) j9) (bN 4) (mSq (A4 5<|s2 ixD (sC<|.list [.int 0,.int 0,.int 1,.int 1,.int 2])<|i0 A2<|vF 0<|vD (sC<|.int 5) m9)
  (mSq (A4 6<|sN T7<|d5 (sLC (Y2<|d5 (sV 5) j9) 1 [0] (bN 0) C6<|K8<|d5 (i0 A2<|vF 1<|vD (sC<|.int 2) m9)<|d5 (s2 K0 (sC<|.int 1)<|i0 A2<|vF 1<|vD (sC<|.int 3) m9) j9) j9)
  (oR 3 0 (s2 K0 (sC<|.int 1)<|i0 A2<|vF 0<|vD (sC<|.int 12) m9)<|sV 6))))
  (mRt<|sN T7<|d5 (sLC (C9<|sN Y0<|d5 (kg 3 0) j9) 1 [3] (bN 0) C6<|K8<|d5 (sV 0)<|d5 (jN 1 0<|sV 0) j9) j9))))
def FK {f:Of}{fd:Om}(Fn:Fun K "_law_beats" "_law_beats" Ds f fd)(T:Txt K mg)(Da:i3 P w K mg base "_law_draw" 1 ["_law_feed_here","_law_many"] (spD K 2 A2)):FnOk P w K mg base CX0 2 f fd ["_law_feed_here","_law_hands"] (spD K 2 E8):=by
 refine w4 Fn D2 λOP A outer s H E hr=>?_
 have hu5:(A.deeper<|PyProof.Rows.envOfC "_law_beats" (defScope Ds) s.heap.objs.size f OP).units+65<OG:=by have:=hr.un;omega
 exact⟨_,(d7 (G0 (x8 (fm rfl hr.units) (Ev.bw<|i8 Da hr<|N8 0<|i6 f8 g7)<|Ev.bw f8) (d7 (m6 2 D2.nd<|i4 (A5 rfl) (Ev.bw f8)<|Ev.bw<|i8 Da hr<|N8 0<|i6 f8 g7)
   (g9<|l3<|A0<|d8 (A0<|d8 (dk (.tuple []) rfl)<|d8 (i5 2) j7)<|d8 (A0<|d8 (A0<|d8 (A0<|d8 (i8 Da hr<|N8 0<|i6 f8 g7)<|d8 (i5 1) j7)<|d8 (A0<|d8 (i8 Da hr<|N8 0<|i6 f8 g7)<|d8 (i5 1) j7) j7)<|d8 (i5 2) j7) j7)) B9)
   (d7 (vd 3 0 D2.nd)
   (d7 (L0 rfl (S8 (d8 (i4 (A5 rfl) (Ev.bw f8)<|Ev.bw<|i8 Da hr<|N8 0<|i6 f8 g7) j7) T.range) (n9 (i:=4) D2.nd) (d7 (m6 5 D2.nd<|W6 (W8 rfl) (Ev.bw<|dk (.list [.int 0,.int 0,.int 1,.int 1,.int 2]) rfl)<|Ev.bw<|i8 Da hr<|N8 0<|i6 f8 g7)
   (d7 (m6 6 D2.nd<|N7 (Q3 rfl) T.tuple I0<|j3 (Ev.bw<|K3 (osc:=(defScope Ds)) (N:=["_law_j","_law_feed_here"]) (k:=1) (cap:=[0]) rfl rfl ⟨rfl,by decide +kernel,by decide +kernel,by decide +kernel,rfl,rfl,by decide +kernel⟩ (Ei.bw<|S8 (d8 (i5 5) j7) T.range) (λcl C ex OM s H=>(n9 (i:=0)<|show List.Nodup (["_law_j","_law_feed_here"]:List Str) by decide +kernel)) (λcl C ex OM s H=>u9)<|λcl C ex OM s H=>(A0<|d8 (i8 Da hr<|N8 1<|i6 f8 g7)<|d8 (i4 (A5 rfl) (Ev.bw f8)<|Ev.bw<|i8 Da hr<|N8 1<|i6 f8 g7) j7)) n6)
   (g9<|vk 3 0 (Jj (Mi (by decide) _) hu5) (i4 (A5 rfl) (Ev.bw f8)<|Ev.bw<|i8 Da hr<|N8 0<|i6 f8 g7) (i5 6) rfl))))
   (g9<|l3<|N7 (Q3 rfl) T.tuple I0<|j3 (Ev.bw<|K3 (osc:=(defScope Ds)) (N:=["_law_beat","_law_found"]) (k:=1) (cap:=[3]) rfl rfl ⟨rfl,by decide +kernel,by decide +kernel,by decide +kernel,rfl,rfl,by decide +kernel⟩ (w8<|Ev.bw<|ui 3 0 hr.hd rfl (Jj (Mi (by decide) _) hu5) T.sorted hU) (λcl C ex OM s H=>(n9 (i:=0)<|show List.Nodup (["_law_beat","_law_found"]:List Str) by decide +kernel)) (λcl C ex OM s H=>u9)<|λcl C ex OM s H=>(A0<|d8 (i5 0)<|d8 (vq 1 0 (Jj (Mi (by decide) _) hu5) (i5 0) rfl<|λ_ _=>rfl) j7)) n6))))⟩
def M9:FnScope ["_law_beats_here","_law_found","_law_beat","_law_lot"] ["_law_beats_here"] (defScope DD):={}
def w6:List DV->M My:=F0 ["_law_beats_here","_law_found","_law_beat","_law_lot"] (mSq (iw 1<|jY j9)
  (mSq (W9 (C9<|sV 0) (D6 2<|i9 (bN 2)<|i9 (bN 3) E7)<|jK 1<|sLC (C9<|sW 2) 2 [3] (D6 2<|i9 (bN 0)<|i9 (bN 1) E7) C6<|K8<|d5 (sV 1)<|d5 (sV 2) j9)
  (mRt<|sW 1)))
def FL {f:Of}{fd:Om}(Fn:Fun K "_law_works" "_law_works" DD f fd)(T:Txt K mg) :FnOk P w K mg base CX0 1 f fd ["_law_beats_here"] (spD K 1 w6):=by
 refine w4 Fn M9 λOP A outer s H E hr=>?_
 exact⟨_,(d7 (eE 1 M9.nd<|ft j7)
   (d7 (L0 rfl (T2<|i5 0) (x6 (n:=2) rfl<|f7 (n9 (i:=2) M9.nd)<|f7 (n9 (i:=3) M9.nd) u6)<|g9<|yX 1 rfl<|Ev.bw<|K3 (osc:=(defScope DD)) (N:=["_law_rank","_law_work","_law_lot"]) (k:=2) (cap:=[3]) rfl rfl ⟨rfl,by decide +kernel,by decide +kernel,by decide +kernel,rfl,rfl,by decide +kernel⟩ (w8<|j4 2) (λcl C ex OM s H=>(x6 (n:=2) rfl<|f7 (n9 (i:=0)<|show List.Nodup (["_law_rank","_law_work","_law_lot"]:List Str) by decide +kernel)<|f7 (n9 (i:=1)<|show List.Nodup (["_law_rank","_law_work","_law_lot"]:List Str) by decide +kernel) u6)) (λcl C ex OM s H=>u9)<|λcl C ex OM s H=>(A0<|d8 (i5 1)<|d8 (i5 2) j7))
   (g9<|xB 1)))⟩
def l4:FnScope ["_law_beats_here","_law_hands","_law_heights","_law_steps","_law_ahead","_law_one","_law_least","_law_top","_law_bottom","_law_work","_law_lot"] ["_law_beats_here","_law_hands","_law_heights"] (defScope DF):={}
def B4:List DV->M My:=F0 ["_law_beats_here","_law_hands","_law_heights","_law_steps","_law_ahead","_law_one","_law_least","_law_top","_law_bottom","_law_work","_law_lot"] (mSq (iw 3<|jY j9)
  (mSq (A4 4<|sC<|.tuple [.int 0,.int 1])
  (mSq (W9 (C9<|sV 2) (bN 5) (mSq (mB 3<|i0 v4<|vD (s2 fS (s2 m5 (s2 ixD (sW 5)<|sC<|.int 0)<|s2 ixD (sW 4)<|sC<|.int 1)<|s2 m5 (s2 ixD (sW 4)<|sC<|.int 0)<|s2 ixD (sW 5)<|sC<|.int 1)<|vD (s2 m5 (s2 ixD (sW 5)<|sC<|.int 1)<|s2 ixD (sW 4)<|sC<|.int 1) m9)
  (A4 4<|sV 5)))
  (mSq (A4 6<|s2 ixD (sW 3)<|sC<|.int 0)
  (mSq (sY 3<|W9 (C9<|sV 3) (bN 5)<|mIf (uB<|s2 ltD (s2 m5 (s2 ixD (sW 5)<|sC<|.int 0)<|s2 ixD (sW 6)<|sC<|.int 1)<|s2 m5 (s2 ixD (sW 6)<|sC<|.int 0)<|s2 ixD (sW 5)<|sC<|.int 1) (A4 6<|sV 5) mNx)
  (mSq (A4 7<|sC<|.int 0)
  (mSq (A4 8<|sC<|.int 1)
  (mSq (W9 (C9<|i0 w6<|vD (sV 0) m9) (D6 2<|i9 (bN 9)<|i9 (bN 10) E7) (mSq (A4 5<|s2 ixD (sW 2)<|s2 fS (sW 9)<|sC<|.int 1)
  (mSq (A4 7<|s2 K0 (s2 m5 (sW 7)<|s2 ixD (sW 5)<|sC<|.int 1)<|s2 m5 (s2 m5 (sW 10)<|s2 ixD (sW 5)<|sC<|.int 0)<|sW 8)
  (A4 8<|s2 m5 (sW 8)<|s2 ixD (sW 5)<|sC<|.int 1))))
  (mSq (A4 8<|s2 m5 (sW 8)<|sN Q9<|d5 (sLC (C9<|sW 0) 2 [] (D6 2<|i9 (bN 0)<|i9 (bN 1) E7) C6<|sV 1) j9)
  (mRt<|i0 v4<|vD (s2 fS (s2 m5 (s2 m5 (sW 1)<|s2 ixD (sW 6)<|sC<|.int 0)<|sW 8)<|s2 m5 (sW 7)<|s2 ixD (sW 6)<|sC<|.int 1)<|vD (s2 m5 (s2 ixD (sW 6)<|sC<|.int 1)<|sW 8) m9))))))))))
def FM {f:Of}{fd:Om}(Fn:Fun K "_law_spare" "_law_spare" DF f fd)(T:Txt K mg)(Dl:i3 P w K mg base "_law_frac" 1 ["_law_top","_law_bottom"] (spD K 2 v4))(Dm:i3 P w K mg base "_law_works" 1 ["_law_beats_here"] (spD K 1 w6)):FnOk P w K mg base CX0 2 f fd ["_law_beats_here","_law_hands","_law_heights"] (spD K 3 B4):=by
 refine w4 Fn l4 λOP A outer s H E hr=>?_
 exact⟨_,(d7 (eE 3 l4.nd<|ft j7)
   (d7 (m6 4 l4.nd<|dk (.tuple [.int 0,.int 1]) rfl)
   (d7 (L0 rfl (T2<|i5 2) (n9 (i:=5) l4.nd) (d7 (mG 3 rfl<|i8 Dl hr<|i6 (i4 Y7 (Ev.bw<|i4 (j0 rfl) (Ev.bw<|k9 5)<|Ev.bw<|k9 4)<|Ev.bw<|i4 (j0 rfl) (Ev.bw<|k9 4)<|Ev.bw<|k9 5)<|i6 (i4 (j0 rfl) (Ev.bw<|k9 5)<|Ev.bw<|k9 4) g7)
   (g9<|m6 4 l4.nd<|i5 5)))
   (d7 (m6 6 l4.nd<|k9 3)
   (d7 (zI 3<|L0 rfl (T2<|i5 3) (n9 (i:=5) l4.nd)<|g9<|G0 (x8 fG (Ev.bw<|i4 (j0 rfl) (Ev.bw<|k9 5)<|Ev.bw<|k9 6)<|Ev.bw<|i4 (j0 rfl) (Ev.bw<|k9 6)<|Ev.bw<|k9 5) (g9<|m6 6 l4.nd<|i5 5) B9)
   (d7 (m6 7 l4.nd f8)
   (d7 (m6 8 l4.nd f8)
   (d7 (L0 rfl (T2<|i8 Dm hr<|i6 (i5 0) g7) (x6 (n:=2) rfl<|f7 (n9 (i:=9) l4.nd)<|f7 (n9 (i:=10) l4.nd) u6) (d7 (m6 5 l4.nd<|W6 (W8 rfl) (j4 2)<|Ev.bw<|i4 Y7 (j4 9)<|Ev.bw f8)
   (d7 (m6 7 l4.nd<|i4 (A5 rfl) (Ev.bw<|i4 (j0 rfl) (j4 7)<|Ev.bw<|k9 5)<|Ev.bw<|i4 (j0 rfl) (Ev.bw<|i4 (j0 rfl) (j4 10)<|Ev.bw<|k9 5)<|j4 8)
   (g9<|m6 8 l4.nd<|i4 (j0 rfl) (j4 8)<|Ev.bw<|k9 5))))
   (d7 (m6 8 l4.nd<|i4 (j0 rfl) (j4 8)<|Ev.bw<|l7 (R7 rfl rfl) T.sum Z0<|j3 (Ev.bw<|K3 (osc:=(defScope DF)) (N:=["_law_beat","_law_lot"]) (k:=2) (cap:=[]) rfl rfl ⟨rfl,by decide +kernel,by decide +kernel,by decide +kernel,rfl,rfl,by decide +kernel⟩ (w8<|j4 0) (λcl C ex OM s H=>(x6 (n:=2) rfl<|f7 (n9 (i:=0)<|show List.Nodup (["_law_beat","_law_lot"]:List Str) by decide +kernel)<|f7 (n9 (i:=1)<|show List.Nodup (["_law_beat","_law_lot"]:List Str) by decide +kernel) u6)) (λcl C ex OM s H=>u9)<|λcl C ex OM s H=>(i5 1)) n6)
   (g9<|l3<|i8 Dl hr<|i6 (i4 Y7 (Ev.bw<|i4 (j0 rfl) (Ev.bw<|i4 (j0 rfl) (j4 1)<|Ev.bw<|k9 6)<|j4 8)<|Ev.bw<|i4 (j0 rfl) (j4 7)<|Ev.bw<|k9 6)<|i6 (i4 (j0 rfl) (Ev.bw<|k9 6)<|j4 8) g7))))))))))⟩
def dc:FnScope ["_law_thing"] ["_law_thing"] (defScope Dq):={}
def C5:List DV->M My:=F0 ["_law_thing"] (mSq (mIf (uOr (fj<|uT<|s1 (bM "tuple")<|sW 0)<|uB<|s2 (eqD true) (sN ig<|d5 (sW 0) j9)<|sC<|.int 2) (mRt<|sC<|.bool false) mNx)
  (mSq (mIf (uB<|s2 (inD false) (sC<|.bool false)<|sLC (C9<|sW 0) 1 [] (bN 0) C6<|pR (s1 (bM "int")<|sW 0)<|uD<|s1 (bM "bool")<|sW 0) (mRt<|sC<|.bool false) mNx)
  (mRt<|pR (s2 gtD (s2 ixD (sW 0)<|sC<|.int 1)<|sC<|.int 0)<|s2 (eqD false) (i0 v4<|vD (s2 ixD (sW 0)<|sC<|.int 0)<|vD (s2 ixD (sW 0)<|sC<|.int 1) m9)<|sW 0)))
def Fo {f:Of}{fd:Om}(Fn:Fun K "_law_is_frac" "_law_is_frac" Dq f fd)(T:Txt K mg)(Dl:i3 P w K mg base "_law_frac" 1 ["_law_top","_law_bottom"] (spD K 2 v4)):FnOk P w K mg base CX0 2 f fd ["_law_thing"] (spD K 1 C5):=by
 refine w4 Fn dc λOP A outer s H E hr=>?_
 have hu5:(A.deeper<|PyProof.Rows.envOfC "_law_is_frac" (defScope Dq) s.heap.objs.size f OP).units+65<OG:=by have:=hr.un;omega
 exact⟨_,(d7 (G0 (Ew.t<|dP (Y3<|W0<|Ev.bw<|bK "tuple" (j4 0) (by decide) T.isinstance T.tuple I0)<|eR<|x8 (bP rfl hr.units) (Ev.bw<|l7 (bX rfl) T.len bW<|j3 (j4 0) n6)<|Ev.bw f8) (g9<|l3 O3) B9)
   (d7 (G0 (x8 (xF rfl hu5) (Ev.bw O3)<|Ev.bw<|K3 (osc:=(defScope Dq)) (N:=["_law_one"]) (k:=1) (cap:=[]) rfl rfl ⟨rfl,by decide +kernel,by decide +kernel,by decide +kernel,rfl,rfl,by decide +kernel⟩ (w8<|j4 0) (λcl C ex OM s H=>(n9 (i:=0)<|show List.Nodup (["_law_one"]:List Str) by decide +kernel)) (λcl C ex OM s H=>u9)<|λcl C ex OM s H=>(um (bK "int" (j4 0) (by decide) T.isinstance T.int uh)<|sI<|zb<|bK "bool" (j4 0) (by decide) T.isinstance T.bool wY)) (g9<|l3 O3) B9)
   (g9<|l3<|um (cK fF (Ev.bw<|k9 0)<|Ev.bw f8)<|sI<|cK (fm rfl hr.units) (Ev.bw<|i8 Dl hr<|i6 (k9 0)<|i6 (k9 0) g7)<|j4 0)))⟩
def x9:FnScope ["_law_beats_here","_law_hands","_law_most","_law_thing","_law_drop","_law_heights","_law_ahead","_law_one","_law_spare_here"] ["_law_beats_here","_law_hands","_law_most","_law_thing"] (defScope Do):={}
def z9:List DV->M My:=F0 ["_law_beats_here","_law_hands","_law_most","_law_thing","_law_drop","_law_heights","_law_ahead","_law_one","_law_spare_here"] (mSq (mIf (uOr (fj<|uT<|s1 (bM "tuple")<|sW 3)<|uOr (uB<|s2 (eqD true) (sN ig<|d5 (sW 3) j9)<|sC<|.int 2)<|uOr (fj<|uT<|i0 C5<|vD (s2 ixD (sW 3)<|sC<|.int 0) m9)<|fj<|uT<|s1 (bM "tuple")<|s2 ixD (sW 3)<|sC<|.int 1) (mRt<|sC<|.bool false) mNx)
  (mSq (oW (D6 2<|i9 (bN 4)<|i9 (bN 5) E7)<|sV 3)
  (mSq (mIf (uB<|s2 ltD (sN ig<|d5 (sW 5) j9)<|sN lq<|d5 (s2 K0 (lT<|d5 (sC<|.int 1)<|d5 (sV 2) j9)<|sLC (C9<|i0 w6<|vD (sV 0) m9) 2 [] (D6 2<|i9 (bN 0)<|i9 (bN 1) E7) C6<|sV 0) j9) (mRt<|sC<|.bool false) mNx)
  (mSq (mIf (uOr (uB<|s2 (inD false) (sC<|.bool false)<|sLC (C9<|sW 5) 1 [] (bN 0) C6<|i0 C5<|vD (sV 0) m9)<|uB<|s2 ltD (s2 ixD (sW 4)<|sC<|.int 0)<|sC<|.int 1) (mRt<|sC<|.bool false) mNx)
  (mSq (A4 6<|sC<|.tuple [.int 0,.int 1])
  (mSq (W9 (C9<|sV 5) (bN 7) (mSq (mIf (uB<|s2 leD (s2 m5 (s2 ixD (sW 7)<|sC<|.int 0)<|s2 ixD (sW 6)<|sC<|.int 1)<|s2 m5 (s2 ixD (sW 6)<|sC<|.int 0)<|s2 ixD (sW 7)<|sC<|.int 1) (mRt<|sC<|.bool false) mNx)
  (A4 6<|sV 7)))
  (mSq (A4 8<|i0 B4<|vD (sV 0)<|vD (sV 1)<|vD (sV 5) m9)
  (mRt<|s2 leD (s2 m5 (s2 ixD (sW 4)<|sC<|.int 0)<|s2 ixD (sW 8)<|sC<|.int 1)<|s2 m5 (s2 ixD (sW 8)<|sC<|.int 0)<|s2 ixD (sW 4)<|sC<|.int 1))))))))
def EV {f:Of}{fd:Om}(Fn:Fun K "_law_is_paper" "_law_is_paper" Do f fd)(T:Txt K mg)(Dx:i3 P w K mg base "_law_is_frac" 2 ["_law_thing"] (spD K 1 C5))(Dm:i3 P w K mg base "_law_works" 1 ["_law_beats_here"] (spD K 1 w6))(De:i3 P w K mg base "_law_spare" 2 ["_law_beats_here","_law_hands","_law_heights"] (spD K 3 B4)):FnOk P w K mg base CX0 3 f fd ["_law_beats_here","_law_hands","_law_most","_law_thing"] (spD K 4 z9):=by
 refine w4 Fn x9 λOP A outer s H E hr=>?_
 have hu5:(A.deeper<|PyProof.Rows.envOfC "_law_is_paper" (defScope Do) s.heap.objs.size f OP).units+65<OG:=by have:=hr.un;omega
 exact⟨_,(d7 (G0 (Ew.t<|dP (Y3<|W0<|Ev.bw<|bK "tuple" (j4 3) (by decide) T.isinstance T.tuple I0)<|dP (x8 (bP rfl hr.units) (Ev.bw<|l7 (bX rfl) T.len bW<|j3 (j4 3) n6)<|Ev.bw f8)<|dP (Y3<|W0<|Ev.bw<|i8 Dx hr<|i6 (k9 3) g7)<|eR<|Y3<|W0<|Ev.bw<|bK "tuple" (Ev.bw<|k9 3) (by decide) T.isinstance T.tuple I0) (g9<|l3 O3) B9)
   (d7 (mZ (i5 3)<|x6 (n:=2) rfl<|f7 (n9 (i:=4) x9.nd)<|f7 (n9 (i:=5) x9.nd) u6)
   (d7 (G0 (x8 fG (Ev.bw<|l7 (bX rfl) T.len bW<|j3 (j4 5) n6)<|Ev.bw<|l7 (ni rfl rfl) T.max jf<|j3 (Ev.bw<|i4 (A5 rfl) (Ev.bw<|lz<|d8 f8<|d8 (i5 2) j7)<|Ev.bw<|K3 (osc:=(defScope Do)) (N:=["_law_work","_law_lot"]) (k:=2) (cap:=[]) rfl rfl ⟨rfl,by decide +kernel,by decide +kernel,by decide +kernel,rfl,rfl,by decide +kernel⟩ (w8<|Ev.bw<|i8 Dm hr<|i6 (i5 0) g7) (λcl C ex OM s H=>(x6 (n:=2) rfl<|f7 (n9 (i:=0)<|show List.Nodup (["_law_work","_law_lot"]:List Str) by decide +kernel)<|f7 (n9 (i:=1)<|show List.Nodup (["_law_work","_law_lot"]:List Str) by decide +kernel) u6)) (λcl C ex OM s H=>u9)<|λcl C ex OM s H=>(i5 0)) n6) (g9<|l3 O3) B9)
   (d7 (G0 (Ew.t<|dP (x8 (xF rfl hu5) (Ev.bw O3)<|Ev.bw<|K3 (osc:=(defScope Do)) (N:=["_law_one"]) (k:=1) (cap:=[]) rfl rfl ⟨rfl,by decide +kernel,by decide +kernel,by decide +kernel,rfl,rfl,by decide +kernel⟩ (w8<|j4 5) (λcl C ex OM s H=>(n9 (i:=0)<|show List.Nodup (["_law_one"]:List Str) by decide +kernel)) (λcl C ex OM s H=>u9)<|λcl C ex OM s H=>(i8 Dx hr<|i6 (i5 0) g7))<|eR<|x8 fG (Ev.bw<|k9 4)<|Ev.bw f8) (g9<|l3 O3) B9)
   (d7 (m6 6 x9.nd<|dk (.tuple [.int 0,.int 1]) rfl)
   (d7 (L0 rfl (T2<|i5 5) (n9 (i:=7) x9.nd) (d7 (G0 (x8 qK (Ev.bw<|i4 (j0 rfl) (Ev.bw<|k9 7)<|Ev.bw<|k9 6)<|Ev.bw<|i4 (j0 rfl) (Ev.bw<|k9 6)<|Ev.bw<|k9 7) (g9<|l3 O3) B9)
   (g9<|m6 6 x9.nd<|i5 7)))
   (d7 (m6 8 x9.nd<|i8 De hr<|i6 (i5 0)<|i6 (i5 1)<|i6 (i5 5) g7)
   (g9<|l3<|cK qK (Ev.bw<|i4 (j0 rfl) (Ev.bw<|k9 4)<|Ev.bw<|k9 8)<|Ev.bw<|i4 (j0 rfl) (Ev.bw<|k9 8)<|Ev.bw<|k9 4))))))))⟩
def O8:FnScope ["_law_beats_here","_law_hands","_law_whole","_law_work","_law_works_here"] ["_law_beats_here","_law_hands"] (defScope Dr):={}
def J9:List DV->M My:=F0 ["_law_beats_here","_law_hands","_law_whole","_law_work","_law_works_here"] (mSq (A4 2<|sN Q9<|d5 (sLC (C9<|sW 0) 2 [] (D6 2<|i9 (bN 0)<|i9 (bN 1) E7) C6<|sV 1) j9)
  (mSq (A4 3<|sN Q9<|d5 (sLC (C9<|i0 w6<|vD (sV 0) m9) 2 [] (D6 2<|i9 (bN 0)<|i9 (bN 1) E7) C6<|s2 m5 (sW 0)<|sW 1) j9)
  (mSq (mIf (uB<|s2 (eqD true) (sW 3)<|s2 m5 (sW 1)<|sW 2) (mRt<|sIf (uB<|s2 ltD (sW 3)<|s2 m5 (sW 1)<|sW 2) (sC<|.str "rests")<|sC<|.str "runs") mNx)
  (mSq (A4 4<|sLC (C9<|sW 0) 2 [] (D6 2<|i9 (bN 0)<|i9 (bN 1) E7) C6<|sN Q9<|d5 (sLC (C9<|sW 0) 2 [] (D6 2<|i9 (bN 0)<|i9 (bN 1) E7) C6<|sV 1) j9)
  (mRt<|sIf (uB<|s2 (eqD false) (sLC (C9<|sW 4) 1 [1] (bN 0) (uB<|s2 (eqD true) (sW 0)<|sW 1)<|sV 0)<|sC<|.list []) (sC<|.str "still")<|sC<|.str "swings")))))
def Gf {f:Of}{fd:Om}(Fn:Fun K "_law_word" "_law_word" Dr f fd)(T:Txt K mg)(Dm:i3 P w K mg base "_law_works" 1 ["_law_beats_here"] (spD K 1 w6)):FnOk P w K mg base CX0 2 f fd ["_law_beats_here","_law_hands"] (spD K 2 J9):=by
 refine w4 Fn O8 λOP A outer s H E hr=>?_
 exact⟨_,(d7 (m6 2 O8.nd<|l7 (R7 rfl rfl) T.sum Z0<|j3 (Ev.bw<|K3 (osc:=(defScope Dr)) (N:=["_law_beat","_law_lot"]) (k:=2) (cap:=[]) rfl rfl ⟨rfl,by decide +kernel,by decide +kernel,by decide +kernel,rfl,rfl,by decide +kernel⟩ (w8<|j4 0) (λcl C ex OM s H=>(x6 (n:=2) rfl<|f7 (n9 (i:=0)<|show List.Nodup (["_law_beat","_law_lot"]:List Str) by decide +kernel)<|f7 (n9 (i:=1)<|show List.Nodup (["_law_beat","_law_lot"]:List Str) by decide +kernel) u6)) (λcl C ex OM s H=>u9)<|λcl C ex OM s H=>(i5 1)) n6)
   (d7 (m6 3 O8.nd<|l7 (R7 rfl rfl) T.sum Z0<|j3 (Ev.bw<|K3 (osc:=(defScope Dr)) (N:=["_law_work","_law_lot"]) (k:=2) (cap:=[]) rfl rfl ⟨rfl,by decide +kernel,by decide +kernel,by decide +kernel,rfl,rfl,by decide +kernel⟩ (w8<|Ev.bw<|i8 Dm hr<|i6 (i5 0) g7) (λcl C ex OM s H=>(x6 (n:=2) rfl<|f7 (n9 (i:=0)<|show List.Nodup (["_law_work","_law_lot"]:List Str) by decide +kernel)<|f7 (n9 (i:=1)<|show List.Nodup (["_law_work","_law_lot"]:List Str) by decide +kernel) u6)) (λcl C ex OM s H=>u9)<|λcl C ex OM s H=>(i4 (j0 rfl) (j4 0)<|j4 1)) n6)
   (d7 (G0 (x8 (bP rfl hr.units) (j4 3)<|Ev.bw<|i4 (j0 rfl) (j4 1)<|j4 2) (g9<|l3<|sD (x8 fG (j4 3)<|Ev.bw<|i4 (j0 rfl) (j4 1)<|j4 2) M6 M6) B9)
   (d7 (eW 4 (hN:=O8.nd) (osc:=(defScope Dr)) (N:=["_law_beat","_law_lot"]) (k:=2) (cap:=[]) (hc:=rfl) (hosc:=rfl) (hcap:=⟨rfl,by decide +kernel,by decide +kernel,by decide +kernel,rfl,rfl,by decide +kernel⟩) (w8<|j4 0) (λcl C ex OM s H=>(x6 (n:=2) rfl<|f7 (n9 (i:=0)<|show List.Nodup (["_law_beat","_law_lot"]:List Str) by decide +kernel)<|f7 (n9 (i:=1)<|show List.Nodup (["_law_beat","_law_lot"]:List Str) by decide +kernel) u6)) (λcl C ex OM s H=>u9)<|λcl C ex OM s H=>(l7 (R7 rfl rfl) T.sum Z0<|j3 (Ev.bw<|zq (N:=["_law_rank","_law_work"]) (k:=2) (cap:=[]) rfl ⟨rfl,by decide +kernel,by decide +kernel,by decide +kernel,rfl,rfl,by decide +kernel⟩ (w8<|j4 0) (λcl C ex OM s H=>(x6 (n:=2) rfl<|f7 (n9 (i:=0)<|show List.Nodup (["_law_rank","_law_work"]:List Str) by decide +kernel)<|f7 (n9 (i:=1)<|show List.Nodup (["_law_rank","_law_work"]:List Str) by decide +kernel) u6)) (λcl C ex OM s H=>u9)<|λcl C ex OM s H=>(i5 1)) n6))
   (g9<|l3<|sD (x8 (fm rfl hr.units) (Ev.bw<|K3 (osc:=(defScope Dr)) (N:=["_law_one","_law_hands"]) (k:=1) (cap:=[1]) rfl rfl ⟨rfl,by decide +kernel,by decide +kernel,by decide +kernel,rfl,rfl,by decide +kernel⟩ (w8<|j4 4) (λcl C ex OM s H=>(n9 (i:=0)<|show List.Nodup (["_law_one","_law_hands"]:List Str) by decide +kernel)) (λcl C ex OM s H=>(nG<|x8 (bP rfl hr.units) (j4 0)<|j4 1))<|λcl C ex OM s H=>(i5 0))<|Ev.bw<|dk (.list []) rfl) M6 M6)))))⟩
def O9:FnScope ["_law_beats_here","_law_hands","_law_most","_law_found","e","_law_strange"] ["_law_beats_here","_law_hands","_law_most"] (defScope DY):={}
def J7:List DV->M My:=F0 ["_law_beats_here","_law_hands","_law_most","_law_found","e","_law_strange"] (mSq (A4 3<|sC<|.tuple [.str "other"])
  (mSq (uN 3 "told" Dt (vD (sV 0)<|vD (sV 1)<|vD (sV 2) m9)<|hdA "NoRest" 4 5 3 [.inl "no",.inr "word"])
  (mRt<|sV 3)))
def Gg {f:Of}{fd:Om}(Fn:Fun K "_law_told" "_law_told" DY f fd)(T:Txt K mg)(DR:CalleeX P w K mg base "back_paper" 6 ["beats","hands","most"] (spX K mg 3 Dt)):FnOk P w K mg base CX0 7 f fd ["_law_beats_here","_law_hands","_law_most"] (spD K 3 J7):=by
 refine w4 Fn O9 λOP A outer s H E hr=>?_
 obtain⟨Wt_NoRest,Cl_NoRest,fi_NoRest,cl_NoRest,hW_NoRest,hA_NoRest,ecl_NoRest,eini_NoRest,efit_NoRest⟩:=T.err_NoRest;obtain⟨_,_,rfl,hA_NoRest_0,_,_,rfl,hA_NoRest_1,_,_,rfl,hA_NoRest_2,_,_,rfl,hA_NoRest_3,_,_,rfl,hA_NoRest_4,_,_,rfl,hA_NoRest_5,_,_,rfl,hA_NoRest_6,rfl⟩:=hA_NoRest;exact⟨_,(d7 (m6 3 O9.nd<|dk (.tuple [.str "other"]) rfl)
   (d7 (yU 3 4 DR (hr.mono<|by decide) (λpn xe=>(i6 (i5 0)<|i6 (i5 1)<|i6 (i5 2) g7)) (xy<|xy<|xy tW) (CY (its:=[.inl "no",.inr "word"]) (j:=5) efit_NoRest (by decide) (by decide) (by decide) (Nc rfl)<|by decide) (λe C1 fs pn xe hC hh=>by subst hC;exact AR hh T.isinstance T.ValueError efit_NoRest.mgc (V4 hA_NoRest_0<|V4 hA_NoRest_1<|V4 hA_NoRest_2<|V4 hA_NoRest_3<|V4 hA_NoRest_4<|V4 hA_NoRest_5<|V4 hA_NoRest_6 yO) (yw<|zf hh yB) O9.nd) (λC1 hC=>by subst hC;exact⟨efit_NoRest.cat,efit_NoRest.hd,efit_NoRest.exm⟩) hW_NoRest O9.nd)
   (g9<|l3<|i5 3)))⟩
def J8:FnScope ["_law_feed_here","_law_beats_here","_law_most","_law_heights","_law_top","_law_bottom","_law_k"] ["_law_feed_here","_law_beats_here","_law_most"] (defScope DQ):={}
def M7:List DV->M My:=F0 ["_law_feed_here","_law_beats_here","_law_most","_law_heights","_law_top","_law_bottom","_law_k"] (mSq (iw 3<|jY j9)
  (mSq (A4 4<|sC<|.int 0)
  (mSq (A4 5<|s2 K0 (sC<|.int 1)<|i0 A2<|vF 0<|vD (sC<|.int 4) m9)
  (mSq (W9 (Y2<|d5 (sN lq<|d5 (s2 K0 (lT<|d5 (sC<|.int 1)<|d5 (sN vE<|d5 (sC<|.int 6)<|d5 (sW 2) j9) j9)<|sLC (C9<|i0 w6<|vD (sV 1) m9) 2 [] (D6 2<|i9 (bN 0)<|i9 (bN 1) E7) C6<|sV 0) j9) j9) (bN 6) (mSq (A4 4<|s2 K0 (s2 K0 (sW 4)<|sC<|.int 1)<|i0 A2<|vF 0<|vD (sC<|.int 6) m9)
  (mB 3<|i0 v4<|vD (sV 4)<|vD (sV 5) m9)))
  (mRt<|K8<|d5 (i0 v4<|vD (s2 K0 (sC<|.int 1)<|i0 A2<|vF 0<|vD (sC<|.int 30) m9)<|vD (s2 K0 (sC<|.int 1)<|i0 A2<|vF 0<|vD (sC<|.int 30) m9) m9)<|d5 (sN T7<|d5 (sW 3) j9) j9)))))
def Gn {f:Of}{fd:Om}(Fn:Fun K "_law_own" "_law_own" DQ f fd)(T:Txt K mg)(Da:i3 P w K mg base "_law_draw" 1 ["_law_feed_here","_law_many"] (spD K 2 A2))(Dm:i3 P w K mg base "_law_works" 1 ["_law_beats_here"] (spD K 1 w6))(Dl:i3 P w K mg base "_law_frac" 1 ["_law_top","_law_bottom"] (spD K 2 v4)):FnOk P w K mg base CX0 2 f fd ["_law_feed_here","_law_beats_here","_law_most"] (spD K 3 M7):=by
 refine w4 Fn J8 λOP A outer s H E hr=>?_
 exact⟨_,(d7 (eE 3 J8.nd<|ft j7)
   (d7 (m6 4 J8.nd f8)
   (d7 (m6 5 J8.nd<|i4 (A5 rfl) (Ev.bw f8)<|Ev.bw<|i8 Da hr<|N8 0<|i6 f8 g7)
   (d7 (L0 rfl (S8 (d8 (l7 (ni rfl rfl) T.max jf<|j3 (Ev.bw<|i4 (A5 rfl) (Ev.bw<|lz<|d8 f8<|d8 (l7 (zy rfl rfl) T.min yN<|j3 (Ev.bw f8)<|j3 (j4 2) n6) j7)<|Ev.bw<|K3 (osc:=(defScope DQ)) (N:=["_law_work","_law_lot"]) (k:=2) (cap:=[]) rfl rfl ⟨rfl,by decide +kernel,by decide +kernel,by decide +kernel,rfl,rfl,by decide +kernel⟩ (w8<|Ev.bw<|i8 Dm hr<|i6 (i5 1) g7) (λcl C ex OM s H=>(x6 (n:=2) rfl<|f7 (n9 (i:=0)<|show List.Nodup (["_law_work","_law_lot"]:List Str) by decide +kernel)<|f7 (n9 (i:=1)<|show List.Nodup (["_law_work","_law_lot"]:List Str) by decide +kernel) u6)) (λcl C ex OM s H=>u9)<|λcl C ex OM s H=>(i5 0)) n6) j7) T.range) (n9 (i:=6) J8.nd) (d7 (m6 4 J8.nd<|i4 (A5 rfl) (Ev.bw<|i4 (A5 rfl) (j4 4)<|Ev.bw f8)<|Ev.bw<|i8 Da hr<|N8 0<|i6 f8 g7)
   (g9<|mG 3 rfl<|i8 Dl hr<|i6 (i5 4)<|i6 (i5 5) g7)))
   (g9<|l3<|A0<|d8 (i8 Dl hr<|i6 (i4 (A5 rfl) (Ev.bw f8)<|Ev.bw<|i8 Da hr<|N8 0<|i6 f8 g7)<|i6 (i4 (A5 rfl) (Ev.bw f8)<|Ev.bw<|i8 Da hr<|N8 0<|i6 f8 g7) g7)<|d8 (N7 (Q3 rfl) T.tuple I0<|j3 (j4 3) n6) j7)))))⟩
def m8:FnScope ["_law_paper","_law_stand","_law_top","_law_bottom","_law_rank","_law_left","_law_begun","_law_one"] ["_law_paper","_law_stand"] (defScope Du):={}
def u8:List DV->M My:=F0 ["_law_paper","_law_stand","_law_top","_law_bottom","_law_rank","_law_left","_law_begun","_law_one"] (mSq (oW (D6 2<|i9 (bN 2)<|i9 (bN 3) E7)<|sC<|.tuple [.int 0,.int 1])
  (mSq (W9 (C9<|sV 1) (D6 3<|i9 (bN 4)<|i9 (bN 5)<|i9 (bN 6) E7) (mSq (A4 7<|s2 ixD (s2 ixD (sW 0)<|sC<|.int 1)<|s2 fS (sW 5)<|sC<|.int 1)
  (js 2 3<|d5 (s2 K0 (s2 m5 (sW 2)<|s2 ixD (sW 7)<|sC<|.int 1)<|s2 m5 (s2 ixD (sW 7)<|sC<|.int 0)<|sW 3)<|d5 (s2 m5 (sW 3)<|s2 ixD (sW 7)<|sC<|.int 1) j9)))
  (mSq (mIf (uB<|s2 (eqD true) (sN bF<|d5 (i0 Q4<|vD (sV 0)<|vD (sV 1) m9) j9)<|sN bF<|d5 (i0 v4<|vD (sV 2)<|vD (sV 3) m9) j9) (mRt<|sC<|.bool false) mNx)
  (mRt<|s2 (eqD false) (sN bF<|d5 (i0 L4<|vD (sV 0)<|vD (sV 1) m9) j9)<|sN bF<|d5 (i0 v4<|vD (s2 m5 (sW 2)<|s2 ixD (s2 ixD (sW 0)<|sC<|.int 0)<|sC<|.int 1)<|vD (s2 m5 (sW 3)<|s2 ixD (s2 ixD (sW 0)<|sC<|.int 0)<|sC<|.int 0) m9) j9))))
def DZ {f:Of}{fd:Om}(Fn:Fun K "_law_bounds_right" "_law_bounds_right" Du f fd)(T:Txt K mg)(DN:i3 P w K mg base "height" 5 ["paper","stand"] (spD K 2 Q4))(Dl:i3 P w K mg base "_law_frac" 1 ["_law_top","_law_bottom"] (spD K 2 v4))(DS:i3 P w K mg base "back_bound" 6 ["paper","stand"] (spD K 2 L4)):FnOk P w K mg base CX0 7 f fd ["_law_paper","_law_stand"] (spD K 2 u8):=by
 refine w4 Fn m8 λOP A outer s H E hr=>?_
 exact⟨_,(d7 (mZ (dk (.tuple [.int 0,.int 1]) rfl)<|x6 (n:=2) rfl<|f7 (n9 (i:=2) m8.nd)<|f7 (n9 (i:=3) m8.nd) u6)
   (d7 (L0 rfl (T2<|i5 1) (x6 (n:=3) rfl<|f7 (n9 (i:=4) m8.nd)<|f7 (n9 (i:=5) m8.nd)<|f7 (n9 (i:=6) m8.nd) u6) (d7 (m6 7 m8.nd<|W6 (W8 rfl) (Ev.bw<|k9 0)<|Ev.bw<|i4 Y7 (j4 5)<|Ev.bw f8)
   (g9<|cn 2 3 rfl m8.nd<|d8 (i4 (A5 rfl) (Ev.bw<|i4 (j0 rfl) (j4 2)<|Ev.bw<|k9 7)<|Ev.bw<|i4 (j0 rfl) (Ev.bw<|k9 7)<|j4 3)<|d8 (i4 (j0 rfl) (j4 3)<|Ev.bw<|k9 7) j7)))
   (d7 (G0 (x8 (bP rfl hr.units) (Ev.bw<|l7 (Z9 rfl hr.gd hr.units) T.repr aw<|j3 (Ev.bw<|i8 DN hr<|i6 (i5 0)<|i6 (i5 1) g7) n6)<|Ev.bw<|l7 (Z9 rfl hr.gd hr.units) T.repr aw<|j3 (Ev.bw<|i8 Dl hr<|i6 (i5 2)<|i6 (i5 3) g7) n6) (g9<|l3 O3) B9)
   (g9<|l3<|cK (fm rfl hr.units) (Ev.bw<|l7 (Z9 rfl hr.gd hr.units) T.repr aw<|j3 (Ev.bw<|i8 DS hr<|i6 (i5 0)<|i6 (i5 1) g7) n6)<|Ev.bw<|l7 (Z9 rfl hr.gd hr.units) T.repr aw<|j3 (Ev.bw<|i8 Dl hr<|i6 (i4 (j0 rfl) (j4 2)<|Ev.bw<|W6 (W8 rfl) (Ev.bw<|k9 0)<|Ev.bw f8)<|i6 (i4 (j0 rfl) (j4 3)<|Ev.bw<|W6 (W8 rfl) (Ev.bw<|k9 0)<|Ev.bw f8) g7) n6))))⟩
end
end
section
section
variable {P:Oh}{w:Oi}{K:Fg}{mg:Str->Option Oe}{base:Oq}
def M4:FnScope ["_law_script","_law_feed_here","_law_k","_law_hands","_law_most","_law_beats_here","_law_word_here","_law_own_here","_law_lefts","_law_stand","_law_turn","_law_told_here"] ["_law_script"] (defScope Dk):={}
def D5:On->List On
 | .For _ _ b _ _=>b
 | _=>[]
def U0:DE->M Out:=(A4 3<|s2 K0 (sC<|.int 1)<|i0 A2<|vF 1<|vD (sC<|.int 3) m9)
def U4:DE->M Out:=(A4 4<|s2 ixD (lT<|d5 (i0 A2<|vF 1<|vD (sC<|.int 7) m9)<|d5 (s2 K0 (sC<|.int 7)<|i0 A2<|vF 1<|vD (sC<|.int 34) m9) j9)<|sN vz<|d5 (s2 (eqD false) (i0 A2<|vF 1<|vD (sC<|.int 5) m9)<|sC<|.int 0) j9)
def U6:DE->M Out:=(A4 5<|i0 E8<|vF 1<|vD (sV 3) m9)
def U7:DE->M Out:=(mIf (uB<|s2 (eqD false) (i0 A2<|vF 1<|vD (sC<|.int 4) m9)<|sC<|.int 0) (A4 5<|i0 L9<|vD (K8<|d5 (sC<|.int 8)<|d5 (s2 K0 (sC<|.int 1)<|i0 A2<|vF 1<|vD (sC<|.int 2) m9) j9)<|vD (s2 K0 (s2 m5 (sC<|.tuple [.int 0])<|s2 K0 (sC<|.int 3)<|i0 A2<|vF 1<|vD (sC<|.int 3) m9)<|sC<|.tuple [.int 1]) m9) mNx)
def P4:DE->M Out:=(A4 6<|i0 J9<|vD (sV 5)<|vD (sV 3) m9)
def P5:DE->M Out:=(A4 7<|i0 M7<|vF 1<|vD (sV 5)<|vD (sV 4) m9)
def P8:DE->M Out:=(A4 8<|sLC (Y2<|d5 (i0 A2<|vF 1<|vD (sC<|.int 5) m9) j9) 1 [1,7] (bN 0) C6<|s2 K0 (sC<|.int 1)<|i0 A2<|vF 1<|vD (sN ig<|d5 (s2 ixD (sW 2)<|sC<|.int 1) j9) m9)
def P6:DE->M Out:=(A4 9<|sN T7<|d5 (sLC (C9<|sW 8) 1 [1] (bN 0) C6<|K8<|d5 (i0 A2<|vF 1<|vD (sC<|.int 2) m9)<|d5 (sV 0)<|d5 (sC<|.bool false) j9) j9)
def P7:DE->M Out:=(mIf (fj<|uT<|i0 u8<|vD (sV 7)<|vD (sV 9) m9) (mRt<|sC<|.bool false) mNx)
def N3:DE->M Out:=(A4 11<|i0 J7<|vD (sV 5)<|vD (sV 3)<|vD (sV 4) m9)
def N4:DE->M Out:=(mIf (uB<|s2 (eqD true) (sW 6)<|sC<|.str "rests") (mIf (uOr (uB<|s2 (eqD true) (sN bF<|d5 (sW 11) j9)<|sN bF<|d5 (K8<|d5 (sC<|.str "no")<|d5 (sV 6) j9) j9)<|uB<|s2 gtD (s2 ixD (i0 B4<|vD (sV 5)<|vD (sV 3)<|vD (s2 ixD (sW 7)<|sC<|.int 1) m9)<|sC<|.int 0)<|sC<|.int 0) (mRt<|sC<|.bool false) mNx)<|mIf (uOr (uB<|s2 (eqD true) (s2 ixD (sW 11)<|sC<|.int 0)<|sC<|.str "told")<|fj<|uT<|i0 z9<|vD (sV 5)<|vD (sV 3)<|vD (sV 4)<|vD (s2 ixD (sW 11)<|sC<|.int 1) m9) (mRt<|sC<|.bool false)<|mIf (fj<|uT<|i0 u8<|vD (s2 ixD (sW 11)<|sC<|.int 1)<|vD (sV 9) m9) (mRt<|sC<|.bool false) mNx)
def U3:DE->M Out:=(W9 (Y2<|d5 (sC<|.int 2) j9) (bN 10)<|mSq N3 N4)
def iG:DE->M Out:=(W9 (Y2<|d5 (sC<|.int 4) j9) (bN 2)<|mSq U0<|mSq U4<|mSq U6<|mSq U7<|mSq P4<|mSq P5<|mSq P8<|mSq P6<|mSq P7 U3)
def dD:DE->M Out:=(mRt<|sC<|.bool true)
section
variable {f:Of}{OP:Oe}{A:Oj}{outer:List Ov}{s:Og}{H:Hp}{E:XK}(T:Txt K mg)(hr:Room 7 (A.deeper<|PyProof.Rows.envOfC "law" (defScope Dk) s.heap.objs.size f OP))(hu5:(A.deeper<|PyProof.Rows.envOfC "law" (defScope Dk) s.heap.objs.size f OP).units+65<OG)(Da:i3 P w K mg base "_law_draw" 1 ["_law_feed_here","_law_many"] (spD K 2 A2))(Df:i3 P w K mg base "_law_beats" 2 ["_law_feed_here","_law_hands"] (spD K 2 E8))(Di:i3 P w K mg base "beats_of" 2 ["counts","works"] (spD K 2 L9))(Dg:i3 P w K mg base "_law_word" 2 ["_law_beats_here","_law_hands"] (spD K 2 J9))(Dj:i3 P w K mg base "_law_own" 2 ["_law_feed_here","_law_beats_here","_law_most"] (spD K 3 M7))(Dc:i3 P w K mg base "_law_bounds_right" 7 ["_law_paper","_law_stand"] (spD K 2 u8))(Dh:i3 P w K mg base "_law_told" 7 ["_law_beats_here","_law_hands","_law_most"] (spD K 3 J7))(De:i3 P w K mg base "_law_spare" 2 ["_law_beats_here","_law_hands","_law_heights"] (spD K 3 B4))(Dd:i3 P w K mg base "_law_is_paper" 3 ["_law_beats_here","_law_hands","_law_most","_law_thing"] (spD K 4 z9))
include T hr hu5 Da Df Di Dg Dj Dc Dh De Dd
theorem kN:∃ts,Ss K (O1 CX0 P w K mg base ["_law_script","_law_feed_here","_law_k","_law_hands","_law_most","_law_beats_here","_law_word_here","_law_own_here","_law_lefts","_law_stand","_law_turn","_law_told_here"] "law" (defScope Dk) f OP A outer s H E).nox (nth (D5<|nth (defBody Dk) 1) 0) ts U0:=by unfold U0;exact⟨_,(m6 3 M4.nd<|i4 (A5 rfl) (Ev.bw f8)<|Ev.bw<|i8 Da hr<|N8 1<|i6 f8 g7)⟩
theorem mO:∃ts,Ss K (O1 CX0 P w K mg base ["_law_script","_law_feed_here","_law_k","_law_hands","_law_most","_law_beats_here","_law_word_here","_law_own_here","_law_lefts","_law_stand","_law_turn","_law_told_here"] "law" (defScope Dk) f OP A outer s H E).nox (nth (D5<|nth (defBody Dk) 1) 1) ts U4:=by unfold U4;exact⟨_,(m6 4 M4.nd<|W6 (W8 rfl) (Ev.bw<|lz<|d8 (i8 Da hr<|N8 1<|i6 f8 g7)<|d8 (i4 (A5 rfl) (Ev.bw f8)<|Ev.bw<|i8 Da hr<|N8 1<|i6 f8 g7) j7)<|Ev.bw<|N7 (AB) T.int uh<|j3 (Ev.bw<|cK (fm rfl hr.units) (Ev.bw<|i8 Da hr<|N8 1<|i6 f8 g7)<|Ev.bw f8) n6)⟩
theorem mH:∃ts,Ss K (O1 CX0 P w K mg base ["_law_script","_law_feed_here","_law_k","_law_hands","_law_most","_law_beats_here","_law_word_here","_law_own_here","_law_lefts","_law_stand","_law_turn","_law_told_here"] "law" (defScope Dk) f OP A outer s H E).nox (nth (D5<|nth (defBody Dk) 1) 2) ts U6:=by unfold U6;exact⟨_,(m6 5 M4.nd<|i8 Df hr<|N8 1<|i6 (i5 3) g7)⟩
theorem mW:∃ts,Ss K (O1 CX0 P w K mg base ["_law_script","_law_feed_here","_law_k","_law_hands","_law_most","_law_beats_here","_law_word_here","_law_own_here","_law_lefts","_law_stand","_law_turn","_law_told_here"] "law" (defScope Dk) f OP A outer s H E).nox (nth (D5<|nth (defBody Dk) 1) 3) ts U7:=by unfold U7;exact⟨_,(G0 (x8 (fm rfl hr.units) (Ev.bw<|i8 Da hr<|N8 1<|i6 f8 g7)<|Ev.bw f8) (g9<|m6 5 M4.nd<|i8 Di hr<|i6 (A0<|d8 f8<|d8 (i4 (A5 rfl) (Ev.bw f8)<|Ev.bw<|i8 Da hr<|N8 1<|i6 f8 g7) j7)<|i6 (i4 (A5 rfl) (Ev.bw<|i4 (j0 rfl) (Ev.bw<|dk (.tuple [.int 0]) rfl)<|Ev.bw<|i4 (A5 rfl) (Ev.bw f8)<|Ev.bw<|i8 Da hr<|N8 1<|i6 f8 g7)<|Ev.bw<|dk (.tuple [.int 1]) rfl) g7) B9)⟩
theorem lO:∃ts,Ss K (O1 CX0 P w K mg base ["_law_script","_law_feed_here","_law_k","_law_hands","_law_most","_law_beats_here","_law_word_here","_law_own_here","_law_lefts","_law_stand","_law_turn","_law_told_here"] "law" (defScope Dk) f OP A outer s H E).nox (nth (D5<|nth (defBody Dk) 1) 4) ts P4:=by unfold P4;exact⟨_,(m6 6 M4.nd<|i8 Dg hr<|i6 (i5 5)<|i6 (i5 3) g7)⟩
theorem lQ:∃ts,Ss K (O1 CX0 P w K mg base ["_law_script","_law_feed_here","_law_k","_law_hands","_law_most","_law_beats_here","_law_word_here","_law_own_here","_law_lefts","_law_stand","_law_turn","_law_told_here"] "law" (defScope Dk) f OP A outer s H E).nox (nth (D5<|nth (defBody Dk) 1) 5) ts P5:=by unfold P5;exact⟨_,(m6 7 M4.nd<|i8 Dj hr<|N8 1<|i6 (i5 5)<|i6 (i5 4) g7)⟩
theorem mj:∃ts,Ss K (O1 CX0 P w K mg base ["_law_script","_law_feed_here","_law_k","_law_hands","_law_most","_law_beats_here","_law_word_here","_law_own_here","_law_lefts","_law_stand","_law_turn","_law_told_here"] "law" (defScope Dk) f OP A outer s H E).nox (nth (D5<|nth (defBody Dk) 1) 6) ts P8:=by unfold P8;exact⟨_,(eW 8 (hN:=M4.nd) (osc:=(defScope Dk)) (N:=["_law_j","_law_feed_here","_law_own_here"]) (k:=1) (cap:=[1,7]) (hc:=rfl) (hosc:=rfl) (hcap:=⟨rfl,by decide +kernel,by decide +kernel,by decide +kernel,rfl,rfl,by decide +kernel⟩) (Ei.bw<|S8 (d8 (i8 Da hr<|N8 1<|i6 f8 g7) j7) T.range) (λcl C ex OM s H=>(n9 (i:=0)<|show List.Nodup (["_law_j","_law_feed_here","_law_own_here"]:List Str) by decide +kernel)) (λcl C ex OM s H=>u9)<|λcl C ex OM s H=>(i4 (A5 rfl) (Ev.bw f8)<|Ev.bw<|i8 Da hr<|N8 1<|i6 (l7 (bX rfl) T.len bW<|j3 (Ev.bw<|k9 2) n6) g7))⟩
theorem lB:∃ts,Ss K (O1 CX0 P w K mg base ["_law_script","_law_feed_here","_law_k","_law_hands","_law_most","_law_beats_here","_law_word_here","_law_own_here","_law_lefts","_law_stand","_law_turn","_law_told_here"] "law" (defScope Dk) f OP A outer s H E).nox (nth (D5<|nth (defBody Dk) 1) 7) ts P6:=by unfold P6;exact⟨_,(m6 9 M4.nd<|N7 (Q3 rfl) T.tuple I0<|j3 (Ev.bw<|K3 (osc:=(defScope Dk)) (N:=["_law_left","_law_feed_here"]) (k:=1) (cap:=[1]) rfl rfl ⟨rfl,by decide +kernel,by decide +kernel,by decide +kernel,rfl,rfl,by decide +kernel⟩ (w8<|j4 8) (λcl C ex OM s H=>(n9 (i:=0)<|show List.Nodup (["_law_left","_law_feed_here"]:List Str) by decide +kernel)) (λcl C ex OM s H=>u9)<|λcl C ex OM s H=>(A0<|d8 (i8 Da hr<|N8 1<|i6 f8 g7)<|d8 (i5 0)<|d8 O3 j7)) n6)⟩
theorem kX:∃ts,Ss K (O1 CX0 P w K mg base ["_law_script","_law_feed_here","_law_k","_law_hands","_law_most","_law_beats_here","_law_word_here","_law_own_here","_law_lefts","_law_stand","_law_turn","_law_told_here"] "law" (defScope Dk) f OP A outer s H E).nox (nth (D5<|nth (defBody Dk) 1) 8) ts P7:=by unfold P7;exact⟨_,(G0 (Y3<|W0<|Ev.bw<|i8 Dc hr<|i6 (i5 7)<|i6 (i5 9) g7) (g9<|l3 O3) B9)⟩
theorem iq:∃ts,Ss K (O1 CX0 P w K mg base ["_law_script","_law_feed_here","_law_k","_law_hands","_law_most","_law_beats_here","_law_word_here","_law_own_here","_law_lefts","_law_stand","_law_turn","_law_told_here"] "law" (defScope Dk) f OP A outer s H E).nox (nth (D5<|nth (D5<|nth (defBody Dk) 1) 9) 0) ts N3:=by unfold N3;exact⟨_,(m6 11 M4.nd<|i8 Dh hr<|i6 (i5 5)<|i6 (i5 3)<|i6 (i5 4) g7)⟩
theorem ir:∃ts,Ss K (O1 CX0 P w K mg base ["_law_script","_law_feed_here","_law_k","_law_hands","_law_most","_law_beats_here","_law_word_here","_law_own_here","_law_lefts","_law_stand","_law_turn","_law_told_here"] "law" (defScope Dk) f OP A outer s H E).nox (nth (D5<|nth (D5<|nth (defBody Dk) 1) 9) 1) ts N4:=by unfold N4;exact⟨_,(G0 (x8 (bP rfl hr.units) (j4 6)<|Ev.bw M6) (g9<|G0 (Ew.t<|dP (x8 (bP rfl hr.units) (Ev.bw<|l7 (Z9 rfl hr.gd hr.units) T.repr aw<|j3 (j4 11) n6)<|Ev.bw<|l7 (Z9 rfl hr.gd hr.units) T.repr aw<|j3 (Ev.bw<|A0<|d8 M6<|d8 (i5 6) j7) n6)<|eR<|x8 fF (Ev.bw<|W6 (W8 rfl) (Ev.bw<|i8 De hr<|i6 (i5 5)<|i6 (i5 3)<|i6 (k9 7) g7)<|Ev.bw f8)<|Ev.bw f8) (g9<|l3 O3) B9)<|g9<|G0 (Ew.t<|dP (x8 (bP rfl hr.units) (Ev.bw<|k9 11)<|Ev.bw M6)<|eR<|Y3<|W0<|Ev.bw<|i8 Dd hr<|i6 (i5 5)<|i6 (i5 3)<|i6 (i5 4)<|i6 (k9 11) g7) (g9<|l3 O3)<|g9<|G0 (Y3<|W0<|Ev.bw<|i8 Dc hr<|i6 (k9 11)<|i6 (i5 9) g7) (g9<|l3 O3) B9)⟩
theorem lL:∃ts,Ss K (O1 CX0 P w K mg base ["_law_script","_law_feed_here","_law_k","_law_hands","_law_most","_law_beats_here","_law_word_here","_law_own_here","_law_lefts","_law_stand","_law_turn","_law_told_here"] "law" (defScope Dk) f OP A outer s H E).nox (nth (D5<|nth (defBody Dk) 1) 9) ts U3:=by obtain⟨t_law_1_9_1,h_law_1_9_1⟩:=ir (f:=f) (OP:=OP) (A:=A) (outer:=outer) (s:=s) (H:=H) (E:=E) T hr hu5 Da Df Di Dg Dj Dc Dh De Dd;obtain⟨t_law_1_9_0,h_law_1_9_0⟩:=iq (f:=f) (OP:=OP) (A:=A) (outer:=outer) (s:=s) (H:=H) (E:=E) T hr hu5 Da Df Di Dg Dj Dc Dh De Dd;exact⟨_,L0 rfl (S8 (d8 f8 j7) T.range) (n9 (i:=10) M4.nd)<|d7 h_law_1_9_0<|g9 h_law_1_9_1⟩
theorem ue:∃ts,Ss K (O1 CX0 P w K mg base ["_law_script","_law_feed_here","_law_k","_law_hands","_law_most","_law_beats_here","_law_word_here","_law_own_here","_law_lefts","_law_stand","_law_turn","_law_told_here"] "law" (defScope Dk) f OP A outer s H E).nox (nth (defBody Dk) 1) ts iG:=by obtain⟨t_law_1_9,h_law_1_9⟩:=lL (f:=f) (OP:=OP) (A:=A) (outer:=outer) (s:=s) (H:=H) (E:=E) T hr hu5 Da Df Di Dg Dj Dc Dh De Dd;obtain⟨t_law_1_8,h_law_1_8⟩:=kX (f:=f) (OP:=OP) (A:=A) (outer:=outer) (s:=s) (H:=H) (E:=E) T hr hu5 Da Df Di Dg Dj Dc Dh De Dd;obtain⟨t_law_1_7,h_law_1_7⟩:=lB (f:=f) (OP:=OP) (A:=A) (outer:=outer) (s:=s) (H:=H) (E:=E) T hr hu5 Da Df Di Dg Dj Dc Dh De Dd;obtain⟨t_law_1_6,h_law_1_6⟩:=mj (f:=f) (OP:=OP) (A:=A) (outer:=outer) (s:=s) (H:=H) (E:=E) T hr hu5 Da Df Di Dg Dj Dc Dh De Dd;obtain⟨t_law_1_5,h_law_1_5⟩:=lQ (f:=f) (OP:=OP) (A:=A) (outer:=outer) (s:=s) (H:=H) (E:=E) T hr hu5 Da Df Di Dg Dj Dc Dh De Dd;obtain⟨t_law_1_4,h_law_1_4⟩:=lO (f:=f) (OP:=OP) (A:=A) (outer:=outer) (s:=s) (H:=H) (E:=E) T hr hu5 Da Df Di Dg Dj Dc Dh De Dd;obtain⟨t_law_1_3,h_law_1_3⟩:=mW (f:=f) (OP:=OP) (A:=A) (outer:=outer) (s:=s) (H:=H) (E:=E) T hr hu5 Da Df Di Dg Dj Dc Dh De Dd;obtain⟨t_law_1_2,h_law_1_2⟩:=mH (f:=f) (OP:=OP) (A:=A) (outer:=outer) (s:=s) (H:=H) (E:=E) T hr hu5 Da Df Di Dg Dj Dc Dh De Dd;obtain⟨t_law_1_1,h_law_1_1⟩:=mO (f:=f) (OP:=OP) (A:=A) (outer:=outer) (s:=s) (H:=H) (E:=E) T hr hu5 Da Df Di Dg Dj Dc Dh De Dd;obtain⟨t_law_1_0,h_law_1_0⟩:=kN (f:=f) (OP:=OP) (A:=A) (outer:=outer) (s:=s) (H:=H) (E:=E) T hr hu5 Da Df Di Dg Dj Dc Dh De Dd;exact⟨_,L0 rfl (S8 (d8 f8 j7) T.range) (n9 (i:=2) M4.nd)<|d7 h_law_1_0<|d7 h_law_1_1<|d7 h_law_1_2<|d7 h_law_1_3<|d7 h_law_1_4<|d7 h_law_1_5<|d7 h_law_1_6<|d7 h_law_1_7<|d7 h_law_1_8<|g9 h_law_1_9⟩
theorem sq:∃ts,Ss K (O1 CX0 P w K mg base ["_law_script","_law_feed_here","_law_k","_law_hands","_law_most","_law_beats_here","_law_word_here","_law_own_here","_law_lefts","_law_stand","_law_turn","_law_told_here"] "law" (defScope Dk) f OP A outer s H E).nox (nth (defBody Dk) 2) ts dD:=by unfold dD;exact⟨_,(l3 O3)⟩
end
def jD:DE->M Out:=(mSq iG dD)
def zp {α:Type}(l:List α)(d:α)(h:0<l.length):l=l.getD 0 d::l.drop 1:=by
 cases l with
 | nil=>simp at h
 | cons a r=>rfl
def spLaw (K:Fg):Sp:=λvs H Q _=>∃(a:Of) (ns:List Int),vs=[.ref a]/\SqL K H a (ns.map V.int)/\ns.length<=63/\Q0 (tabsK Feeds.lam K) H/\∀H',Q (.bl true) H'
def uG {f:Of}{OP:Oe}{A:Oj}{outer:List Ov}{s:Og}{H:Hp}{E:XK}(hr:Room 7 (A.deeper<|PyProof.Rows.envOfC "law" (defScope Dk) s.heap.objs.size f OP))(CF:i3 P w K mg base "_law_feed" 1 ["_law_script"] (jm K)) :
  PS (O1 CX0 P w K mg base ["_law_script","_law_feed_here","_law_k","_law_hands","_law_most","_law_beats_here","_law_word_here","_law_own_here","_law_lefts","_law_stand","_law_turn","_law_told_here"] "law" (defScope Dk) f OP A outer s H E).nox ((defBody Dk).getD 0<|.Pass ⟨0,0,0,0⟩) (aU (bJ (jm K) [] E0<|z8 (Q8 0) P1)<|Q5 1) :=
 N9 (i:=1) M4.nd rfl (by walk_at "v") (gh CF (hr.mono<|by decide) rfl<|l8 (pv 0) A8)
def HZ {f:Of}{fd:Om}(Fn:Fun K "law" "law" Dk f fd)(T:Txt K mg)(CF:i3 P w K mg base "_law_feed" 1 ["_law_script"] (jm K))(Da:i3 P w K mg base "_law_draw" 1 ["_law_feed_here","_law_many"] (spD K 2 A2))(Df:i3 P w K mg base "_law_beats" 2 ["_law_feed_here","_law_hands"] (spD K 2 E8))(Di:i3 P w K mg base "beats_of" 2 ["counts","works"] (spD K 2 L9))(Dg:i3 P w K mg base "_law_word" 2 ["_law_beats_here","_law_hands"] (spD K 2 J9))(Dj:i3 P w K mg base "_law_own" 2 ["_law_feed_here","_law_beats_here","_law_most"] (spD K 3 M7))(Dc:i3 P w K mg base "_law_bounds_right" 7 ["_law_paper","_law_stand"] (spD K 2 u8))(Dh:i3 P w K mg base "_law_told" 7 ["_law_beats_here","_law_hands","_law_most"] (spD K 3 J7))(De:i3 P w K mg base "_law_spare" 2 ["_law_beats_here","_law_hands","_law_heights"] (spD K 3 B4))(Dd:i3 P w K mg base "_law_is_paper" 3 ["_law_beats_here","_law_hands","_law_most","_law_thing"] (spD K 4 z9))
  (fin:∀ns:List Int,ns.length<=63->∃F',jD ([none,some .feed]++List.replicate (["_law_script","_law_feed_here","_law_k","_law_hands","_law_most","_law_beats_here","_law_word_here","_law_own_here","_law_lefts","_law_stand","_law_turn","_law_told_here"].length-2) none) (kD ns)=some (.rt<|.bool true,F')):FnOk P w K mg base CX0 8 f fd ["_law_script"] (spLaw K):=by
 refine Fn.ok M4 (λvs H Q E h=>?_) (λOP A outer s H vs Q E hr h=>?_)
 .obtain⟨a,ns,rfl,_⟩:=h;rfl
 .obtain⟨a,ns,rfl,hS,hl,tbo,k⟩:=h;have hu5:(A.deeper<|PyProof.Rows.envOfC "law" (defScope Dk) s.heap.objs.size f OP).units+65<OG:=by have:=hr.un;omega
  obtain⟨t_law_1,h_law_1⟩:=ue (f:=f) (OP:=OP) (A:=A) (outer:=outer) (s:=s) (H:=H) (E:=E) T hr hu5 Da Df Di Dg Dj Dc Dh De Dd;obtain⟨t_law_2,h_law_2⟩:=sq (f:=f) (OP:=OP) (A:=A) (outer:=outer) (s:=s) (H:=H) (E:=E) T hr hu5 Da Df Di Dg Dj Dc Dh De Dd;obtain⟨ts,hq,hk⟩:∃ts,Sss K (O1 CX0 P w K mg base ["_law_script","_law_feed_here","_law_k","_law_hands","_law_most","_law_beats_here","_law_word_here","_law_own_here","_law_lefts","_law_stand","_law_turn","_law_told_here"] "law" (defScope Dk) f OP A outer s H E).nox ((defBody Dk).drop 1) ts jD:=⟨_,(d7 h_law_1<|g9 h_law_2)⟩;have h0:=uG (P:=P) (w:=w) (K:=K) (mg:=mg) (base:=base) (f:=f) (OP:=OP) (A:=A) (outer:=outer) (s:=s) (H:=H) (E:=E) hr CF;have hsp:=zp (defBody Dk) (.Pass ⟨0,0,0,0⟩) (by decide +kernel);generalize List.drop 1 (defBody Dk)=R at hq hsp;generalize (defBody Dk).getD 0 (On.Pass { line:=0,col:=0,endLine:=0,endCol:=0 })=S0 at h0 hsp;have hp:=B1 h0 hq;rw[<-hsp]at hp;refine⟨_,hp,?_⟩;refine⟨_,rfl,a,ns,rfl,hS,hl,λd c H1 f1 s1=>?_⟩;obtain⟨F',e⟩:=fin ns hl;have fat:FAt K (some (d,c)) H1 (kD ns):=⟨f1,tbo.congr λb hb=>by
   obtain⟨o,e⟩:∃o,H b=some o:=by
    rcases hb with hb | ⟨φ,e⟩
    .obtain⟨t,ht,rfl⟩:=Jm.1 hb;obtain⟨ps,e,_⟩:=tbo t ht;exact⟨_,e⟩
    .exact⟨_,e⟩
   rw[e];exact s1 b o e⟩
  refine hk (some (d,c)) (m7 K<|some (d,c)) H1 _ (kD ns) _ H1 _ _ F' ⟨⟨m7 K<|some (d,c),λ_ z=>z,λb hb=>.inl hb,⟨fat,λ_ z=>z,fat.bok,by simp[L2.S5],λi x ei=>?_⟩⟩,λ_ z=>z,Kp.refl,λi ds b ei=>?_,λi j ds es b ei=>?_,λi c ps b ei=>?_⟩ e (λv H' _ _ hv=>?_)
  .match i,ei with
   | 0,ei=>cases ei
   | 1,ei=>cases ei;exact⟨.ref d,rfl,d,c,rfl,rfl⟩
   | i+2,ei=>simp only[Ji,Jo,KW,JO]at ei;split at ei <;> cases ei
  .match i,ei with
   | 0,ei=>cases ei
   | 1,ei=>cases ei
   | i+2,ei=>simp only[Ji,Jo,KW,JO]at ei;split at ei <;> cases ei
  .match i,ei with
   | 0,ei=>cases ei
   | 1,ei=>cases ei
   | i+2,ei=>simp only[Ji,Jo,KW,JO]at ei;split at ei <;> cases ei
  .match i,ei with
   | 0,ei=>cases ei
   | 1,ei=>cases ei
   | i+2,ei=>simp only[Ji,Jo,KW,JO]at ei;split at ei <;> cases ei
  .simp only[c6]at hv;subst hv;exact k H'
end
end
end K67
namespace K67
open PySem L2 L3 Bz
section
def uY:aa=c_word_of:=rfl
def qY:v4=c_lfrac:=rfl
def sP:dF=c_added:=rfl
def xf:jt=c_over:=rfl
def ug:dw=dI:=rfl
def vH:dY=eV:=rfl
abbrev Bw:=Kw<|Int×Int
abbrev bsD (l:List Bw):My:=.tuple<|l.map<|kwD cmD
def Q2 {i:Int}{n:Nat}{F:FdS}{Q:My->FdS->Prop}(hn:0<n)(hb:n<2 ^ 9000)(q:Q (qd<|mkRat i n) F):wp (v4 [.dat<|.int i,.dat<|.int (n:Nat)] F) Q:=by
 rw[qY];unfold c_lfrac;refine D4.2<|y9.2<|gU<|d4.2<|G3.2<|d4.2<|w9w rfl<|f9.2<|c7 BJ<|w9c rfl<|f9.2 ⟨_,_,rfl,h7 rfl,h7 rfl,h9 ?_⟩;refine y9.2 (AK (λE F'=>F'=F/\∃x y:Nat,E=[some<|.dat<|.int i,some<|.dat<|.int (n:Nat),some<|.dat<|.int (x:Nat),some<|.dat<|.int (y:Nat)]/\Nat.gcd x y=Nat.gcd i.natAbs n) (λE=>match E with
  | [_,_,_,some<|.dat<|.int y]=>y.natAbs
  | _=>0) ⟨rfl,i.natAbs,n,rfl,rfl⟩ ?_)
 rintro E F1 ⟨rfl,x,y,rfl,hg⟩;refine K7.2<|w9s rfl<|g8.2<|c7 eP<|c7 rfl ?_;refine S4 (λe=>?_) (λe=>?_)
 .have hy:(0:Int)<y:=Jg e;refine gU<|w9c rfl<|d4.2<|w9s rfl<|w9w rfl<|c7 (ym hy)<|f9.2 ⟨_,_,rfl,h7 rfl,h7 rfl,_,rfl,⟨rfl,y,x % y,?_,?_⟩,?_⟩
  .simp
  .rw[<-hg,NS x y,Nat.gcd_rec y x,NS]
  .show((x:Int) % (y:Int)).natAbs<(y:Int).natAbs;have h1:=Nl (x:Int) (b:=(y:Int)) (by omega);have h2:=Mr (x:Int) hy;omega
 .have hy:y=0:=by have:=JQ e;omega
  subst hy;rw[Nat.gcd_zero_right]at hg;subst hg;have hgp:0<Nat.gcd i.natAbs n:=Nat.gcd_pos_of_pos_right _ hn;have hgl:Nat.gcd i.natAbs n<=n:=NJ hn<|Nat.gcd_dvd_right ..;have d:=oG (i:=i) (j:=((Nat.gcd i.natAbs n:Nat):Int)) (by omega) (by rw[Js];omega);have d':=oG (i:=(n:Int)) (j:=((Nat.gcd i.natAbs n:Nat):Int)) (by omega) (by rw[Js];omega);refine h9<|B5.2<|A7.2<|d4.2<|w9s rfl<|w9w rfl<|c7 d<|d4.2<|w9s rfl<|w9w rfl<|c7 d'<|f9.2 ⟨n8 rfl,v5 ?_⟩;have lo:=dA (i:=i) (j:=(n:Int)) (by omega);have eg:(Int.gcd i (n:Int):Int)=((Nat.gcd i.natAbs n:Nat):Int):=rfl;rw[eg]at lo;rw[ip lo (by omega),Jx];exact q
section
variable {bd bd1:My->DE->Option DE}{mi1:DE->M (List My)}{me:DE->M My}
def rV {β:Type}{y:β->My}{g:β->My}{Sh:DE->Prop}:∀(its:List β) (E:DE) (F:FdS) (Q:List My×DE->FdS->Prop),Sh E ->
  (∀b∈its,∀E,Sh E->∃E1,bd1 (y b) E=some E1/\Sh E1/\∀(F:FdS) (Q:My->FdS->Prop),Q (g b) F->wp (me E1 F) Q)->(∀E1,Sh E1->Q (its.map g,E1) F)->wp (jw bd1 C6 me (its.map y) E F) Q
 | [],E,F,Q,hE,_,q=>d6.2<|q E hE
 | b::its,E,F,Q,hE,h,q=>by obtain⟨E1,e,h1,hm⟩:=h b IG E hE;rw[IJ,jw,e,Jd,c8];refine Z3.2 ?_;rw[IE rfl,c8];refine hm F _ ?_;rw[c8];exact rV its E1 F _ h1 (λb hb=>h b<|IA _ hb) λE2 h2=>d6.2<|q E2 h2
def iD {α β:Type}{x:α->My}{it:α->List β}{y:β->My}{g:α->β->My}{Sh:DE->Prop}(Si:α->DE->Prop):∀(rows:List α) (E:DE) (F:FdS) (Q:List My->FdS->Prop),Sh E ->
  (∀a∈rows,∀E,Sh E->∃E1,bd (x a) E=some E1/\Si a E1/\∀(F:FdS) (Q:List My->FdS->Prop),Q ((it a).map y) F->wp (mi1 E1 F) Q) ->
  (∀a∈rows,∀b∈it a,∀E,Si a E->∃E1,bd1 (y b) E=some E1/\Si a E1/\∀(F:FdS) (Q:My->FdS->Prop),Q (g a b) F->wp (me E1 F) Q) ->
  (∀a E,Si a E->Sh E)->Q ((rows.map λa=>(it a).map<|g a).flatten) F->wp (bA bd C6 mi1 bd1 C6 me (rows.map x) E F) Q
 | [],E,F,Q,_,_,_,_,q=>d6.2 q
 | a::rows,E,F,Q,hE,h1,h2,h3,q=>by
  obtain⟨E1,e,hi,hm⟩:=h1 a IG E hE;rw[IJ,bA,e,Jd,c8];refine Z3.2 ?_;rw[IE rfl,c8];refine hm F _ ?_;rw[c8];refine rV (Sh:=Si a) (it a) E1 F _ hi (h2 a IG) λE2 hE2=>?_
  rw[c8];refine iD Si rows E2 F _ (h3 a E2 hE2) (λa ha=>h1 a<|IA _ ha) (λa ha=>h2 a<|IA _ ha) h3<|d6.2 ?_;rw[IJ,Kr]at q;exact q
end
structure Be (l:List Bw):Prop where
 n1:1<=l.length
 n2:l.length<=4
 ok:∀p∈l,p.1.length<=2/\(∀c∈p.1,1<=c.2/\c.2<=6)/\1<=p.2/\p.2<=12
def wkL (l:List Bw):List (Int×Int):=(l.map λp=>p.1.map λc=>(c.2,p.2)).flatten
def u7 (l:List Bw):Int:=(l.map λp=>p.2).sum
def D8 (l:List Bw):Int:=(l.map λp=>J0 p.1*p.2).sum
def jJ (p:Bw)(l:List Bw):wkL (p::l)=(p.1.map λc=>(c.2,p.2))++wkL l:=rfl
def wD {l:List Bw}{z:Int×Int}:z∈wkL l↔∃p∈l,∃c∈p.1,z=(c.2,p.2):=by
 unfold wkL;simp only[List.mem_flatten,Jm];constructor
 .rintro ⟨_,⟨p,hp,rfl⟩,hz⟩;obtain⟨c,hc,rfl⟩:=Jm.1 hz;exact⟨p,hp,c,hc,rfl⟩
 .rintro ⟨p,hp,c,hc,rfl⟩;exact⟨_,⟨p,hp,rfl⟩,Jm.2 ⟨c,hc,rfl⟩⟩
theorem nr:∀l:List Bw,O2 (wkL l)=D8 l
 | []=>rfl
 | p::l=>by
  have ih:=nr l;unfold O2 D8 at ih ⊢;rw[jJ,Kt,NY,ih,IJ,JZ];congr 1;unfold J0;generalize p.1=b;generalize p.2=y;induction b with
  | nil=>simp
  | cons c b ih=>simp only[IJ,JZ]at ih ⊢;rw[ih,Int.add_mul]
theorem je:∀{l:List Bw},(∀p∈l,p.1.length<=2)->(wkL l).length<=2*l.length
 | [],_=>IT _
 | p::l,h=>by
  have ih:=je (l:=l) λq hq=>h q<|IA _ hq
  have:=h p IG;rw[jJ,JJ,Iz,IK];omega
section
variable {F:FdS}{Q:My->FdS->Prop}{l:List Bw}
def Be.len (h:Be l):(wkL l).length<=8:=by
 have:=je λp hp=>(h.ok p hp).1
 have:=h.n2;omega
def Be.wk (h:Be l):∀z∈wkL l,(1<=z.1/\z.1<=6)/\1<=z.2/\z.2<=12:=λz hz=>by obtain⟨p,hp,c,hc,rfl⟩:=wD.1 hz;obtain⟨_,h2,h3⟩:=h.ok p hp;exact⟨h2 c hc,h3⟩
theorem ie {f:Bw->Int}{a b:Int}:∀{l:List Bw},(∀p∈l,a<=f p/\f p<=b)->a*l.length<=(l.map f).sum/\(l.map f).sum<=b*l.length
 | [],_=>by simp
 | p::l,h=>by
  obtain⟨h1,h2⟩:=ie (l:=l) λq hq=>h q<|IA _ hq
  have:=h p IG;rw[IJ,JZ,IK];push_cast;rw[Oc,Oc];omega
def Be.tot (h:Be l):1<=u7 l/\u7 l<=48:=by
 have:=ie (f:=λp:Bw=>p.2) (a:=1) (b:=12) λp hp=>(h.ok p hp).2.2
 have h1:=h.n1;have h2:=h.n2;unfold u7;omega
def AF {b:Bt}(h:b.length<=2)(hc:∀c∈b,1<=c.2/\c.2<=6):0<=J0 b/\J0 b<=12:=by
 have key:∀b:Bt,(∀c∈b,1<=c.2/\c.2<=6)->0<=J0 b/\J0 b<=6*b.length:=λb=>by
  induction b with
  | nil=>intro _;exact⟨LL _,LL _⟩
  | cons c b ih =>
   intro hc;have:=ih λc h=>hc c<|IA _ h
   have:=hc c IG;unfold J0 at *;rw[IJ,JZ,IK];push_cast;omega
 have:=key b hc;omega
def Be.sb (h:Be l):∀p∈l,0<=J0 p.1/\J0 p.1<=12:=λp hp=>AF (h.ok p hp).1 (h.ok p hp).2.1
def dC (h:Be l)(q:Q (.list<|(wkL l).map pr) F):wp (w6 [.dat<|bsD l] F) Q:=by
 have hn:=h.n2;unfold w6;walk_at "kb";refine y9.2<|eK.2<|fN.2<|f9.2 ⟨n8 rfl,h7 rfl,h9 ?_⟩;refine y9.2<|L6.2<|v6.2<|w9g rfl<|c7 D7 ?_;refine E9 (λi E F'=>F'=F/\∃o2 o3,E=[some<|.dat<|bsD l,some<|.own<|(wkL<|l.take i).map pr,o2,o3]) _ 0 _ F ⟨rfl,none,none,rfl⟩ ?_ ?_
 .rintro i d hd E F1 ⟨rfl,o2,o3,rfl⟩;rw[Jv] at *;rw[IU]at hd;obtain⟨p,hp,rfl⟩:=Ja.1 hd;have hpl:=Ju hp;obtain⟨h2,_,_⟩:=h.ok p hpl;refine⟨_,rfl,qW rfl<|G7.2<|v6.2<|w9w rfl<|c7 D7 ⟨sz (by rw[Iz];omega),?_⟩⟩;refine jy (x:=λc:Int×Int=>.int c.1) (y:=λc:Int×Int=>.int c.2) (f:=λc:Int×Int=>pr (c.2,p.2)) p.1 _ _ (λc hc F Q q=>?_) ?_
  .exact A7.2<|w9c rfl<|w9c rfl<|f9.2 ⟨n8 rfl,q⟩
  .have:=je (l:=l.take i) λq hq=>(h.ok q<|List.mem_of_mem_take hq).1
   rw[MU]at this;have e:wkL (l.take<|i+1)=wkL (l.take i)++(p.1.map λc=>(c.2,p.2)):=by unfold wkL;rw[MK,hp,Mt,Kt,List.flatten_append];simp
   have e2:(wkL<|l.take<|i+1).map pr=(wkL<|l.take i).map pr++p.1.map λc:Int×Int=>pr (c.2,p.2):=by rw[e,Kt,Jn];rfl
   exact⟨_,rfl,by rw[Iz,Iz];omega,_,rfl,rfl,_,_,by rw[e2];rfl⟩
 .rintro E F1 ⟨rfl,o2,o3,rfl⟩;rw[Jv,Iz,Kz];exact h9<|B5.2<|K1.2<|cT rfl<|v5 q
def qS {b:Bt}(hb:b.length<=1000)(q:Q (.int<|J0 b) F):wp (V0 [.dat<|.tuple [.tuple<|b.map cmD]] F) Q:=by
 unfold V0;walk_at "kb";refine B5.2<|G3.2<|d4.2 ?_;unfold lX;rw[c8];refine v6.2<|w9w rfl<|c7 D7 ?_;dsimp only;rw[c8];refine iD (x:=λb:Bt=>btD b) (it:=λb:Bt=>b) (y:=cmD) (g:=λ_ c=>.int c.2) (Sh:=λE=>∃o0 o1 o2,E=[o0,o1,o2]) (λb E=>∃o1 o2,E=[some<|.dat<|btD b,o1,o2]) [b] _ F _ ⟨_,_,_,rfl⟩ ?_ ?_ ?_ ?_
 .rintro a _ E ⟨o0,o1,o2,rfl⟩;exact⟨_,rfl,⟨_,_,rfl⟩,λF Q q=>v6.2<|w9g rfl<|c7 D7 q⟩
 .rintro a _ c _ E ⟨o1,o2,rfl⟩;exact⟨_,rfl,⟨_,_,rfl⟩,λF Q q=>w9g rfl q⟩
 .rintro a E ⟨o1,o2,rfl⟩;exact⟨_,_,_,rfl⟩
 .dsimp only;have e:([b].map λb:Bt=>b.map λc:Int×Int=>My.int c.2).flatten=(b.map λc=>c.2).map .int:=by simp
  rw[e,IE<|sz (by rw[Iz,Iz];omega)];exact d6.2<|f9.2<|c7 cH<|v5 q
end
end
section
def gwL (l:List Bw):Int:=if (wkL l).map (·.1)=[] then 0 else K9 ((wkL l).map (·.1))
def uK {l:List Bw}{z:Int×Int}(h:z∈wkL l):z.1<=gwL l:=by have hm:z.1∈(wkL l).map (·.1):=Jm.2 ⟨z,h,rfl⟩;unfold gwL;rw[II<|List.ne_nil_of_mem hm];exact V7 hm
def BP {l:List Bw}(h:Be l):0<=gwL l/\gwL l<=6:=by
 unfold gwL;split
 .omega
 .rename_i hne;obtain⟨z,hz,e⟩:=Jm.1<|Q7 hne;have:=(h.wk z hz).1;rw[<-e];omega
def yI {ns:List Int}:ff [.list<|ns.map .int,.int 0]=some (.int<|if ns=[] then 0 else K9 ns):=by unfold ff;dsimp only;rw[bE,Jd];split <;> rfl
def sv {ns:List Int}(h:ns≠[]):lq [.list<|ns.map .int]=some (.int<|K9 ns):=by unfold lq;dsimp only;rw[bE,Jd,II h]
section
variable {F:FdS}{Q:My->FdS->Prop}{l:List Bw}
def wa (h:Be l)(q:Q (.int<|gwL l) F):wp (C8 [.dat<|bsD l] F) Q:=by
 have hl:=h.len;unfold C8;walk_at "kb";refine B5.2<|G3.2<|d4.2 ?_;unfold lX;rw[c8];refine v6.2<|w9w rfl<|c7 D7 ?_;dsimp only;rw[c8];refine iD (x:=λp:Bw=>kwD cmD p) (it:=λp:Bw=>p.1) (y:=cmD) (g:=λ_ c=>.int c.2) (Sh:=λE=>∃o0 o1 o2 o3,E=[o0,o1,o2,o3]) (λp E=>∃o2 o3,E=[some<|.dat<|rwD cmD p.1,some<|.dat<|.int p.2,o2,o3]) l _ F _ ⟨_,_,_,_,rfl⟩ ?_ ?_ ?_ ?_
 .rintro a _ E ⟨o0,o1,o2,o3,rfl⟩;exact⟨_,rfl,⟨_,_,rfl⟩,λF Q q=>v6.2<|w9g rfl<|c7 D7 q⟩
 .rintro a _ c _ E ⟨o1,o2,rfl⟩;exact⟨_,rfl,⟨_,_,rfl⟩,λF Q q=>w9g rfl q⟩
 .rintro a E ⟨o1,o2,rfl⟩;exact⟨_,_,_,_,rfl⟩
 .dsimp only;have e:(l.map λp:Bw=>p.1.map λc:Int×Int=>My.int c.2).flatten=((wkL l).map (·.1)).map .int:=by
   unfold wkL;rw[List.map_flatten,List.map_flatten,Jn,Jn];congr 1;refine Lz λp _=>?_
   simp
  rw[e,IE<|sz (by rw[Iz,Iz];omega)];exact d6.2<|d4.2<|g8.2<|f9.2<|c7 yI<|v5 q
end
def bS (l:List Bw)(k:Int):Int:=(l.map λp=>if J0 p.1=k then p.2 else 0).sum
theorem dE {k:Int}:∀{l:List Bw},(∀p∈l,1<=p.2)->(0<=bS l k/\bS l k<=u7 l)/\(bS l k=u7 l↔∀p∈l,J0 p.1=k)/\∀p∈l,J0 p.1=k->1<=bS l k
 | [],_=>by simp[bS,u7]
 | p::l,h=>by
  obtain⟨h1,h2,h3⟩:=dE (k:=k) (l:=l) λq hq=>h q<|IA _ hq
  have hp:=h p IG;have e1:bS (p::l) k=(if J0 p.1=k then p.2 else 0)+bS l k:=by unfold bS;rw[IJ,JZ]
  have e2:u7 (p::l)=p.2+u7 l:=by unfold u7;rw[IJ,JZ]
  rw[e1,e2];by_cases z:J0 p.1=k
  .rw[IE z];refine⟨by omega,⟨λe q hq=>?_,λe=>?_⟩,λq hq e=>by omega⟩
   .rcases IP.1 hq with rfl | hq
    .exact z
    .exact h2.1 (by omega) q hq
   .have:=h2.2 λq hq=>e q<|IA _ hq
    omega
  .rw[II z];refine⟨by omega,⟨λe=>?_,λe=>absurd (e p IG) z⟩,λq hq e=>?_⟩
   .omega
   .rcases IP.1 hq with rfl | hq
    .exact absurd e z
    .have:=h3 q hq e;omega
theorem kH:∀(zs:List Int) (k j:Nat) (a c:Int),zs[k]? = some a->O2 (en j<|zs.set k<|a+c)=O2 (en j zs)+((j+k:Nat):Int)*c
 | [],k,j,a,c,h=>by simp at h
 | z::zs,0,j,a,c,h=>by
  simp at h;subst h;rw[Mp,en,en];unfold O2;simp only[IJ,JZ];rw[Oc,show((j+0:Nat):Int)=(j:Int) from rfl];omega
 | z::zs,k+1,j,a,c,h=>by have ih:=kH zs k (j+1) a c (by simpa using h);rw[Mq,en,en];unfold O2 at ih ⊢;simp only[IJ,JZ];rw[ih,show j+1+k=j+(k+1) by omega];omega
def qc (n:Nat):∀j:Nat,O2 (en j<|List.replicate n 0)=0:=by
 induction n with
 | zero=>intro j;rfl
 | succ n ih =>intro j;have:=ih<|j+1;rw[JE,en];unfold O2 at this ⊢;rw[IJ,JZ,this];simp
def Au {zs:List Int}{k:Nat}{a c:Int}(h:zs[k]? = some a)(i:Nat):(zs.set k<|a+c).getD i 0=zs.getD i 0+(if k=i then c else 0):=by
 rw[Jb,Jb,List.getElem?_set];have hk:=(IH.1 h).1;by_cases e:k=i
 .subst e;rw[IE rfl,IE hk,IE rfl,h];rfl
 .rw[II e,II e,Int.add_zero]
def uH {zs:List Int}{k:Nat}{a c:Int}(h:zs[k]? = some a):(zs.set k<|a+c).sum=zs.sum+c:=by have:=nC (B:=1) zs k a c h;rw[dG,dG,Int.one_pow,Nt]at this;exact this
section
variable {F:FdS}{Q:My->FdS->Prop}{l:List Bw}
def kZ {f:Bw->Int}{i:Nat}{p:Bw}(h:l[i]? = some p):((l.take<|i+1).map f).sum=((l.take i).map f).sum+f p:=by rw[MK,h,Mt,Kt,NY];simp
def yu (h:Be l)(q:∀xs L N,Fl xs L N (u7 l)->L<=13->O2 (en 0 xs)=D8 l->(∀k:Nat,xs.getD k 0=bS l k)->Q (fT xs) F):wp (U5 [.dat<|bsD l] F) Q:=by
 have hn1:=h.n1;have hn:=h.n2;have hsb:=h.sb;have htot:=h.tot;obtain⟨bs,ebs⟩:∃bs:List (Int×Int),bs=l.map λp=>(J0 p.1,p.2):=⟨_,rfl⟩
 have hm1:bs.map (·.1)≠[]:=by rw[ebs];cases l with
  | nil=>simp at hn1
  | cons p l=>simp
 obtain⟨pm,hpm,epm⟩:∃p∈l,K9 (bs.map (·.1))=J0 p.1:=by have:=Q7 hm1;rw[ebs,Jn]at this;obtain⟨p,hp,e⟩:=Jm.1 this;exact⟨p,hp,by rw[ebs,Jn];exact e.symm⟩
 have hmx:∀p∈l,J0 p.1<=K9 (bs.map (·.1)):=λp hp=>V7 (by rw[ebs,Jn];exact Jm.2 ⟨p,hp,rfl⟩)
 obtain⟨m,em⟩:∃m:Nat,K9 (bs.map (·.1))=(m:Int):=⟨(K9<|bs.map (·.1)).toNat,by have:=hsb pm hpm;omega⟩;have hm12:m<=12:=by have:=hsb pm hpm;omega
 unfold U5;walk_at "kb";refine w9q (G7.2<|v6.2<|w9w rfl<|c7 D7 ⟨sz (by rw[Iz];omega),?_⟩);refine jy (x:=λp:Bw=>rwD cmD p.1) (y:=λp:Bw=>.int p.2) (f:=λp:Bw=>pr (J0 p.1,p.2)) l _ _ (λp hp F Q q=>?_) ?_
 .refine A7.2<|d4.2<|w9l<|A7.2<|w9c rfl<|f9.2 ⟨n8 rfl,j5.2 ?_⟩;exact qS (by have:=(h.ok p hp).1;omega)<|w9c rfl<|f9.2 ⟨n8 rfl,q⟩
 have eb:(l.map λp:Bw=>pr (J0 p.1,p.2))=bs.map pr:=by rw[ebs,Jn];rfl
 have ebl:bs.length=l.length:=by rw[ebs,Iz]
 rw[eb];refine⟨h7 rfl,h9 (y9.2<|eK.2<|BL<|g8.2<|j8.2<|G3.2<|d4.2<|G7.2<|v6.2<|w9w rfl<|c7 M3 ⟨sz (by rw[Iz];omega),?_⟩) ⟩;refine V6 (f:=λp=>.int p.1) bs none none F (λp hp F Q q=>w9g rfl q) ?_;have eb2:(bs.map λp=>My.int p.1)=(bs.map (·.1)).map .int:=by rw[Jn];rfl
 rw[eb2];refine f9.2 (c7 (sv hm1)<|g8.2<|c7 C7 ⟨[.int 0],_,rfl,rfl,by omega,by omega,?_,h7 rfl,h9 ?_⟩)
 .rw[em];show 1*((m:Int)+1).toNat<=_;omega
 have e0:(List.replicate (K9 (bs.map (·.1))+1).toNat [My.int 0]).flatten=(List.replicate (m+1) (0:Int)).map .int:=by
  rw[em,show((m:Int)+1).toNat=m+1 by omega];generalize m+1=k;induction k with
  | zero=>rfl
  | succ k ih=>rw[JE,Kr,ih,JE];rfl
 rw[e0];refine y9.2<|L6.2<|v6.2<|w9g rfl<|c7 M3 ?_;refine E9 (λi E F'=>F'=F/\∃(zs:List Int) (o3 o4:Option DV),E=[some<|.dat<|bsD l,some<|.dat<|.list<|bs.map pr,some<|.own<|zs.map .int,o3,o4]/\zs.length=m+1/\zs.sum=u7 (l.take i)/\O2 (en 0 zs)=D8 (l.take i)/\∀k:Nat,zs.getD k 0=bS (l.take i) k) _ 0 _ F
  ⟨rfl,List.replicate (m+1) 0,none,none,rfl,KI,?_,qc _ _,λk=>?_⟩ ?_ ?_
 .have:=kI (B:=1)<|m+1;rw[dG]at this;rw[this];rfl
 .show _=(0:Int);rw[Jb,JO];split <;> rfl
 .rintro i d hd E F1 ⟨rfl,zs,o3,o4,rfl,zl,zsum,zw,zk⟩;rw[Jv] at *;rw[IU,ebs,IU]at hd;cases hp:l[i]? with
  | none=>rw[hp]at hd;cases hd
  | some p =>
   rw[hp]at hd;cases hd;have hpl:=Ju hp;have hx:=hmx p hpl;have hy:=hsb p hpl;obtain⟨j,ej⟩:∃j:Nat,J0 p.1=(j:Int):=⟨(J0 p.1).toNat,by omega⟩;have hj:j<zs.length:=by omega
   have ea:=IM hj;refine⟨[some<|.dat<|bsD l,some<|.dat<|.list<|bs.map pr,some<|.own<|zs.map .int,some<|.dat<|.int<|J0 p.1,some<|.dat<|.int p.2],rfl,wQ (ns:=zs) rfl<|w9g rfl ⟨_,j,zs[j],rfl,?_,ea,w9g rfl ⟨_,rfl,_,rfl,rfl,zs.set j<|zs[j]+p.2,_,_,rfl,?_,?_,?_,λk=>?_⟩⟩⟩
   .rw[ej,xX (by omega) (by omega),Jx]
   .rw[JH,zl]
   .rw[uH ea,zsum];exact(kZ hp).symm
   .rw[kH zs j 0 _ _ ea,zw,Jv,<-ej];exact(kZ (f:=λp:Bw=>J0 p.1*p.2) hp).symm
   .rw[Au ea,zk];have:=kZ (f:=λp:Bw=>if J0 p.1=(k:Int) then p.2 else 0) hp;show _=((l.take<|i+1).map λp:Bw=>if J0 p.1=(k:Int) then p.2 else 0).sum;rw[this,ej];congr 1;by_cases z:j=k
    .rw[IE z,IE<|by omega]
    .rw[II z,II<|by omega]
 .rintro E F1 ⟨rfl,zs,o3,o4,rfl,zl,zsum,zw,zk⟩;rw[Jv,Iz,ebl,Kz] at *;refine h9<|B5.2<|G3.2<|d4.2<|K1.2<|cT rfl<|f9.2<|c7 aJ<|v5 ?_;have lots:∀p∈l,1<=p.2:=λp hp=>(h.ok p hp).2.2.1
  have nn:∀x∈zs,0<=x:=λx hx=>by obtain⟨k,hk,e⟩:=List.mem_iff_getElem.1 hx;have:=zk k;rw[Jb,IM hk,Option.getD_some,e]at this;rw[this];exact(dE lots).1.1
  have hb:=md;refine q zs (m+1) (val bB zs) ⟨zl,by omega,nn,rfl,zsum,?_,htot.1,by omega⟩ (by omega) zw zk;have last:1<=zs.getD m 0:=by rw[zk m];exact(dE lots).2.2 pm hpm (by omega)
  have e1:zs=zs.take m++[zs.getD m 0]:=by
   have hml:m<zs.length:=by omega
   rw[Jb,IM hml];conv=>lhs;rw[<-Kz (l:=zs),zl,List.take_succ_eq_append_getElem hml]
   rfl
  rw[e1,eB,Nat.add_sub_cancel,MU,zl,show min m (m+1)=m by omega];have v0:0<=val bB (zs.take m):=by
   have key:∀xs:List Int,(∀x∈xs,0<=x)->0<=val bB xs:=λxs=>by
    induction xs with
    | nil=>intro _;exact LL _
    | cons x xs ih =>intro hx;have:=KL (show 0<=bB by omega) (ih λy hy=>hx y<|IA _ hy);have:=hx x IG;rw[val];omega
   exact key _ λx hx=>nn x<|List.mem_of_mem_take hx
  simp only[val];have p:(0:Int)<=bB ^ m:=Int.le_of_lt (Int.pow_pos<|by omega);have:=Int.mul_le_mul_of_nonneg_left last p;rw[Int.mul_zero,Int.add_zero];omega
def wdL (l:List Bw)(h:Nat):Str:=if D8 l<(h:Int)*u7 l then "rests" else if (h:Int)*u7 l<D8 l then "runs" else if bS l h=u7 l then "still" else "swings"
def BB {xs:List Int}{hh:Nat}(e1:O2 (en 0 xs)=D8 l)(e2:∀k:Nat,xs.getD k 0=bS l k):ans xs hh (u7 l)=wdL l hh:=by unfold ans wdL;rw[e1,e2]
end
end
section
section
variable {F:FdS}{Q:My->FdS->Prop}{l:List Bw}
def sm5 {n:Nat}(h:n<=100000):n<R1:=p4 (Jj h<|IQ (show 100000<2 ^ 20 by decide)<|Jq (by decide)<|by decide)
def zD {ds:List My}(h:SeqAt.shaped (.list ds)=true):eqD false (.list ds) (.list [])=some (.bool<|decide (ds.length=0)):=by
 rw[eqL h<|by decide];congr 2;cases ds with
 | nil=>rfl
 | cons d ds=>simp[My.eqv,My.eqvAll]
def qD (h:Be l):0<=D8 l/\D8 l<=576:=by
 have:=ie (l:=l) (f:=λp:Bw=>J0 p.1*p.2) (a:=0) (b:=144) λp hp=>by have h1:=h.sb p hp;obtain⟨_,_,h2,h3⟩:=h.ok p hp;have e1:=Int.mul_le_mul h1.2 h3 (by omega) (by omega);have e2:=KL h1.1 (show 0<=p.2 by omega);omega
 have:=h.n2;unfold D8;omega
def tO {o:My}{E:DE}(hE:E[0]? = some (some<|.dat<|bsD l))(hl:l.length<=100)(q:Q (.int<|u7 l) F):wp (sN Q9 (d5 (sLC (C9<|sW 0) 2 [] (D6 2<|i9 (bN 0)<|i9 (bN 1) E7) C6<|sV 1) j9) E F) Q:=by
 refine G3.2 (d4.2<|G7.2<|v6.2<|K1.2<|R0 hE<|c7 D7 ⟨sz (by rw[Iz];omega),?_⟩);refine jy (x:=λp:Bw=>rwD cmD p.1) (y:=λp:Bw=>.int p.2) (f:=λp:Bw=>.int p.2) l _ _ (λp hp F Q q=>w9g rfl q) ?_;have e:(l.map λp:Bw=>My.int p.2)=(l.map λp=>p.2).map .int:=by rw[Jn];rfl
 rw[e];exact f9.2<|c7 cH q
def neB (h:Nat):My->Bool
 | .int i=>!decide (i=(h:Int))
 | _=>false
def xm {h:Nat}(H:Be l)(h3:h<=3)(q:Q (.str<|wdL l h) F):wp (J9 [.dat<|bsD l,.dat<|.int (h:Nat)] F) Q:=by
 have hn:=H.n2;have ht:=H.tot;have hw:=qD H;unfold J9;walk_at "kb";refine w9q (tO (o:=.none) rfl (by omega) ⟨h7 rfl,h9 ?_⟩);refine w9q (G3.2<|d4.2<|G7.2<|v6.2<|j6.2<|w9v rfl<|j5.2<|dC H<|c7 M3 ⟨sz (by have:=H.len;rw[Iz];omega),?_⟩);refine V6 (f:=λp=>.int<|p.1*p.2) (wkL l) none none F (λp hp F Q q=>?_) ?_
 .have:=H.wk p hp;exact w9s rfl (w9w rfl<|c7 (W5 (sm5<|by omega)<|sm5<|by omega) q)
 have e1:((wkL l).map λp=>My.int<|p.1*p.2)=((wkL l).map λp=>p.1*p.2).map .int:=by rw[Jn];rfl
 rw[e1];refine f9.2<|c7 cH ⟨h7 rfl,h9 ?_⟩;have e2:((wkL l).map λp=>p.1*p.2).sum=D8 l:=nr l;rw[e2];have hm:m5 (.int (h:Nat)) (.int<|u7 l)=some (.int<|(h:Int)*u7 l):=W5 (sm5<|by omega) (sm5<|by omega);have ea:wdL l h=if D8 l<(h:Int)*u7 l then("rests":Str) else if (h:Int)*u7 l<D8 l then("runs":Str) else if bS l h=u7 l then("still":Str) else("swings":Str):=rfl;refine w9i<|K7.2<|w9s rfl<|w9s rfl<|w9w rfl<|c7 hm<|c7 wA<|c7 rfl ?_;refine S4 (λe=>?_) (λe=>?_)
 .simp only[Bool.not_eq_true',decide_eq_false_iff_not]at e;refine B5.2 (ua.2<|K7.2<|w9s rfl<|w9s rfl<|w9w rfl<|c7 hm<|c7 oz<|c7 rfl<|S4 (λe3=>?_)<|λe3=>?_)
  .rw[IE<|Jg e3]at ea;rw[ea]at q;exact g8.2<|dW<|v5 q
  .have e3:=JQ e3;rw[II e3,IE<|by omega]at ea;rw[ea]at q;exact g8.2<|dW<|v5 q
 .simp only[Bool.not_eq_false',Lo]at e;rw[II (by omega),II<|by omega]at ea;refine L5.2 (h9<|w9q<|G7.2<|v6.2<|w9w rfl<|c7 D7 ⟨sz (by rw[Iz];omega),?_⟩);refine jy (x:=λp:Bw=>rwD cmD p.1) (y:=λp:Bw=>.int p.2) (f:=λp:Bw=>.int<|J0 p.1) l _ _ (λp hp F Q q=>?_) ?_
  .refine G3.2 (d4.2<|G7.2<|v6.2<|w9w rfl<|c7 D7 ⟨sz (by have:=(H.ok p hp).1;rw[Iz];omega),?_⟩);refine jy (x:=λc:Int×Int=>.int c.1) (y:=λc:Int×Int=>.int c.2) (f:=λc:Int×Int=>.int c.2) p.1 _ _ (λp hp F Q q=>w9g rfl q) ?_;have e9:(p.1.map λc:Int×Int=>My.int c.2)=(p.1.map λc=>c.2).map .int:=by rw[Jn];rfl
   rw[e9];exact f9.2<|c7 cH q
  refine⟨h7 rfl,h9 ?_⟩;refine B5.2 (ua.2<|K7.2<|j8.2<|G7.2<|v6.2<|w9w rfl<|c7 M3 ⟨sz (by rw[Iz];omega),?_⟩);refine lN (g:=neB h) (f:=λd=>d) _ _ (λd hd F Q q=>?_) (λd hd _ F Q q=>w9g rfl q)<|g8.2 ?_
  .obtain⟨p,hp,rfl⟩:=Jm.1 hd;exact K7.2<|w9s rfl<|w9w rfl<|c7 wA<|c7 rfl q
  rw[List.map_id''<|λ_=>rfl];have gd:SeqAt.shaped (.list<|(l.map λp:Bw=>My.int<|J0 p.1).filter<|neB h)=true:=by refine Gd.shaped (n:=0) (N:=1+df ((l.map λp:Bw=>My.int<|J0 p.1).filter<|neB h)) (k:=1) (Gd.lst (M:=1) (λd hd=>?_)<|IT _) (by decide) (by decide);obtain⟨p,hp,rfl⟩:=Jm.1 (KM.1 hd).1;have:=H.sb p hp;exact iH (cJ<|by omega)
  have ek:((l.map λp:Bw=>My.int<|J0 p.1).filter<|neB h).length=0↔bS l h=u7 l:=by
   rw[(dE (k:=(h:Int)) λp hp=>(H.ok p hp).2.2.1).2.1,KU,List.filter_eq_nil_iff];constructor
   .intro hz p hp;have:=hz _<|Jm.2 ⟨p,hp,rfl⟩;simpa [neB] using this
   .intro hz d hd;obtain⟨p,hp,rfl⟩:=Jm.1 hd;simp[neB,hz p hp]
  refine c7 (zD gd) (c7 rfl<|S4 (λe3=>?_)<|λe3=>?_)
  .rw[IE<|ek.1<|Jg e3]at ea;rw[ea]at q;exact g8.2<|v5 q
  .rw[II λz=>(JQ e3)<|ek.2 z]at ea;rw[ea]at q;exact g8.2<|v5 q
end
def iu (p:Rat):(p.num:Rat)=p*(p.den:Rat):=by
 have sf:=Mx p;rw[La]at sf;have hd0:(p.den:Rat)≠0:=by exact_mod_cast p.den_nz
 have tt:=Lh (a:=(p.num:Rat)) hd0;rw[sf]at tt;exact tt.symm
def ky {t:Int}{n:Nat}{p:Rat}(hn:0<n)(h:(t:Rat)=p*(n:Rat)):mkRat t n=p:=by
 have hd0:(n:Rat)≠0:=by exact_mod_cast (by omega:n≠0)
 rw[La,h,Od,Rat.mul_assoc,Mu _ hd0,Rat.mul_one]
def hX {a:Int}{d:Nat}(hd:0<d):(mkRat a d).den<=d/\(mkRat a d).num.natAbs<=a.natAbs:=by
 have lo:=dA (i:=a) (j:=(d:Int)) (by omega);have e:=ip lo (by omega);rw[Jx]at e;unfold qd at e;injection e with e
 injection e with e1 e2
 injection e2 with e2 _
 injection e1 with e1
 injection e2 with e2
 have h1:=lo.lt;have h2:=lo.lb;rw[e1]at h1;rw[e2]at h2;omega
def U1 {a:Int}{d:Nat}(hd:0<d):(a:Rat)=mkRat a d*(d:Rat):=by
 have hd0:(d:Rat)≠0:=by exact_mod_cast (by omega:d≠0)
 rw[La,Lh hd0]
def xw {p:Rat}(h:p<=0):p.num<=0:=by have:=(Rat.le_iff p 0).1 h;simpa using this
def nD {p:Rat}(h:0<p):0<p.num:=by have:=(Rat.lt_iff 0 p).1 h;simpa using this
structure Hh (h:Rat):Prop where
 den:h.den<=4
 num:h.num.natAbs<=200
def Hh.bd {h:Rat}(H:Hh h):Bd 8 h.num/\Bd 2 ((h.den:Nat):Int):=by have:=H.den;have:=H.num;unfold Bd;exact⟨IV this (by decide),by rw[Js];show _<=4;omega⟩
def ht (hs:List Rat)(k:Nat):Rat:=hs.getD k 0
def ah (hs:List Rat)(k:Nat):Rat:=(0::hs).getD k 0
def sp (hs:List Rat)(k:Nat):Rat:=ht hs k-ah hs k
def aq (hs:List Rat)(k:Nat):ah hs (k+1)=ht hs k:=rfl
def jv (hs:List Rat):ah hs 0=0:=rfl
def sS {hs:List Rat}{k:Nat}{h:Rat}(e:hs[k]? = some h):h=ht hs k:=by unfold ht;rw[Jb,e];rfl
def fD {hs:List Rat}{k:Nat}(h:k<hs.length):hs[k]? = some (ht hs k):=by rw[IM h];unfold ht;rw[Jb,IM h];rfl
theorem xZ {hs:List Rat}{m:Rat}{n:Nat}(h:∀k,k<n->m<=sp hs k):∀k,k<n->((k+1:Nat):Rat)*m<=ht hs k
 | 0,hk=>by
  have:=h 0 hk;unfold sp at this;rw[jv]at this;have e:((0+1:Nat):Rat)*m=m:=by rw[show((0+1:Nat):Rat)=1 from rfl,Rat.one_mul]
  grind
 | k+1,hk=>by
  have ih:=xZ h k (by omega);have:=h (k+1) hk;unfold sp at this;rw[aq]at this;have e:((k+1+1:Nat):Rat)=((k+1:Nat):Rat)+1:=by push_cast;rfl
  rw[e];grind
def SH (hs:List Rat)(ws:List (Int×Int)):Rat:=cZ (ws.map λz=>(z.2:Rat)*ht hs (z.1-1).toNat)
def iB {hs:List Rat}{ws:List (Int×Int)}{i:Nat}{z:Int×Int}(h:ws[i]? = some z):SH hs (ws.take<|i+1)=SH hs (ws.take i)+(z.2:Rat)*ht hs (z.1-1).toNat:=by unfold SH;rw[List.map_take,List.map_take,ag (by rw[IU,h];rfl)]
def ou {ws:List (Int×Int)}{i:Nat}{z:Int×Int}(h:ws[i]? = some z):O2 (ws.take<|i+1)=O2 (ws.take i)+z.1*z.2:=by unfold O2;rw[MK,h,Mt,Kt,NY];simp
theorem yj {hs:List Rat}{ws:List (Int×Int)}{m:Rat}(hw:∀z∈ws,(1<=z.1/\z.1<=hs.length)/\1<=z.2)(h:∀k,k<hs.length->m<=sp hs k):∀i,i<=ws.length->m*((O2 (ws.take i):Int):Rat)<=SH hs (ws.take i)
 | 0,_=>by
  show m*((0:Int):Rat)<=0;simp
 | i+1,hi=>by
  have ih:=yj hw h i (by omega);have e:=IM (show i<ws.length by omega);have hz:=hw _ (JU<|show i<ws.length by omega);generalize ws[i]=z at e hz;rw[iB e,ou e];have g:=xZ h (z.1-1).toNat (by omega);have e1:(((z.1-1).toNat+1:Nat):Rat)=((z.1:Int):Rat):=by
   have:(((z.1-1).toNat+1:Nat):Int)=z.1:=by omega
   rw[<-LA,this]
  rw[e1]at g;have z2:(0:Rat)<=(z.2:Rat):=by exact_mod_cast (by omega:(0:Int)<=z.2)
  have g2:=Np g z2;push_cast;grind
end
section
def p90 {n k:Nat}(h:n<=2 ^ k)(hk:k<9000):n<2 ^ 9000:=Jj h (Mb (by decide) hk)
def AI {i:Nat}{m:DE->M Out}{E:DE}{F:FdS}{ds:List My}{Q:Out->FdS->Prop}(he:az E i=some ds)(q:wp (m (E.set i<|some<|.dat<|.list ds) F) Q):wp (sY i m E F) Q:=by unfold sY;rw[he,Jd];exact q
abbrev hsD (hs:List Rat):My:=.tuple<|hs.map qd
section
variable {F:FdS}{Q:My->FdS->Prop}{l:List Bw}{hs:List Rat}
def sr (a b:Rat):mkRat (a.num*((b.den:Nat):Int)-b.num*((a.den:Nat):Int)) (a.den*b.den)=a-b:=by rw[Rat.sub_def,LM]
def Hh.zero:Hh 0:=⟨by decide,by decide⟩
def Cu {a b:Rat}(ha:Hh a)(hb:Hh b):(a-b).den<=16/\(a-b).num.natAbs<=1600:=by
 have h:=hX (a:=a.num*((b.den:Nat):Int)-b.num*((a.den:Nat):Int)) (d:=a.den*b.den)<|KA a.den_pos b.den_pos;rw[sr]at h;have h1:a.den*b.den<=4*4:=Kq ha.den hb.den;have h2:(a.num*((b.den:Nat):Int)).natAbs<=200*4:=by rw[Mz];exact Kq ha.num hb.den
 have h3:(b.num*((a.den:Nat):Int)).natAbs<=200*4:=by rw[Mz];exact Kq hb.num ha.den
 omega
def rM (hh:∀h∈hs,Hh h){k:Nat}(hk:k<=hs.length):Hh (ah hs k):=by
 cases k with
 | zero=>exact Hh.zero
 | succ k =>rw[aq];exact hh _ (Ju<|fD<|by omega)
def gz (hh:∀h∈hs,Hh h){k:Nat}(hk:k<hs.length):Hh (ht hs k):=hh _<|Ju<|fD hk
def oJ {h:Nat}(H:Be l)(h3:h<=3)(hn1:1<=hs.length)(hn:hs.length<=1000)(hh:∀z∈hs,Hh z)(hw:∀z∈wkL l,z.1<=hs.length)
  (q:∀m:Rat,(∃k,k<hs.length/\m=sp hs k)->(∀k,k<hs.length->m<=sp hs k)->Q (qd<|(h:Rat)*m-SH hs (wkL l) / ((u7 l:Int):Rat)) F) :
  wp (B4 [.dat<|bsD l,.dat<|.int (h:Nat),.dat<|hsD hs] F) Q:=by
 have hl:=H.len;have htt:=H.tot;have bm:∀{a b:Int} {j k:Nat},Bd j a->Bd k b->j<1000->k<1000->m5 (.int a) (.int b)=some (.int<|a*b):=λh1 h2 h3 h4=>W5 (h1.big<|by omega) (h2.big<|by omega)
 unfold B4;walk_at "kb";refine y9.2<|eK.2<|fN.2<|f9.2 ⟨n8 rfl,h7 rfl,h9 ?_⟩;refine w9q<|g8.2 ⟨h7 rfl,h9 ?_⟩;refine y9.2<|L6.2<|v6.2<|w9g rfl<|c7 D7 ?_;refine E9 (λi E F'=>F'=F/\∃o5:Option DV,E=[some<|.dat<|bsD l,some<|.dat<|.int (h:Nat),some<|.dat<|hsD hs,some<|.own<|(List.range i).map λk=>qd<|sp hs k,some<|.dat<|qd<|ah hs i,o5,none,none,none,none,none]) _ 0 _ F ⟨rfl,none,rfl⟩ ?_ ?_
 .rintro i d hd E F1 ⟨rfl,o5,rfl⟩;rw[Jv] at *;rw[IU]at hd;obtain⟨p,hp,rfl⟩:=Ja.1 hd;have hi:=(IH.1 hp).1;have ep:=sS hp;have h1:=gz hh hi;have h2:=rM (k:=i) hh (by omega);have b1:=h1.bd;have b2:=h2.bd;rw[ep];refine⟨_,rfl,y9.2<|rY rfl (by rw[Iz,JW];omega) ?_⟩;refine w9l (j8.2<|j8.2<|w9s rfl<|g8.2<|c7 ix0<|w9s rfl<|g8.2<|c7 ix1<|c7 (bm b1.1 b2.2 (by decide)<|by decide) ?_);refine j8.2 (w9s rfl<|g8.2<|c7 ix0<|w9s rfl<|g8.2<|c7 ix1<|c7 (bm b2.1 b1.2 (by decide)<|by decide)<|c7 W2 ?_);refine G4.2 (j8.2<|w9s rfl<|g8.2<|c7 ix1<|w9s rfl<|g8.2<|c7 ix1<|c7 (bm b1.2 b2.2 (by decide)<|by decide)<|j5.2 ?_);rw[<-Ln];have hden:(ht hs i).den*(ah hs i).den<=4*4:=Kq h1.den h2.den;refine Q2 (KA (ht hs i).den_pos (ah hs i).den_pos) (p90 (k:=4) (by omega)<|by decide)<|h9<|S9.2<|w9g rfl ⟨h7 rfl,?_⟩;rw[sr];exact⟨_,rfl,rfl,_,by rw[List.range_succ,Kt];rfl⟩
 rintro E F1 ⟨rfl,o5,rfl⟩;rw[Jv,Iz];obtain⟨n,en⟩:∃n,hs.length=n:=⟨_,rfl⟩;have ix:∀k,k<n->atI ((List.range n).map λk=>qd<|sp hs k) (k:Int)=some (qd<|sp hs k):=λk hk=>bO (by rw[IU,Kf hk];rfl)
 rw[en];have spb:∀k,k<n->(sp hs k).den<=16/\(sp hs k).num.natAbs<=1600:=λk hk=>Cu (gz hh<|by omega) (rM hh<|by omega)
 have spd:∀k,k<n->Bd 11 (sp hs k).num/\Bd 4 (((sp hs k).den:Nat):Int):=λk hk=>by have:=spb k hk;unfold Bd;rw[Js];exact⟨IV this.2 (by decide),this.1⟩
 refine h9 (w9q<|j8.2<|K1.2<|cT rfl<|g8.2<|c7 (ix 0<|by omega) ⟨h7 rfl,h9 ?_⟩);refine y9.2<|AI rfl<|L6.2<|v6.2<|w9g rfl<|c7 M3 ?_;refine E9 (λi E F'=>F'=F1/\∃(m:Rat) (o5:Option DV),(∃k,k<n/\m=sp hs k)/\(∀k,k<i->m<=sp hs k)/\E=[some<|.dat<|bsD l,some<|.dat<|.int (h:Nat),some<|.dat<|hsD hs,some<|.dat<|.list<|(List.range n).map λk=>qd<|sp hs k,some<|.dat<|qd<|ah hs n,o5,some<|.dat<|qd m,none,none,none,none]) _ 0 _ F1 ⟨rfl,sp hs 0,o5,⟨0,by omega,rfl⟩,λk hk=>absurd hk (by omega),rfl⟩ ?_ ?_
 .rintro i d hd E F2 ⟨rfl,m,o5,⟨k,hk,rfl⟩,hm,rfl⟩;rw[Jv] at *;have hi:i<n:=by have:=(IH.1 hd).1;simpa using this
  rw[IU,Kf hi]at hd;cases hd;have b1:=spd i hi;have b2:=spd k hk;refine⟨_,rfl,U9.2<|K7.2<|j8.2<|j8.2<|w9s rfl<|g8.2<|c7 ix0<|w9s rfl<|g8.2<|c7 ix1<|c7 (bm b1.1 b2.2 (by decide)<|by decide) ?_⟩;refine j8.2 (w9s rfl<|g8.2<|c7 ix0<|w9s rfl<|g8.2<|c7 ix1<|c7 (bm b2.1 b1.2 (by decide)<|by decide)<|c7 oz<|c7 rfl ?_);have cmp:=Rat.lt_iff (sp hs i)<|sp hs k;refine S4 (λe=>?_) (λe=>?_)
  .have lt:=cmp.2<|Jg e;refine S9.2 (w9g rfl ⟨h7 rfl,_,rfl,rfl,sp hs i,_,⟨i,hi,rfl⟩,λj hj=>?_,rfl⟩);rcases LO j i with z | z
   .exact Rat.le_trans (Mv lt)<|hm j z
   .rw[show j=i by omega];exact Rat.le_refl
  .have lt:¬sp hs i<sp hs k:=λz=>(JQ e)<|cmp.1 z
   refine L5.2 ⟨_,rfl,rfl,sp hs k,_,⟨k,hk,rfl⟩,λj hj=>?_,rfl⟩;rcases LO j i with z | z
   .exact hm j z
   .rw[show j=i by omega];exact MB.1 lt
 rintro E F2 ⟨rfl,m,o5',⟨k0,hk0,em⟩,hm,rfl⟩;rw[Jv,Iz,JW]at hm;have bmm:=spd k0 hk0;have mb:=spb k0 hk0;rw[<-em]at bmm mb;refine h9<|w9q<|g8.2 ⟨h7 rfl,h9<|w9q<|g8.2 ⟨h7 rfl,h9 ?_⟩⟩;refine y9.2<|L6.2<|v6.2<|j6.2<|w9v rfl<|j5.2<|dC H<|c7 M3 ?_;refine E9 (λi E F'=>F'=F2/\∃(t:Int) (b:Nat) (o5 o9 o10:Option DV),0<b/\(t:Rat)=SH hs ((wkL l).take i)*(b:Rat)/\Bd (20+4*i) t/\b<=2 ^ (2*i)/\E=[some<|.dat<|bsD l,some<|.dat<|.int (h:Nat),some<|.dat<|hsD hs,some<|.dat<|.list<|(List.range n).map λk=>qd<|sp hs k,some<|.dat<|qd<|ah hs n,o5,some<|.dat<|qd m,some<|.dat<|.int t,some<|.dat<|.int (b:Nat),o9,o10]) _ 0 _ F2 ⟨rfl,0,1,o5',none,none,by decide,?_,?_,by decide,rfl⟩ ?_ ?_
 .show((0:Int):Rat)=0*_;simp
 .unfold Bd;simp
 .rintro i d hd E F3 ⟨rfl,t,b,o5,o9,o10,hb,et,bt,bb,rfl⟩;rw[Jv] at *;rw[IU]at hd;obtain⟨z,hz,rfl⟩:=Ja.1 hd;have hi:=(IH.1 hz).1;have hzm:=Ju hz;have hz1:=H.wk z hzm;have hz2:=hw z hzm;obtain⟨j,ej⟩:∃j:Nat,z.1-1=(j:Int):=⟨(z.1-1).toNat,by omega⟩;have hj:j<hs.length:=by omega
  have hhj:=gz hh hj;have bj:=hhj.bd;have bbd:Bd (2*i) ((b:Nat):Int):=by unfold Bd;rw[Js];exact bb
  have bz:Bd 4 z.2:=by unfold Bd;show _<=16;omega
  have hix:ixD (hsD hs) (.int<|z.1-1)=some (qd<|ht hs j):=by rw[ej];exact bO (by rw[IU,fD hj];rfl)
  refine⟨[some<|.dat<|bsD l,some<|.dat<|.int (h:Nat),some<|.dat<|hsD hs,some<|.dat<|.list<|(List.range n).map λk=>qd<|sp hs k,some<|.dat<|qd<|ah hs n,o5,some<|.dat<|qd m,some<|.dat<|.int t,some<|.dat<|.int (b:Nat),some<|.dat<|.int z.1,some<|.dat<|.int z.2],rfl,w9q<|w9s rfl<|w9s rfl<|g8.2<|c7 W2<|c7 hix ⟨h7 rfl,h9 ?_⟩⟩;refine w9q (j8.2<|w9s rfl<|w9s rfl<|g8.2<|c7 ix1<|c7 (bm bt bj.2 (by omega)<|by decide) ?_);refine j8.2 (w9s rfl<|w9s rfl<|g8.2<|c7 ix0<|c7 (bm bz bj.1 (by decide)<|by decide)<|w9w rfl<|c7 (bm (bz.mul bj.1) bbd (by decide)<|by omega)<|c7 C7 ⟨h7 rfl,h9 ?_⟩);refine S9.2 (w9s rfl<|w9s rfl<|g8.2<|c7 ix1<|c7 (bm bbd bj.2 (by omega)<|by decide) ⟨h7 rfl,?_⟩);rw[<-Ln];refine⟨_,rfl,rfl,t*(((ht hs j).den:Nat):Int)+z.2*(ht hs j).num*(b:Int),b*(ht hs j).den,_,_,_,KA hb (ht hs j).den_pos,?_,?_,?_,rfl⟩
  .rw[iB hz,show(z.1-1).toNat=j by omega];push_cast;rw[et,iu];grind
  .exact((bt.mul bj.2).mono (k:=20+4*i+3)<|by omega).add (((bz.mul bj.1).mul bbd).mono<|by omega)
  .have:=Kq bb hhj.den;rw[show 2*(i+1)=2*i+2 by omega,MS];exact this
 rintro E F3 ⟨rfl,t,b,o5,o9,o10,hb,et,bt,bb,rfl⟩;rw[Jv,Iz] at *;rw[Kz]at et;generalize hlen:(wkL l).length=w at *;have bbd:Bd (2*w) ((b:Nat):Int):=by unfold Bd;rw[Js];exact bb
 have bT:Bd 6 (u7 l):=by unfold Bd;show _<=64;omega
 have bh:Bd 2 ((h:Nat):Int):=by unfold Bd;show _<=4;omega
 refine h9 (w9q<|w9s rfl<|tO (o:=.none) rfl (by have:=H.n2;omega)<|c7 (bm bbd bT (by omega)<|by decide) ⟨h7 rfl,h9 ?_⟩);have bB:=bbd.mul bT;refine B5.2 (w9l<|j8.2<|j8.2<|w9s rfl<|w9s rfl<|g8.2<|c7 ix0<|c7 (bm bh bmm.1 (by decide)<|by decide)<|w9w rfl<|c7 (bm (bh.mul bmm.1) bB (by decide)<|by omega) ?_);refine w9s rfl (w9s rfl<|g8.2<|c7 ix1<|c7 (bm bt bmm.2 (by omega)<|by decide)<|c7 W2 ?_);refine G4.2 (j8.2<|w9s rfl<|g8.2<|c7 ix1<|w9w rfl<|c7 (bm bmm.2 bB (by decide)<|by omega)<|j5.2 ?_);obtain⟨T,eT⟩:∃T:Nat,u7 l=(T:Int):=⟨(u7 l).toNat,by omega⟩;have hT:0<T:=by omega
 rw[eT,<-Ln,<-Ln];have bn:m.den*(b*T)<=2 ^ 30:=by have h1:b<=2 ^ 16:=IV bb (Jq (by decide)<|by omega);have h2:b*T<=2 ^ 16*64:=Kq h1 (by omega);exact IV (Kq mb.1 h2) (by decide)
 refine Q2 (KA m.den_pos<|KA hb hT) (p90 bn<|by decide)<|v5 ?_;have hT0:(T:Rat)≠0:=by exact_mod_cast (by omega:T≠0)
 have hTi:(T:Rat)*(T:Rat)⁻¹=1:=Mu _ hT0;have fe:=q m ⟨k0,by omega,em⟩ (λk hk=>hm k<|by omega);rw[eT]at fe;rw[ky (p:=(h:Rat)*m-SH hs (wkL l) / (((T:Int)):Rat)) (KA m.den_pos<|KA hb hT) ?_]
 .exact fe
 .push_cast;rw[iu,et,Od];grind
end
end
section
section
variable {F:FdS}{Q:My->FdS->Prop}{l:List Bw}{hs:List Rat}
def inN {ds:List My}{f:My->Bool}:inD false (.bool false) (.list<|ds.map λd=>.bool<|f d)=some (.bool (!ds.all f)):=by
 have hs:SeqAt.shaped (.list<|ds.map λd=>My.bool<|f d)=true:=by refine Gd.shaped (n:=0) (N:=1+df (ds.map λd=>My.bool<|f d)) (k:=1) (Gd.lst (M:=1) (λd hd=>?_)<|IT _) (by decide) (by decide);obtain⟨x,_,rfl⟩:=Jm.1 hd;exact vc
 show(if SeqAt.shaped (.list<|ds.map λd=>My.bool<|f d)=true/\SeqAt.shaped (.bool false)=true then _ else none)=_;rw[IE (show SeqAt.shaped (.list<|ds.map λd=>My.bool<|f d)=true/\SeqAt.shaped (.bool false)=true from⟨hs,by decide⟩),II<|show ¬(false=true) by decide];refine JX (λb=>some<|My.bool b) ?_;clear hs;induction ds with
 | nil=>rfl
 | cons d r ih =>rw[IJ,List.any_cons,List.all_cons,Bool.not_and,ih];cases f d <;> simp[My.eqv]
def oH {i:Int}{E:DE}(hE:E[0]? = some (some<|.dat<|.int i))(q:Q (.bool true) F):wp (pR (s1 (bM "int")<|sW 0) (uD<|s1 (bM "bool")<|sW 0) E F) Q:=by refine tY.2<|lh.2<|K1.2<|R0 hE<|c7 fE ?_;refine c7 rfl<|aS pA<|AH.2<|lh.2<|K1.2<|R0 hE<|c7 fE<|c7 rfl ?_;rw[show isT (tyD<|.int i) "bool" = false from lp];exact q
def uS {a b:Int}:eqD false (.tuple [.int a,.int b]) (.tuple [.int a,.int b])=some (.bool true):=by
 have h1:∀x y:Int,SeqAt.shaped (.tuple [.int x,.int y])=true:=λ_ _=>rfl
 unfold eqD;simp only[h1,and_self,Kl];simp[My.eqv,My.eqvAll]
def kj {p:Rat}(hb:p.den<2 ^ 9000)(q:Q (.bool true) F):wp (C5 [.dat<|qd p] F) Q:=by
 unfold C5;walk_at "kb";refine w9i<|dR.2<|Y4.2<|iy.2<|lh.2<|w9w rfl<|c7 fE<|c7 rfl ?_;rw[show isT (tyD<|qd p) "tuple" = true from T5];refine B8 rfl (K7.2<|j8.2<|G3.2<|d4.2<|w9w rfl<|f9.2<|c7 fw<|g8.2<|c7 wA<|c7 rfl<|B8 (by simp) ?_);refine L5.2 (h9<|w9i<|K7.2<|j8.2<|g8.2<|G7.2<|v6.2<|w9w rfl<|c7 D7 ⟨sz (by simp),?_⟩);refine lg (f:=λ_=>.bool true) [.int p.num,.int ((p.den:Nat):Int)] none (λd hd F Q q9=>?_) ?_
 .simp only[IP,Kc,LK]at hd;rcases hd with rfl | rfl
  .exact oH rfl q9
  .exact oH rfl q9
 refine c7 (inN (f:=λ_=>true)) (c7 rfl<|B8 (by simp)<|L5.2<|h9 ?_);have hd:=p.den_pos;refine B5.2 (tY.2<|j8.2<|w9s rfl<|g8.2<|c7 ix1<|g8.2<|c7 eP<|c7 rfl<|aS (Je<|by omega) ?_);refine j8.2<|w9l<|w9s rfl<|g8.2<|c7 ix0<|G4.2<|w9s rfl<|g8.2<|c7 ix1<|j5.2 ?_;refine Q2 hd hb<|w9w rfl ?_;rw[Mx];exact c7 uS<|v5 q
structure Up (hs:List Rat):Prop where
 n1:1<=hs.length
 n2:hs.length<=100
 hh:∀h∈hs,Hh h
 up:∀k,k<hs.length->0<sp hs k
def Hh.d9 {h:Rat}(H:Hh h):h.den<2 ^ 9000:=p90 (k:=2) H.den (by decide)
def CH {a b c:Int}:oK [.int a,.int b,.int c]=some (.int<|max a<|max b c):=rfl
def qT {h:Nat}{w:Int}{d:Rat}(H:Be l)(h3:h<=3)(U:Up hs)(hw:∀z∈wkL l,z.1<=hs.length)(hm0:0<=w)(hm:w<=hs.length)(hd:0<d)(hdn:d.den<=100000/\d.num.natAbs<=100000)
  (hsp:∀m:Rat,(∃k,k<hs.length/\m=sp hs k)->(∀k,k<hs.length->m<=sp hs k)->d<=(h:Rat)*m-SH hs (wkL l) / ((u7 l:Int):Rat)/\((h:Rat)*m-SH hs (wkL l) / ((u7 l:Int):Rat)).den<=100000/\((h:Rat)*m-SH hs (wkL l) / ((u7 l:Int):Rat)).num.natAbs<=100000)
  (q:Q (.bool true) F):wp (z9 [.dat<|bsD l,.dat<|.int (h:Nat),.dat<|.int w,.dat<|.tuple [qd d,hsD hs]] F) Q:=by
 have hn1:=U.n1;have hn2:=U.n2;have hl:=H.len;have bm:∀{a b:Int} {j k:Nat},Bd j a->Bd k b->j<1000->k<1000->m5 (.int a) (.int b)=some (.int<|a*b):=λh1 h2 h3 h4=>W5 (h1.big<|by omega) (h2.big<|by omega)
 unfold z9;walk_at "kb";refine w9i<|dR.2<|Y4.2<|iy.2<|lh.2<|w9w rfl<|c7 fE<|c7 rfl ?_;rw[show isT (tyD<|.tuple [qd d,hsD hs]) "tuple" = true from T5];refine B8 rfl (dR.2<|K7.2<|j8.2<|G3.2<|d4.2<|w9w rfl<|f9.2<|c7 fw<|g8.2<|c7 wA<|c7 rfl<|B8 (by simp) ?_);refine dR.2<|Y4.2<|iy.2<|w9l<|w9s rfl<|g8.2<|c7 rfl<|j5.2 ?_;refine kj (p90 (k:=17) (IV hdn.1<|by decide)<|by decide)<|c7 rfl<|B8 rfl ?_;refine Y4.2<|iy.2<|lh.2<|w9s rfl<|g8.2<|c7 rfl<|c7 fE<|c7 rfl ?_;rw[show isT (tyD<|hsD hs) "tuple" = true from T5];refine B8 rfl<|L5.2<|h9<|y9.2<|mC.2<|w9g rfl<|c7 rfl<|h9 ?_;refine w9i<|K7.2<|j8.2<|G3.2<|d4.2<|w9w rfl<|f9.2<|c7 fw<|G3.2<|d4.2<|j8.2<|lI.2<|d4.2<|g8.2<|w9c rfl<|f9.2 ⟨n8 rfl,?_⟩;refine G7.2 (v6.2<|j6.2<|w9v rfl<|j5.2<|dC H<|c7 M3 ⟨sz (by rw[Iz];omega),?_⟩);refine V6 (f:=λp=>.int p.1) (wkL l) none none F (λp hp F Q q=>w9g rfl q) ?_;have e1:((wkL l).map λp=>My.int p.1)=((wkL l).map (·.1)).map .int:=by rw[Jn];rfl
 rw[e1];refine c7 (Bo (by simp;omega))<|f9.2 ?_;have e2:[My.int 1,My.int w]++((wkL l).map (·.1)).map .int=(1::w::(wkL l).map (·.1)).map .int:=rfl;rw[e2];have hmx:K9 (1::w::(wkL l).map (·.1))<=hs.length:=by
  have:=Q7 (ns:=1::w::(wkL l).map (·.1)) (by simp);rcases IP.1 this with e | this
  .rw[e];omega
  .rcases IP.1 this with e | this
   .rw[e];exact hm
   .obtain⟨z,hz,e⟩:=Jm.1 this;rw[<-e];exact hw z hz
 refine c7 (sv<|by simp) (c7 oz<|c7 rfl<|B8 (Jf (by rw[Iz];omega))<|L5.2<|h9 ?_);refine w9i (dR.2<|K7.2<|j8.2<|g8.2<|G7.2<|v6.2<|w9w rfl<|c7 D7 ⟨sz (by rw[Iz];omega),?_⟩);refine lg (f:=λ_=>.bool true) (hs.map qd) none (λx hx F Q q9=>?_) ?_
 .obtain⟨p,hp,rfl⟩:=Jm.1 hx;exact j6.2<|w9v rfl<|j5.2<|kj (U.hh p hp).d9 q9
 have dnum:=nD hd;refine c7 (inN (f:=λ_=>true)) (c7 rfl<|B8 (by simp)<|K7.2<|j8.2<|w9s rfl<|g8.2<|c7 ix0<|g8.2<|c7 oz<|c7 rfl<|B8 (Jf<|by omega)<|L5.2<|h9 ?_);refine w9q<|g8.2 ⟨h7 rfl,h9 ?_⟩;refine y9.2<|L6.2<|v6.2<|w9g rfl<|c7 D7 ?_;refine E9 (λi E F'=>F'=F/\∃o7:Option DV,E=[some<|.dat<|bsD l,some<|.dat<|.int (h:Nat),some<|.dat<|.int w,some<|.dat<|.tuple [qd d,hsD hs],some<|.dat<|qd d,some<|.dat<|hsD hs,some<|.dat<|qd<|ah hs i,o7,none]) _ 0 _ F ⟨rfl,none,rfl⟩ ?_ ?_
 .rintro i x hx E F1 ⟨rfl,o7,rfl⟩;rw[Jv] at *;rw[IU]at hx;obtain⟨p,hp,rfl⟩:=Ja.1 hx;have hi:=(IH.1 hp).1;have ep:=sS hp;have b1:=(gz U.hh hi).bd;have b2:=(rM (k:=i) U.hh<|by omega).bd;have up:=U.up i hi;rw[ep];have cmp:=Rat.lt_iff (ah hs i)<|ht hs i;have lt:ah hs i<ht hs i:=by unfold sp at up;grind
  have nl:=cmp.1 lt;refine⟨_,rfl,w9i<|K7.2<|j8.2<|j8.2<|w9s rfl<|g8.2<|c7 ix0<|w9s rfl<|g8.2<|c7 ix1<|c7 (bm b1.1 b2.2 (by decide)<|by decide) ?_⟩;refine j8.2 (w9s rfl<|g8.2<|c7 ix0<|w9s rfl<|g8.2<|c7 ix1<|c7 (bm b2.1 b1.2 (by decide)<|by decide)<|c7 xK<|c7 rfl<|B8 (Jf<|by omega) ?_);exact L5.2<|h9<|S9.2<|w9g rfl ⟨h7 rfl,_,rfl,rfl,_,rfl⟩
 rintro E F1 ⟨rfl,o7,rfl⟩;refine h9<|w9q<|j6.2<|w9v rfl<|w9v rfl<|w9v rfl<|j5.2 ?_;refine oJ H h3 hn1 (by omega) U.hh hw λm m1 m2=>⟨h7 rfl,h9 ?_⟩
 obtain⟨g1,g2,g3⟩:=hsp m m1 m2;generalize (h:Rat)*m-SH hs (wkL l) / ((u7 l:Int):Rat)=s at g1 g2 g3;have bb:∀{z:Int},z.natAbs<=100000->Bd 17 z:=λh=>by unfold Bd;exact IV h (by decide)
 have cmp:=(Rat.le_iff d s).1 g1;refine B5.2 (j8.2<|j8.2<|w9s rfl<|g8.2<|c7 ix0<|w9s rfl<|g8.2<|c7 ix1<|c7 (bm (bb hdn.2) (bb (by rw[Js];exact g2)) (by decide)<|by decide) ?_);refine j8.2 (w9s rfl<|g8.2<|c7 ix0<|w9s rfl<|g8.2<|c7 ix1<|c7 (bm (bb g3) (bb (by rw[Js];exact hdn.1)) (by decide)<|by decide)<|c7 xK ?_);rw[show decide (d.num*((s.den:Nat):Int)<=s.num*((d.den:Nat):Int))=true from Je cmp];exact v5 q
end
end
section
def neS {x y:Str}:eqD true (.str x) (.str y)=some (.bool (!decide (x=y))):=by show some (My.bool<|if true=true then !decide (x=y) else decide (x=y))=_;rw[IE rfl]
def xU {me:DE->M My}{f:Pn->My}{rest:DE}:∀(ds:List Pn) (o o' o'':Option DV) (F:FdS) (Q:List My->FdS->Prop),(∀p∈ds,∀(F:FdS) (Q:My->FdS->Prop),Q (f p) F->wp (me (some (.dat<|.int p.1)::some (.dat<|.int p.2.1)::some (.dat<|.bool p.2.2)::rest) F) Q)->Q (ds.map f) F ->
  wp (P2 (D6 3<|i9 (bN 0)<|i9 (bN 1)<|i9 (bN 2) E7) C6 me (ds.map pnD) (o::o'::o''::rest) F) Q
 | [],o,o',o'',F,Q,_,q=>d6.2 q
 | d::ds,o,o',o'',F,Q,h,q=>by rw[IJ,P2];have e:D6 3 (i9 (bN 0)<|i9 (bN 1)<|i9 (bN 2) E7) (pnD d) (o::o'::o''::rest)=some (some (.dat<|.int d.1)::some (.dat<|.int d.2.1)::some (.dat<|.bool d.2.2)::rest):=rfl;rw[e,Jd,c8];refine Z3.2 ?_;rw[IE rfl,c8];refine h d IG F _ ?_;rw[c8];exact xU ds _ _ _ _ _ (λp hp=>h p<|IA _ hp)<|d6.2 q
def HT (hs:List Rat)(ps:List Pn):Rat:=cZ (ps.map λp=>ht hs (p.2.1-1).toNat)
structure Sd (n:Nat) (ps:List Pn):Prop where
 len:ps.length<=4
 ok:∀p∈ps,1<=p.2.1/\p.2.1<=n
structure Dp (d:Rat):Prop where
 pos:0<d
 den:d.den<=100000
 num:d.num.natAbs<=100000
section
variable {F:FdS}{Q:My->FdS->Prop}{l:List Bw}{hs:List Rat}{ps:List Pn}{d:Rat}
def Hh.qb {h:Rat}(H:Hh h):Qb 12 200 h:=by
 have h1:=H.den;have h2:=H.num;have h0:=h.den_pos;refine⟨?_,?_⟩
 .have:h.den=1\/h.den=2\/h.den=3\/h.den=4:=by omega
  rcases this with e | e | e | e <;> rw[e] <;> decide
 .have:=Nat.mul_le_mul_left 200 h0;omega
def yl (U:Up hs)(S:Sd hs.length ps):∀z∈ps.map λp=>ht hs (p.2.1-1).toNat,Qb 12 200 z:=λz hz=>by obtain⟨p,hp,rfl⟩:=Jm.1 hz;have:=S.ok p hp;exact(gz U.hh<|by omega).qb
def jz (U:Up hs)(S:Sd hs.length ps)(q:Q (qd<|HT hs ps) F):wp (Q4 [.dat<|.tuple [qd d,hsD hs],.dat<|.tuple<|ps.map pnD] F) Q:=by
 have hl:=S.len;have hn:=U.n2;unfold Q4;rw[sP];walk_at "kb";refine y9.2<|mC.2<|w9g rfl<|c7 rfl<|h9 ?_;refine B5.2 (w9l<|G7.2<|v6.2<|w9w rfl<|c7 D7 ⟨sz (by rw[Iz];omega),?_⟩);refine xU (f:=λp:Pn=>qd<|ht hs (p.2.1-1).toNat) ps _ _ _ F _ (λp hp F Q q=>?_) ?_
 .have hp:=S.ok p hp;obtain⟨j,ej⟩:∃j:Nat,p.2.1-1=(j:Int):=⟨(p.2.1-1).toNat,by omega⟩;refine w9s rfl<|w9s rfl<|g8.2<|c7 W2 ?_;rw[ej]at q ⊢;rw[Jx]at q;exact c7 (show ixD (hsD hs) (.int (j:Int))=some (qd<|ht hs j) from bO (by rw[IU,fD<|by omega];rfl)) q
 .have e:(ps.map λp:Pn=>qd<|ht hs (p.2.1-1).toNat)=(ps.map λp:Pn=>ht hs (p.2.1-1).toNat).map qd:=by rw[Jn];rfl
  rw[e];refine j5.2 (vT (D:=12) (M:=200) (by decide) (IQ (show 12<2 ^ 4 by decide)<|Jq (by decide)<|by decide) (yl U S) (by rw[Iz];omega) (by decide)<|v5 q)
def Dp.sz (D:Dp d):Sz d:=⟨Jj D.num<|IQ (show 100000<2 ^ 20 by decide)<|Jq (by decide)<|by decide,Jj D.den<|IQ (show 100000<2 ^ 20 by decide)<|Jq (by decide)<|by decide⟩
def yg (U:Up hs)(S:Sd hs.length ps):Qb 12 800 (HT hs ps):=by have:=oN (D:=12) (M:=200) (by decide) (yl U S) ps.length (by rw[Iz];exact IT _);rw[show ps.length=(ps.map λp:Pn=>ht hs (p.2.1-1).toNat).length by rw[Iz],Kz]at this;refine⟨this.den,IV this.num ?_⟩;rw[Iz];have hl:=S.len;exact Nat.mul_le_mul_right _ (by omega)
def zJ (U:Up hs)(S:Sd hs.length ps)(D:Dp d)(q:Q (qd<|HT hs ps / d) F):wp (L4 [.dat<|.tuple [qd d,hsD hs],.dat<|.tuple<|ps.map pnD] F) Q:=by unfold L4;rw[xf];refine D4.2 ?_;dsimp only[A1,IJ,JG,IK,JB,List.replicate,Ji,Jo,Nat.reduceAdd,Nat.reduceSub];refine B5.2<|w9l<|j6.2<|w9v rfl<|w9v rfl<|j5.2 ?_;refine jz U S<|G4.2<|w9s rfl<|g8.2<|c7 rfl<|j5.2 ?_;refine zR ?_ D.sz D.pos<|v5 q;exact(yg U S).sz (by decide) (IQ (show 12<2 ^ 4 by decide)<|Jq (by decide)<|by decide) (IQ (show 800<2 ^ 10 by decide)<|Jq (by decide)<|by decide)
def xO {p:Rat}(h1:p.num.natAbs<=10 ^ 40)(h2:p.den<=10 ^ 40):Z4 (qd p)=true:=by
 refine Gd.repr (n:=0) (N:=3) (k:=1) (Gd.tup (M:=1) (k:=0) (λd hd=>?_)<|by simp[df,cnt]) (by decide) (by decide) (by decide);simp only[IP,Kc,LK]at hd;rcases hd with rfl | rfl
 .exact iH (cJ<|IV h1<|by decide)
 .exact iH (cJ (by rw[Js];exact IV h2<|by decide))
def ki (U:Up hs)(S:Sd hs.length ps)(D:Dp d)(q:Q (.bool true) F):wp (u8 [.dat<|.tuple [qd d,hsD hs],.dat<|.tuple<|ps.map pnD] F) Q:=by
 have hl:=S.len;have bm:∀{a b:Int} {j k:Nat},Bd j a->Bd k b->j<1000->k<1000->m5 (.int a) (.int b)=some (.int<|a*b):=λh1 h2 h3 h4=>W5 (h1.big<|by omega) (h2.big<|by omega)
 unfold u8;walk_at "kb";refine y9.2<|mC.2<|g8.2<|c7 rfl<|h9 ?_;refine y9.2<|L6.2<|v6.2<|w9g rfl<|c7 D7 ?_;refine E9 (λi E F'=>F'=F/\∃(t:Int) (b:Nat) (o4 o5 o6 o7:Option DV),0<b/\(t:Rat)=cZ ((ps.map λp=>ht hs (p.2.1-1).toNat).take i)*(b:Rat)/\Bd (20+4*i) t/\b<=2 ^ (2*i)/\E=[some<|.dat<|.tuple [qd d,hsD hs],some<|.dat<|.tuple<|ps.map pnD,some<|.dat<|.int t,some<|.dat<|.int (b:Nat),o4,o5,o6,o7]) _ 0 _ F ⟨rfl,0,1,none,none,none,none,by decide,?_,?_,by decide,rfl⟩ ?_ ?_
 .show((0:Int):Rat)=0*_;simp
 .unfold Bd;simp
 .rintro i x hx E F1 ⟨rfl,t,b,o4,o5,o6,o7,hb,et,bt,bb,rfl⟩;rw[Jv] at *;rw[IU]at hx;obtain⟨p,hp,rfl⟩:=Ja.1 hx;have hi:=(IH.1 hp).1;have hpo:=S.ok p<|Ju hp;obtain⟨j,ej⟩:∃j:Nat,p.2.1-1=(j:Int):=⟨(p.2.1-1).toNat,by omega⟩;have hhj:=gz U.hh (show j<hs.length by omega);have bj:=hhj.bd;have bbd:Bd (2*i) ((b:Nat):Int):=by unfold Bd;rw[Js];exact bb
  have hix:ixD (hsD hs) (.int<|p.2.1-1)=some (qd<|ht hs j):=by rw[ej];exact bO (by rw[IU,fD<|by omega];rfl)
  refine⟨[some<|.dat<|.tuple [qd d,hsD hs],some<|.dat<|.tuple<|ps.map pnD,some<|.dat<|.int t,some<|.dat<|.int (b:Nat),some<|.dat<|.int p.1,some<|.dat<|.int p.2.1,some<|.dat<|.bool p.2.2,o7],rfl,w9q<|j8.2<|w9s rfl<|g8.2<|c7 rfl<|w9s rfl<|g8.2<|c7 W2<|c7 hix ⟨h7 rfl,h9 ?_⟩⟩;refine gU (d4.2<|j8.2<|w9s rfl<|w9s rfl<|g8.2<|c7 ix1<|c7 (bm bt bj.2 (by omega)<|by decide) ?_);refine j8.2 (w9s rfl<|g8.2<|c7 ix0<|w9w rfl<|c7 (bm bj.1 bbd (by decide)<|by omega)<|c7 C7 ?_);refine d4.2 (w9s rfl<|w9s rfl<|g8.2<|c7 ix1<|c7 (bm bbd bj.2 (by omega)<|by decide)<|f9.2 ⟨_,_,rfl,h7 rfl,h7 rfl,?_⟩);rw[<-Ln];refine⟨_,rfl,rfl,t*(((ht hs j).den:Nat):Int)+(ht hs j).num*(b:Int),b*(ht hs j).den,_,_,_,_,KA hb (ht hs j).den_pos,?_,?_,?_,rfl⟩
  .rw[ag (p:=ht hs (p.2.1-1).toNat) (by rw[IU,hp];rfl),show(p.2.1-1).toNat=j by omega];push_cast;rw[et,iu];grind
  .exact((bt.mul bj.2).mono (k:=20+4*i+3)<|by omega).add ((bj.1.mul bbd).mono<|by omega)
  .have:=Kq bb hhj.den;rw[show 2*(i+1)=2*i+2 by omega,MS];exact this
 rintro E F1 ⟨rfl,t,b,o4,o5,o6,o7,hb,et,bt,bb,rfl⟩;rw[Jv,Iz] at *;rw[show ps.length=(ps.map λp:Pn=>ht hs (p.2.1-1).toNat).length by rw[Iz],Kz]at et;have et:(t:Rat)=HT hs ps*(b:Rat):=et;have bbd:Bd (2*ps.length) ((b:Nat):Int):=by unfold Bd;rw[Js];exact bb
 have b8:b<=2 ^ 8:=IV bb (Jq (by decide)<|by omega);have em:mkRat t b=HT hs ps:=ky hb et;have hq:=yg U S;have hden:(HT hs ps).den<=12:=NJ (by decide) hq.den;have hnum:(HT hs ps).num.natAbs<=10 ^ 40:=IV hq.num (IV (Nat.mul_le_mul_left 800 hden)<|by decide);have r1:=sx (xO hnum<|IV hden<|by decide);refine h9<|w9i<|K7.2<|j8.2<|G3.2<|d4.2<|j6.2<|w9v rfl<|w9v rfl<|j5.2 ?_;refine jz U S<|f9.2<|c7 r1<|G3.2<|d4.2<|j6.2<|w9v rfl<|w9v rfl<|j5.2 ?_;refine Q2 hb (p90 (k:=8) b8<|by decide)<|f9.2 ?_;rw[em];refine c7 r1<|c7 eqS<|c7 rfl<|B8 rfl<|L5.2<|h9 ?_;have dn:=nD D.pos;obtain⟨n,en⟩:∃n:Nat,d.num=(n:Int):=⟨d.num.toNat,by omega⟩;have hn:0<n:=by omega
 have hn5:n<=100000:=by have:=D.num;omega
 have bdd:Bd 17 ((d.den:Nat):Int):=by unfold Bd;rw[Js];exact IV D.den (by decide)
 have bdn:Bd 17 d.num:=by unfold Bd;exact IV D.num (by decide)
 have em2:mkRat (t*((d.den:Nat):Int)) (b*n)=HT hs ps / d:=by
  refine ky (KA hb hn) ?_;have d0:d≠0:=λz=>by have:=D.pos;rw[z]at this;exact absurd this (by decide)
  have di:d*d⁻¹=1:=Mu _ d0;have e3:((n:Nat):Rat)=d*(d.den:Rat):=by rw[<-iu,en,LA]
  push_cast;rw[et,e3,Od];grind
 have le2:=hX (a:=t*((d.den:Nat):Int)) (d:=b*n)<|KA hb hn;rw[em2]at le2;have bn5:b*n<=2 ^ 8*100000:=Kq b8 hn5;have tn:(t*((d.den:Nat):Int)).natAbs<=2 ^ 53:=IV ((bt.mul bdd)) (Jq (by decide)<|by omega);have r2:=sx (xO (p:=HT hs ps / d) (IV le2.2<|IV tn<|by decide)<|IV le2.1<|IV bn5<|by decide);refine B5.2<|j8.2<|G3.2<|d4.2<|j6.2<|w9v rfl<|w9v rfl<|j5.2 ?_;refine zJ U S D (f9.2<|c7 r2<|G3.2<|d4.2<|w9l<|w9s rfl<|j8.2<|w9s rfl<|g8.2<|c7 rfl<|g8.2<|c7 ix1<|c7 (bm bt bdd (by omega)<|by decide) ?_);refine G4.2 (w9s rfl<|j8.2<|w9s rfl<|g8.2<|c7 rfl<|g8.2<|c7 ix0<|c7 (bm bbd bdn (by omega)<|by decide)<|j5.2 ?_);rw[en,<-Ln];refine Q2 (KA hb hn) (p90 (k:=30) (IV bn5<|by decide)<|by decide)<|f9.2 ?_;rw[em2];exact c7 r2<|c7 CP<|v5 q
end
end
section
def Ab {fi:Nat}{told:Str}{g:List DV->M My}{ms:DE->M (List DV)}{hd:Str->List My->DE->Option DE}{E:DE}{F:FdS}{Q:Out->FdS->Prop}
  (q:wp (ms E F) λxs F1=>wp (g xs F1) λd F2=>(∃z E1,ay d=some z/\hd z.1 z.2 E=some E1/\Q (.nx E1) F2)\/(ay d=none/\∃E1,bN fi (.tuple [.str told,d]) E=some E1/\Q (.nx E1) F2)):wp (uN fi told g ms hd E F) Q:=by
 unfold uN;rw[c8];refine l5 q λxs F1 h=>?_
 rw[c8];refine l5 h λd F2 h=>?_
 dsimp only;rcases h with ⟨z,E1,e1,e2,h⟩ | ⟨e1,E1,e2,h⟩
 .rw[e1];dsimp only;rw[e2];exact d6.2 h
 .rw[e1];dsimp only;rw[e2];exact d6.2 h
def uk {nm:Str}{ms:DE->M (List My)}{E:DE}{F:FdS}{Q:Out->FdS->Prop}(q:wp (ms E F) λds F1=>ds.length=(psT nm).length/\Q (.rt<|pU nm ds) F1):wp (iO nm ms E F) Q:=by
 unfold iO;rw[c8];refine l5 q λds F1 h=>?_
 rw[IE h.1];exact d6.2 h.2
def tD (n:Nat):qd ((n:Nat):Rat) = .tuple [.int (n:Nat),.int 1]:=by unfold qd;rw[NZ,Oa];rfl
def upL (n:Nat):List Rat:=(List.range n).map λk=>((k+1:Nat):Rat)
def aM (n:Nat):(upL n).length=n:=by unfold upL;rw[Iz,JW]
def qA {n k:Nat}(h:k<n):ht (upL n) k=((k+1:Nat):Rat):=by refine(sS (?_:(upL n)[k]? = some _)).symm;unfold upL;rw[IU,Kf h];rfl
def xJ {n k:Nat}(h:k<n):sp (upL n) k=1:=by
 unfold sp;rw[qA h];cases k with
 | zero=>rw[jv,show((0+1:Nat):Rat)=1 from rfl];grind
 | succ k =>rw[aq,qA<|by omega];push_cast;grind
def xG {n:Nat}(h1:1<=n)(h2:n<=100):Up (upL n) where
 n1:=by rw[aM];exact h1
 n2:=by rw[aM];exact h2
 hh:=λh hh=>by unfold upL at hh;obtain⟨k,hk,rfl⟩:=Jm.1 hh;have:=List.mem_range.1 hk;exact⟨by rw[Oa];decide,by rw[NZ,Js];omega⟩
 up:=λk hk=>by rw[aM]at hk;rw[xJ hk];decide
theorem xT {n:Nat}{ws:List (Int×Int)}(hw:∀z∈ws,1<=z.1/\z.1<=n):∀i,i<=ws.length->SH (upL n) (ws.take i)=((O2 (ws.take i):Int):Rat)
 | 0,_=>rfl
 | i+1,hi=>by
  have ih:=xT hw i (by omega);have e:=IM (show i<ws.length by omega);have hz:=hw _ (JU<|show i<ws.length by omega);generalize ws[i]=z at e hz;rw[iB e,ou e,ih,qA<|by omega];have e1:(((z.1-1).toNat+1:Nat):Rat)=((z.1:Int):Rat):=by
   have:(((z.1-1).toNat+1:Nat):Int)=z.1:=by omega
   rw[<-LA,this]
  rw[e1];push_cast;grind
section
variable {F:FdS}{Q:My->FdS->Prop}{l:List Bw}{h:Nat}{w:Int}
def drL (l:List Bw)(h:Nat):Rat:=(h:Rat)-mkRat (D8 l) (u7 l).toNat
def yk (H:Be l):drL l h=mkRat ((h:Int)*u7 l-D8 l) (u7 l).toNat:=by have ht:=H.tot;obtain⟨T,eT⟩:∃T:Nat,u7 l=(T:Int):=⟨(u7 l).toNat,by omega⟩;unfold drL;rw[eT,Jx];have:=U1 (a:=D8 l) (d:=T) (by omega);refine(ky (by omega) ?_).symm;push_cast;rw[this];grind
def zL (H:Be l)(h3:h<=3):(drL l h).den<=100000/\(drL l h).num.natAbs<=100000:=by have ht:=H.tot;have hw:=qD H;have:=hX (a:=(h:Int)*u7 l-D8 l) (d:=(u7 l).toNat) (by omega);rw[<-yk H]at this;have e:(h:Int)*u7 l<=3*48:=Int.mul_le_mul (by omega) ht.2 (by omega) (by omega);have e2:0<=(h:Int)*u7 l:=KL (by omega) (by omega);omega
def xV (H:Be l)(h3:h<=3)(hr:D8 l<(h:Int)*u7 l):Dp (drL l h):=by
 refine⟨?_,(zL H h3).1,(zL H h3).2⟩;have ht:=H.tot;rw[yk H];have d0:(0:Rat)<(((u7 l).toNat:Nat):Rat):=by exact_mod_cast (by omega:0<(u7 l).toNat)
 have e:=U1 (a:=(h:Int)*u7 l-D8 l) (d:=(u7 l).toNat) (by omega);have p:(0:Rat)<(((h:Int)*u7 l-D8 l:Int):Rat):=by exact_mod_cast (by omega:(0:Int)<(h:Int)*u7 l-D8 l)
 rw[e]at p;refine Ku λhn=>?_
 have hn:=MB.1 hn;have:=KQ hn<|Mv d0;rw[Rat.zero_mul]at this;exact absurd p<|MB.2 this
def hmL (l:List Bw)(w:Int):Nat:=(max 1<|max w<|gwL l).toNat
def vv (H:Be l)(w1:w<=40):1<=hmL l w/\hmL l w<=40/\w<=hmL l w/\gwL l<=hmL l w:=by have:=BP H;unfold hmL;omega
def iA (H:Be l)(h3:h<=3)(w1:w<=40)(q1:¬D8 l<(h:Int)*u7 l->Q (pU "NoRest" [.str<|wdL l h]) F)(q2:D8 l<(h:Int)*u7 l->Q (.tuple [qd<|drL l h,hsD<|upL<|hmL l w]) F):wp (Dt [.dat<|bsD l,.dat<|.int (h:Nat),.dat<|.int w] F) Q:=by
 have ht:=H.tot;have hw:=qD H;have hm:=vv H w1;unfold Dt;rw[uY,vH,ug];refine D4.2 ?_;dsimp only[A1,IJ,JG,IK,JB,List.replicate,Ji,Jo,Nat.reduceAdd,Nat.reduceSub];refine w9q (j6.2<|w9v rfl<|j5.2<|yu H λxs L N hf hL e1 e2=>⟨h7 rfl,h9 ?_⟩);refine w9q (j6.2<|w9v rfl<|w9v rfl<|j5.2<|Ay hf (by omega) h3 ⟨h7 rfl,h9 ?_⟩);rw[BB e1 e2];refine w9i<|K7.2<|w9s rfl<|g8.2<|c7 neS<|c7 rfl ?_;have ew:wdL l h = "rests" ↔ D8 l<(h:Int)*u7 l:=by
  unfold wdL;constructor
  .intro e;refine Ku λhn=>?_
   rw[II hn]at e;split at e
   .exact absurd e (by decide +kernel)
   .split at e <;> exact absurd e (by decide +kernel)
  .intro e;rw[IE e]
 refine S4 (λe=>?_) (λe=>?_)
 .have hn:¬D8 l<(h:Int)*u7 l:=λz=>by rw[Je<|ew.2 z]at e;exact absurd e (by decide)
  exact uk<|w9c rfl<|f9.2 ⟨rfl,dW<|v5<|q1 hn⟩
 .have hr:D8 l<(h:Int)*u7 l:=Ku λz=>by rw[Jf λy=>z<|ew.1 y]at e;exact absurd e (by decide)
  refine L5.2<|h9<|w9q<|G3.2<|d4.2<|g8.2<|d4.2<|w9w rfl<|d4.2<|j6.2<|w9v rfl<|j5.2<|wa H<|f9.2<|c7 CH ⟨h7 rfl,h9 ?_⟩;have eh:max 1 (max w<|gwL l)=((hmL l w:Nat):Int):=by unfold hmL;omega
  rw[eh];refine B5.2<|A7.2<|d4.2<|w9l<|A7.2<|w9c rfl<|d4.2<|g8.2<|f9.2 ⟨n8 rfl,?_⟩;refine G4.2 (j6.2<|w9v rfl<|j5.2<|rB hf (by omega) λt b lo=>j5.2 ?_);rw[ip lo (by omega),e1,<-tD];have z1:=hX (a:=D8 l) (d:=(u7 l).toNat) (by omega);have sz4:∀n:Nat,n<=100000->n<2 ^ 4000:=λn hn=>Jj hn (IQ (show 100000<2 ^ 20 by decide)<|Jq (by decide)<|by decide)
  refine uX ⟨sz4 _ (by rw[NZ,Js];omega),sz4 _ (by rw[Oa];omega)⟩ ⟨sz4 _ (by omega),sz4 _<|by omega⟩ ?_;refine d4.2 (G3.2<|d4.2<|G7.2<|S7.2<|w9c rfl<|f9.2<|c7 (cE<|by omega) ⟨sz (by simp;omega),?_⟩);refine Bg (x:=λk:Nat=>.int (k:Int)) (f:=λk:Nat=>qd ((k+1:Nat):Rat)) (List.range<|hmL l w) _ (λk hk F Q q=>?_) ?_
  .rw[tD]at q;exact A7.2<|d4.2<|w9s rfl<|g8.2<|c7 C7<|d4.2<|g8.2<|f9.2 ⟨n8 rfl,q⟩
  .refine f9.2<|c7 aJ<|f9.2 ⟨n8 rfl,v5 ?_⟩;have:=q2 hr;unfold hsD upL at this;rw[Jn]at this;exact this
def mN (H:Be l)(h3:h<=3)(w1:w<=40)(q1:¬D8 l<(h:Int)*u7 l->Q (.tuple [.str "no",.str<|wdL l h]) F)(q2:D8 l<(h:Int)*u7 l->Q (.tuple [.str "told",.tuple [qd<|drL l h,hsD<|upL<|hmL l w]]) F) :
  wp (J7 [.dat<|bsD l,.dat<|.int (h:Nat),.dat<|.int w] F) Q:=by
 unfold J7;refine D4.2<|w9q<|g8.2 ⟨h7 rfl,h9 ?_⟩;refine y9.2<|Ab<|w9v rfl<|w9v rfl<|w9v rfl<|j5.2 ?_;refine iA H h3 w1 (λhw=>?_) (λhw=>?_)
 .exact .inl ⟨("NoRest",[.str<|wdL l h]),_,rfl,IE ⟨rfl,rfl⟩,h9<|B5.2<|w9g rfl<|v5<|q1 hw⟩
 .exact .inr ⟨rfl,_,rfl,h9<|B5.2<|w9g rfl<|v5<|q2 hw⟩
def nh (H:Be l)(h3:h<=3)(w0:0<=w)(w1:w<=40)(hr:D8 l<(h:Int)*u7 l)(q:Q (.bool true) F):wp (z9 [.dat<|bsD l,.dat<|.int (h:Nat),.dat<|.int w,.dat<|.tuple [qd<|drL l h,hsD<|upL<|hmL l w]] F) Q:=by
 have hm:=vv H w1;have ht:=H.tot;have D:=xV H h3 hr;have hwk:∀z∈wkL l,1<=z.1/\z.1<=(hmL l w:Nat):=λz hz=>⟨(H.wk z hz).1.1,by have:=uK hz;omega⟩
 refine qT H h3 (xG hm.1<|by omega) (λz hz=>by rw[aM];exact(hwk z hz).2) w0 (by rw[aM];omega) D.pos ⟨D.den,D.num⟩ ?_ q;rintro m ⟨k,hk,rfl⟩ _;rw[aM]at hk;have e:=xT hwk (wkL l).length<|IT _;rw[Kz,nr]at e;have es:(h:Rat)*sp (upL<|hmL l w) k-SH (upL<|hmL l w) (wkL l) / ((u7 l:Int):Rat)=drL l h:=by
  rw[xJ hk,Rat.mul_one,e];unfold drL;rw[La];have:(((u7 l).toNat:Nat):Rat)=((u7 l:Int):Rat):=by
   have e5:(((u7 l).toNat:Nat):Int)=u7 l:=by omega
   rw[<-LA,e5]
  rw[this]
 rw[es];exact⟨Rat.le_refl,zL H h3⟩
def qR (H:Be l){hs:List Rat}(U:Up hs)(hw:∀z∈wkL l,z.1<=hs.length)(hr:¬D8 l<(h:Int)*u7 l){m:Rat}(hm:∃k,k<hs.length/\m=sp hs k)(hmm:∀k,k<hs.length->m<=sp hs k):((h:Rat)*m-SH hs (wkL l) / ((u7 l:Int):Rat)).num<=0:=by
 have ht:=H.tot;refine xw ?_;obtain⟨k,hk,em⟩:=hm;have mp:0<m:=by rw[em];exact U.up k hk
 have e:=yj (hs:=hs) (ws:=wkL l) (m:=m) (λz hz=>⟨⟨(H.wk z hz).1.1,hw z hz⟩,(H.wk z hz).2.1⟩) hmm (wkL l).length<|IT _;rw[Kz,nr]at e;have e2:((h:Int):Rat)*((u7 l:Int):Rat)<=((D8 l:Int):Rat):=by exact_mod_cast (by omega:(h:Int)*u7 l<=D8 l)
 rw[LA]at e2;have e3:=Np e2<|Mv mp;have T0:(0:Rat)<((u7 l:Int):Rat):=by exact_mod_cast (by omega:0<u7 l)
 generalize ((u7 l:Int):Rat)=T at *;generalize SH hs (wkL l)=S at *;have Tn:T≠0:=λz=>by rw[z]at T0;exact absurd T0 (by decide)
 have Ti:T*T⁻¹=1:=Mu _ Tn;have Tp:0<T⁻¹:=Rat.inv_pos.2 T0;have e4:m*((h:Rat)*T)<=S:=Rat.le_trans e3 e;have e5:=KQ e4<|Mv Tp;rw[Od];have e6:m*((h:Rat)*T)*T⁻¹=(h:Rat)*m:=by grind
 rw[e6]at e5;grind
end
end
section
def eU {bd:My->DE->Option DE}{body:DE->M Out}{Q:Out->FdS->Prop}{d:My}{r:List My}{E E1:DE}{F:FdS}(e:bd d E=some E1)(h:wp (body E1 F) λo F'=>∃E2,o = .nx E2/\wp (R9 bd body r E2 F') Q):wp (R9 bd body (d::r) E F) Q:=by
 rw[R9,e,Jd,c8];refine l5 h λo F1 ⟨E2,e2,h2⟩=>?_
 subst e2;exact h2
def nX {bd:My->DE->Option DE}{body:DE->M Out}{Q:Out->FdS->Prop}{E:DE}{F:FdS}(h:Q (.nx E) F):wp (R9 bd body [] E F) Q:=d6.2 h
def CU {x y:Int}:vE [.int x,.int y]=some (.int<|min x y):=by
 show some (My.int<|if y<x then y else x)=_;congr 2;by_cases h:y<x
 .rw[IE h];omega
 .rw[II h];omega
def rp {hs:List Rat}{h:Rat}{k:Nat}(hk:k<hs.length):ht (hs++[h]) k=ht hs k:=by unfold ht;rw[Jb,Jb,Ks hk]
def sJ {hs:List Rat}{h:Rat}{k:Nat}(hk:k<=hs.length):ah (hs++[h]) k=ah hs k:=by
 cases k with
 | zero=>rfl
 | succ k=>rw[aq,aq,rp<|by omega]
def nv {hs:List Rat}{h:Rat}:ht (hs++[h]) hs.length=h:=by unfold ht;rw[Jb,Km<|IT _,Nat.sub_self];rfl
structure Ow (l:List Bw) (w:Int) (d:Rat) (hs:List Rat):Prop where
 u:Up hs
 wk:∀z∈wkL l,z.1<=hs.length
 le:hs.length<=hmL l w
 d:Dp d
def An {l:List Bw}{w:Int}(H:Be l)(w1:w<=40):Tr M7 [.feed,.dat<|bsD l,.dat<|.int w] 9 (λx=>∃d hs,x = .tuple [qd d,hsD hs]/\Ow l w d hs):=Tr.of λF hF=>by
 have hl:=H.len;unfold M7;walk_at "kb";refine y9.2<|eK.2<|fN.2<|f9.2 ⟨n8 rfl,h7 rfl,h9<|w9q<|g8.2 ⟨h7 rfl,h9 ?_⟩⟩;refine w9q<|j8.2<|g8.2<|w9d rfl ?_;refine v8 (by decide) (by decide) (by omega) λb0 F1 b00 b01 t1=>c7 C7 ⟨h7 rfl,h9 ?_⟩
 obtain⟨b,eb⟩:∃b:Nat,1+b0=(b:Int):=⟨(1+b0).toNat,by omega⟩;rw[eb];have hb1:1<=b:=by omega
 have hb4:b<=4:=by omega
 refine y9.2<|L6.2<|S7.2<|d4.2<|G3.2<|d4.2<|j8.2<|lI.2<|d4.2<|g8.2<|d4.2<|G3.2<|d4.2<|g8.2<|d4.2<|w9w rfl<|f9.2<|c7 CU<|f9.2 ⟨n8 rfl,?_⟩;refine G7.2 (v6.2<|j6.2<|w9v rfl<|j5.2<|dC H<|c7 M3 ⟨sz (by rw[Iz];omega),?_⟩);refine V6 (f:=λp=>.int p.1) (wkL l) none none F1 (λp hp F Q q=>w9g rfl q) ?_;have e1:((wkL l).map λp=>My.int p.1)=((wkL l).map (·.1)).map .int:=by rw[Jn];rfl
 rw[e1];refine c7 (Bo (by simp;omega))<|f9.2 ?_;have e2:[My.int 1,My.int<|min 6 w]++((wkL l).map (·.1)).map .int=(1::min 6 w::(wkL l).map (·.1)).map .int:=rfl;rw[e2];refine c7 (sv<|by simp)<|f9.2 ?_;obtain⟨ns,ens⟩:∃ns,ns=1::min 6 w::(wkL l).map (·.1):=⟨_,rfl⟩;rw[<-ens];have g1:1<=K9 ns:=V7 (by rw[ens];exact IG);have g2:K9 ns<=6/\K9 ns<=hmL l w:=by
  have hm:=vv H w1;have key:∀x∈ns,x<=6/\x<=hmL l w:=λx hx=>by
   rw[ens]at hx;rcases IP.1 hx with e | hx
   .rw[e];omega
   .rcases IP.1 hx with e | hx
    .rw[e];omega
    .obtain⟨z,hz,e⟩:=Jm.1 hx;have:=uK hz;have:=(H.wk z hz).1;rw[<-e];omega
  exact key _ (Q7 (by rw[ens];simp))
 have g3:∀z∈wkL l,z.1<=K9 ns:=λz hz=>V7 (by rw[ens];exact IA _<|IA _<|Jm.2 ⟨z,hz,rfl⟩)
 generalize K9 ns=mx at g1 g2 g3;obtain⟨n,rfl⟩:∃n:Nat,mx=(n:Int):=⟨mx.toNat,by omega⟩;refine c7 (ll<|by omega) ?_;refine E9 (λi E F'=>F'.t<=F1.t+i/\∃(hs:List Rat) (t:Int) (o6:Option DV),hs.length=i/\(∀h∈hs,Hh h)/\(∀k,k<i->0<sp hs k)/\ah hs i=mkRat t b/\0<=t/\t<=6*i/\E=[some .feed,some<|.dat<|bsD l,some<|.dat<|.int w,some<|.own<|hs.map qd,some<|.dat<|.int t,some<|.dat<|.int (b:Nat),o6]) _ 0 _ F1 ⟨by omega,[],0,none,rfl,λ_ z=>(nomatch z),λk hk=>absurd hk (by omega),?_,by decide,by omega,rfl⟩ ?_ ?_
 .rw[jv,Rat.zero_mkRat]
 .rintro i d hd E F2 ⟨t2,hs,t,o6,hlen,hh,hsp,ha,t0,t6,rfl⟩;rw[Jv] at *;have hi:i<n:=by have:=(IH.1 hd).1;rw[nK]at this;exact this
  refine⟨_,rfl,w9q<|j8.2<|w9s rfl<|g8.2<|c7 C7<|w9d rfl ?_⟩;refine v8 (by decide) (by decide) (by omega) λr F3 r0 r1 t3=>c7 C7 ⟨h7 rfl,h9 ?_⟩
  refine rY rfl (by rw[Iz];omega)<|j6.2<|w9v rfl<|w9v rfl<|j5.2 ?_;have le:=hX (a:=t+1+r) (d:=b) hb1;have ea:(mkRat (t+1+r) b-mkRat t b)=mkRat (1+r) b:=by
   have z1:=U1 (a:=t+1+r) (d:=b) hb1;have z2:=U1 (a:=t) (d:=b) hb1;refine(ky hb1 ?_).symm;have:((1+r:Int):Rat)=((t+1+r:Int):Rat)-((t:Int):Rat):=by push_cast;grind
   rw[this,z1,z2];grind
  have pos:0<mkRat (1+r) b:=by
   have z1:=U1 (a:=1+r) (d:=b) hb1;have p:(0:Rat)<((1+r:Int):Rat):=by exact_mod_cast (by omega:(0:Int)<1+r)
   rw[z1]at p;have d0:(0:Rat)<((b:Nat):Rat):=by exact_mod_cast hb1
   refine Ku λhn=>?_
   have:=KQ (MB.1 hn)<|Mv d0;rw[Rat.zero_mul]at this;exact absurd p<|MB.2 this
  refine Q2 hb1 (p90 (k:=2) hb4<|by decide) ⟨_,rfl,by omega,hs++[mkRat (t+1+r) b],t+1+r,_,by rw[JJ,hlen];rfl,λh hm=>?_,λk hk=>?_,?_,by omega,by omega,by rw[Kt];rfl⟩
  .rcases LD.1 hm with hm | hm
   .exact hh h hm
   .rw[Jy.1 hm];exact⟨by omega,by omega⟩
  .rcases LO k i with z | z
   .unfold sp;rw[rp (by omega),sJ<|by omega];exact hsp k z
   .have ek:k=hs.length:=by omega
    rw[ek];unfold sp;rw[nv,sJ<|IT _,hlen,ha,ea];exact pos
  .rw[aq,<-hlen,nv]
 .rintro E F2 ⟨t2,hs,t,o6,hlen,hh,hsp,ha,t0,t6,rfl⟩;rw[Jv,nK] at *;refine h9<|B5.2<|A7.2<|d4.2<|w9l<|j8.2<|g8.2<|w9d rfl ?_;refine v8 (by decide) (by decide) (by omega) λx F3 x0 x1 t3=>c7 C7<|G4.2<|j8.2<|g8.2<|w9d rfl ?_
  refine v8 (by decide) (by decide) (by omega) λy F4 y0 y1 t4=>c7 C7<|j5.2 ?_
  obtain⟨v,ev⟩:∃v:Nat,1+y=(v:Int):=⟨(1+y).toNat,by omega⟩;rw[ev];have hv1:1<=v:=by omega
  have le:=hX (a:=1+x) (d:=v) hv1;refine Q2 hv1 (p90 (k:=5) (show v<=32 by omega)<|by decide) (d4.2<|G3.2<|d4.2<|K1.2<|cT rfl<|f9.2<|c7 aJ<|f9.2 ⟨n8 rfl,v5 ⟨by omega,_,hs,rfl,?_⟩⟩);refine⟨⟨by omega,by omega,hh,λk hk=>hsp k<|by omega⟩,λz hz=>by have:=g3 z hz;omega,by omega,⟨?_,by omega,by omega⟩⟩;have z1:=U1 (a:=1+x) (d:=v) hv1;have p:(0:Rat)<((1+x:Int):Rat):=by exact_mod_cast (by omega:(0:Int)<1+x)
  rw[z1]at p;have d0:(0:Rat)<((v:Nat):Rat):=by exact_mod_cast hv1
  refine Ku λhn=>?_
  have:=KQ (MB.1 hn)<|Mv d0;rw[Rat.zero_mul]at this;exact absurd p<|MB.2 this
end
section
def BtS (b:Bt):Prop:=b.length<=2/\∀c∈b,1<=c.2/\c.2<=6
def qM {h:Nat}(h1:1<=h)(h3:h<=3):Tr E8 [.feed,.dat<|.int (h:Nat)] 40 (λd=>∃l,d=bsD l/\Be l):=Tr.of λF hF=>by
 unfold E8;walk_at "kb";refine w9i<|K7.2<|j8.2<|w9d rfl ?_;refine v8 (by decide) (by decide) (by omega) λz F1 z0 z1 t1=>g8.2 (c7 zA<|c7 rfl<|S4 (λe=>?_)<|λe=>?_)
 .refine w9q<|j8.2<|g8.2<|w9d rfl ?_;refine v8 (by decide) (by decide) (by omega) λf F2 f0 f1 t2=>c7 C7 ⟨h7 rfl,h9 ?_⟩
  refine B5.2<|A7.2<|d4.2<|A7.2<|d4.2<|g8.2<|w9c rfl<|f9.2 ⟨n8 rfl,?_⟩;refine d4.2<|A7.2<|d4.2<|A7.2<|d4.2<|A7.2<|d4.2<|w9d rfl ?_;refine v8 (by decide) (by decide) (by omega) λa F3 a0 a1 t3=>w9c rfl<|f9.2 ⟨n8 rfl,d4.2<|A7.2<|d4.2<|w9d rfl ?_⟩
  refine v8 (by decide) (by decide) (by omega) λb F4 b0 b1 t4=>w9c rfl<|f9.2 ⟨n8 rfl,f9.2 ⟨n8 rfl,w9c rfl<|f9.2 ⟨n8 rfl,f9.2 ⟨n8 rfl,dW<|v5 ?_⟩⟩⟩⟩
  refine⟨by omega,[([],1+f),([(a,(h:Int)),(b,(h:Int))],1+f)],rfl,by simp,by simp,λp hp=>?_⟩;simp only[IP,Kc,LK]at hp;rcases hp with rfl | rfl
  .exact⟨by simp,λc hc=>(nomatch hc),by show 1<=1+f;omega,by show 1+f<=12;omega⟩
  .refine⟨by simp,λc hc=>?_,by show 1<=1+f;omega,by show 1+f<=12;omega⟩;simp only[IP,Kc,LK]at hc;rcases hc with rfl | rfl
   .exact⟨by show(1:Int)<=h;omega,by show(h:Int)<=6;omega⟩
   .exact⟨by show(1:Int)<=h;omega,by show(h:Int)<=6;omega⟩
 .refine L5.2<|h9<|y9.2<|Az (h7 rfl)<|h9<|y9.2<|L6.2<|S7.2<|d4.2<|j8.2<|g8.2<|w9d rfl ?_;refine v8 (by decide) (by decide) (by omega) λn0 F2 n00 n01 t2=>c7 C7<|f9.2 ?_
  obtain⟨n,en⟩:∃n:Nat,1+n0=(n:Int):=⟨(1+n0).toNat,by omega⟩;rw[en];refine c7 (cE<|by omega) ?_;refine E9 (λj E F'=>F'.t<=F2.t+8*j/\∃(l:List Bw) (o4 o5 o6:Option DV),(l.map (·.1)).Nodup/\l.length<=j/\(0<j->1<=l.length)/\(∀p∈l,BtS p.1/\1<=p.2/\p.2<=12)/\E=[some .feed,some<|.dat<|.int (h:Nat),none,some<|.dic true 0<|l.map<|kiD cmD,o4,o5,o6]) _ 0 _ F2 ⟨by omega,[],none,none,none,List.nodup_nil,IT _,λz=>absurd z<|KF 0,λp hp=>(nomatch hp),rfl⟩ ?_ ?_
  .rintro j d e E F1 ⟨ht,l,o4,o5,o6,nd,hl,hp,hok,rfl⟩;rw[Jv] at *;obtain⟨hj,rfl⟩:=wB (f:=λi:Nat=>My.int (i:Int)) e;refine⟨_,rfl,w9q<|j8.2<|g8.2<|w9d rfl ?_⟩;refine v8 (by decide) (by decide) (by omega) λr F3 r0 r1 t3=>?_
   obtain⟨k,hk,ek⟩:∃k:Nat,k<=2/\ixD (.list [.int 0,.int 0,.int 1,.int 1,.int 2]) (.int r)=some (.int (k:Int)):=by
    have:r=0\/r=1\/r=2\/r=3\/r=4:=by omega
    rcases this with rfl | rfl | rfl | rfl | rfl
    .exact⟨0,by decide,rfl⟩
    .exact⟨0,by decide,rfl⟩
    .exact⟨1,by decide,rfl⟩
    .exact⟨1,by decide,rfl⟩
    .exact⟨2,by decide,rfl⟩
   refine c7 ek ⟨h7 rfl,h9<|w9q<|G3.2<|d4.2<|G7.2<|S7.2<|w9c rfl<|f9.2<|c7 (cE<|by omega) ⟨sz (by simp;omega),?_⟩⟩;refine rP (P:=λ_ y=>∃c:Int×Int,y=cmD c/\1<=c.2/\c.2<=6) (c:=2) _ _ (by decide) (λd hd F hF=>?_) (by simp;omega) λzs F3 hlz hz t3=>?_
   .refine A7.2<|d4.2<|w9d rfl ?_;refine v8 (by decide) (by decide) (by omega) λa Fa a0 a1 ta=>d4.2<|j8.2<|g8.2<|w9d rfl ?_
    refine v8 (by decide) (by decide) (by omega) λb Fb b0 b1 tb=>c7 C7 (f9.2 ⟨n8 rfl,by omega,(a,1+b),rfl,by show 1<=1+b;omega,by show 1+b<=6;omega⟩)
   .rw[Iz,JW]at hlz t3;obtain⟨b,rfl,hb⟩:=iX λz h=>(let ⟨_,_,h⟩:=hz z h;h)
    rw[Iz]at hlz;refine f9.2<|c7 aJ ⟨h7 rfl,h9<|yF (ps:=l.map<|kiD cmD) rfl<|j8.2<|g8.2<|w9d rfl ?_⟩;refine v8 (by decide) (by decide) (by omega) λa Fa a0 a1 ta=>c7 C7 (w9g rfl ⟨zg.is b,by rw[Iz];omega,?_⟩)
    have hput:=vx (y:=My.int) zg b (1+a) l;obtain⟨k1,k2⟩:=pS (a:=b) (v:=1+a) nd;have hb1:BtS b:=⟨by omega,hb⟩;have k3:=qJ (P:=λp:Bw=>BtS p.1/\1<=p.2/\p.2<=12) (a:=b) (v:=1+a) hok ⟨hb1,by show 1<=1+a;omega,by show 1+a<=12;omega⟩;have k4:1<=(fR l b<|1+a).length:=by
     unfold fR;split
     .rename_i z;have:=List.length_pos_of_mem z;rw[Iz]at this ⊢;omega
     .rw[JJ];simp
    exact⟨_,rfl,by omega,fR l b<|1+a,_,_,_,k1,by omega,λ_=>k4,k3,by rw[<-hput];rfl⟩
  .rintro E F1 ⟨ht,l,o4,o5,o6,nd,hl,hp,hok,rfl⟩;rw[Jv,Iz,JW] at *;refine h9 (B5.2<|G3.2<|d4.2<|L3.mN Cr CG zg zU nd (by omega) rfl λrs hrs=>f9.2<|c7 aJ<|v5 ⟨by omega,rs,rfl,?_⟩);exact⟨by rw[hrs.length_eq];exact hp (by omega),by rw[hrs.length_eq];omega,λp hp=>by have:=hok p<|hrs.mem_iff.1 hp;exact⟨this.1.1,this.1.2,this.2⟩⟩
def kY {z:Nat}(hz:z=3\/z=4\/z=5){F:FdS}{Q:My->FdS->Prop}(q:Q (.list [.tuple [.tuple [.tuple [.int 0,.int<|(z:Int)+1]],.int 1]]) F):wp (V1 [.dat<|.list [.tuple [.tuple [],.int 1]],.dat<|.tuple<|List.replicate z (.int 0)++[.int 1]] F) Q:=by
 rcases hz with rfl | rfl | rfl
 .exact⟨_,F,rfl,q⟩
 .exact⟨_,F,rfl,q⟩
 .exact⟨_,F,rfl,q⟩
def Bi {z:Nat}{n:Int}:Y0 [.list [.tuple [.tuple [],.int 8],.tuple [.tuple [.tuple [.int 0,.int<|(z:Int)+1]],.int n]]]=some (.list [.tuple [.tuple [],.int 8],.tuple [.tuple [.tuple [.int 0,.int<|(z:Int)+1]],.int n]]):=by
 refine oP (ts:=[[.tuple [],.int 8],[.tuple [.tuple [.int 0,.int<|(z:Int)+1]],.int n]]) (κ:=λi=>(i:Int)) ⟨by simp,λd hd=>?_,λi j di dj hij ei ej=>?_⟩
 .simp only[IP,Kc,LK]at hd;rcases hd with rfl | rfl
  .exact⟨rfl,by decide,λx hx=>by cases hx;exact⟨_,rfl⟩⟩
  .exact⟨rfl,by simp[My.depthAll,My.depth],λx hx=>by cases hx;exact⟨_,rfl⟩⟩
 .match i,j,ei,ej with
  | 0,0,_,_=>exact absurd rfl hij
  | 1,1,_,_=>exact absurd rfl hij
  | 0,1,ei,ej=>cases ei;cases ej;rfl
  | 1,0,ei,ej=>cases ei;cases ej;rfl
  | 0,j+2,ei,ej=>cases ej
  | 1,j+2,ei,ej=>cases ej
  | i+2,_,ei,_=>cases ei
def mw {z:Nat}{n:Int}(hz:z=3\/z=4\/z=5)(n1:1<=n)(n2:n<=2){F:FdS}{Q:My->FdS->Prop}(q:Q (bsD [([],8),([(0,(z:Int)+1)],n)]) F):wp (L9 [.dat<|.tuple [.int 8,.int n],.dat<|.tuple<|List.replicate z (.int 0)++[.int 1]] F) Q:=by
 have bm:∀{a b:Int},a.natAbs<=100->b.natAbs<=100->m5 (.int a) (.int b)=some (.int<|a*b):=λh1 h2=>W5 (sm5<|by omega) (sm5<|by omega)
 unfold L9;walk_at "kb";refine w9q<|j8.2<|G3.2<|d4.2<|w9w rfl<|f9.2<|c7 fw<|g8.2<|c7 W2 ⟨h7 rfl,h9 ?_⟩;have e9:(([My.int 8,My.int n].length:Nat):Int)-1=((1:Nat):Int):=rfl;rw[e9];have e8:aI [.int ((1:Nat):Int)]=some [.int 0]:=by rw[ll<|by decide];rfl
 refine y9.2<|eK.2<|fN.2<|d4.2<|g8.2<|f9.2 ⟨n8 rfl,h7 rfl,h9 ?_⟩;refine y9.2<|L6.2<|S7.2<|w9c rfl<|f9.2<|c7 e8 ?_;refine eU rfl (rY rfl (by simp)<|j8.2<|j8.2<|K1.2<|cT rfl<|lh.2<|g8.2<|c7 rfl<|c7 (rfl:ixD (.list [.int 1]) (.int (-1))=some (.int 1))<|j6.2<|w9v rfl<|j5.2 ?_);have et:List.replicate z (My.int 0)++[.int 1]=(List.replicate z (0:Int)++[1]).map .int:=by rw[Kt,List.map_replicate];rfl
 have es:(List.replicate z (0:Int)++[1]).sum=1:=by rcases hz with rfl | rfl | rfl <;> rfl
 have ht:∀{Q:My->FdS->Prop},Q (.int 1) F->wp (bC [.dat<|.tuple<|List.replicate z (.int 0)++[.int 1]] F) Q:=λ{Q} q=>by rw[et];refine nW (xs:=List.replicate z (0:Int)++[1]) ?_;rw[es];exact q
 refine ht (c7 (bm (by decide)<|by decide) ⟨_,rfl,nX<|h9 ?_⟩);refine y9.2<|Aw<|CD<|fN.2<|f9.2 ⟨n8 rfl,Cs<|g8.2 ⟨⟨h7 rfl,h7 rfl⟩,h9 ?_⟩⟩;refine y9.2<|L6.2<|As<|w9g rfl<|c7 D7 ?_;refine eU rfl<|w9i<|K7.2<|w9s rfl<|g8.2<|c7 eP<|c7 rfl<|B8 rfl<|L5.2<|h9 ?_;refine U9.2<|K7.2<|w9s rfl<|g8.2<|c7 eP<|c7 rfl<|aS rfl ?_;refine qW rfl (G7.2<|v6.2<|w9w rfl<|c7 M3 ⟨sz (by simp),?_⟩);refine jy (α:=Unit) (x:=λ_=>.tuple []) (y:=λ_=>.int 1) (f:=λ_=>.tuple [.tuple [],.int 8]) [()] _ _ (λp hp F Q q=>?_) ?_
 .exact A7.2 (w9c rfl<|d4.2<|j8.2<|w9s rfl<|w9w rfl<|c7 (bm (by decide)<|by decide)<|j8.2<|K1.2<|cT rfl<|w9s rfl<|w9w rfl<|c7 W2<|c7 (rfl:ixD (.list [.int 1,.int 1]) (.int 1)=some (.int 1))<|c7 (bm (by decide)<|by decide)<|f9.2 ⟨n8 rfl,q⟩)
 refine⟨_,rfl,by simp,_,rfl,?_⟩;refine eU rfl<|w9i<|K7.2<|w9s rfl<|g8.2<|c7 eP<|c7 rfl<|aS rfl<|S9.2<|j6.2<|w9v rfl<|w9v rfl<|j5.2<|kY hz ⟨h7 rfl,h9 ?_⟩;refine U9.2 (K7.2<|w9s rfl<|g8.2<|c7 eP<|c7 rfl<|aS (Je<|by omega) ?_);refine qW rfl (G7.2<|v6.2<|w9w rfl<|c7 M3 ⟨sz (by simp),?_⟩);refine jy (α:=Unit) (x:=λ_=>.tuple [.tuple [.int 0,.int<|(z:Int)+1]]) (y:=λ_=>.int 1) (f:=λ_=>.tuple [.tuple [.tuple [.int 0,.int<|(z:Int)+1]],.int<|n*1*1]) [()] _ _ (λp hp F Q q=>?_) ?_
 .exact A7.2 (w9c rfl<|d4.2<|j8.2<|w9s rfl<|w9w rfl<|c7 (bm (by omega)<|by decide)<|j8.2<|K1.2<|cT rfl<|w9s rfl<|w9w rfl<|c7 W2<|c7 (rfl:ixD (.list [.int 1,.int 1]) (.int 0)=some (.int 1))<|c7 (bm (by omega)<|by decide)<|f9.2 ⟨n8 rfl,q⟩)
 refine⟨_,rfl,by simp,_,rfl,nX<|h9 ?_⟩;rw[show n*1*1=n by omega];refine B5.2<|G3.2<|d4.2<|G3.2<|d4.2<|K1.2<|cT rfl<|f9.2<|c7 Bi<|f9.2<|c7 aJ<|v5 q
def km {z:Nat}{n:Int}(hz:z=3\/z=4\/z=5)(n1:1<=n)(n2:n<=2):Be [([],8),([(0,(z:Int)+1)],n)]:=by
 refine⟨by simp,by simp,λp hp=>?_⟩;simp only[IP,Kc,LK]at hp;rcases hp with rfl | rfl
 .exact⟨by decide,λc hc=>(nomatch hc),by decide,by decide⟩
 .refine⟨by simp,λc hc=>?_,n1,by show n<=12;omega⟩;rw[Jy.1 hc];exact⟨by show 1<=(z:Int)+1;omega,by show(z:Int)+1<=6;omega⟩
end
section
abbrev EE (a2 a3 a4 a5 a6 a7 a8 a9 a10 a11:Option DV):DE:=[none,some .feed,a2,a3,a4,a5,a6,a7,a8,a9,a10,a11]
def zO {E:DE}{F:FdS}{Q:My->FdS->Prop}(hE:E[1]? = some (some .feed))(hF:F.t+3<=199999)(q:∀(w:Int) F',F'.t=F.t+3->0<=w->w<=40->Q (.int w) F'):wp (s2 ixD (lT<|d5 (i0 A2<|vF 1<|vD (sC<|.int 7) m9)<|d5 (s2 K0 (sC<|.int 7)<|i0 A2<|vF 1<|vD (sC<|.int 34) m9) j9) (sN vz<|d5 (s2 (eqD false) (i0 A2<|vF 1<|vD (sC<|.int 5) m9)<|sC<|.int 0) j9) E F) Q:=by
 refine j8.2<|lI.2<|d4.2<|j6.2<|mQ.2<|lF hE<|G4.2<|g8.2<|j5.2 ?_;refine v8 (by decide) (by decide) (by omega) λa F1 a0 a1 t1=>d4.2<|j8.2<|g8.2<|j6.2<|mQ.2<|lF hE<|G4.2<|g8.2<|j5.2 ?_
 refine v8 (by decide) (by decide) (by omega) λb F2 b0 b1 t2=>c7 C7<|f9.2 ⟨n8 rfl,G3.2<|d4.2<|j8.2<|j6.2<|mQ.2<|lF hE<|G4.2<|g8.2<|j5.2 ?_⟩
 refine v8 (by decide) (by decide) (by omega) λc F3 c0 c1 t3=>g8.2<|c7 zA<|f9.2 ?_
 by_cases e:c=0
 .rw[Je e];exact c7 rfl (c7 (rfl:ixD (.list [.int a,.int<|7+b]) (.int 1)=some (.int<|7+b))<|q _ F3 (by omega) (by omega)<|by omega)
 .rw[Jf e];exact c7 rfl (c7 (rfl:ixD (.list [.int a,.int<|7+b]) (.int 0)=some (.int a))<|q _ F3 (by omega) (by omega)<|by omega)
def Bf {k:Nat}(h:k<=1000):m5 (.tuple [.int 0]) (.int (k:Int))=some (.tuple<|List.replicate k<|.int 0):=by
 rw[Ct (by simp;omega) (by omega) (by omega),Jx];congr 2;clear h;induction k with
 | zero=>rfl
 | succ k ih=>rw[JE,Kr,ih,JE];rfl
def vw (l:List Bw)(h:Nat):Z4 (.tuple [.str "no",.str<|wdL l h])=true:=by
 unfold wdL;split
 .decide +kernel
 .split
  .decide +kernel
  .split <;> decide +kernel
def jP {l:List Bw}{h:Nat}:wdL l h = "rests" ↔ D8 l<(h:Int)*u7 l:=by
 unfold wdL;constructor
 .intro e;refine Ku λhn=>?_
  rw[II hn]at e;split at e
  .exact absurd e (by decide +kernel)
  .split at e <;> exact absurd e (by decide +kernel)
 .intro e;rw[IE e]
section
variable {F:FdS}{l:List Bw}{h:Nat}{w:Int}{d:Rat}{hs:List Rat}{ps:List Pn}
def yA {Q:Out->FdS->Prop}{o2 o8 o10 o11:Option DV}(H:Be l)(h3:h<=3)(w0:0<=w)(w1:w<=40)(O:Ow l w d hs)(S:Sd hs.length ps)
  (q:∀a11,Q (.nx<|EE o2 (some<|.dat<|.int (h:Nat)) (some<|.dat<|.int w) (some<|.dat<|bsD l) (some<|.dat<|.str<|wdL l h) (some<|.dat<|.tuple [qd d,hsD hs]) o8 (some<|.dat<|.tuple<|ps.map pnD) o10 a11) F) :
  wp (mSq N3 N4 (EE o2 (some<|.dat<|.int (h:Nat)) (some<|.dat<|.int w) (some<|.dat<|bsD l) (some<|.dat<|.str<|wdL l h) (some<|.dat<|.tuple [qd d,hsD hs]) o8 (some<|.dat<|.tuple<|ps.map pnD) o10 o11) F) Q:=by
 unfold N3 N4;refine w9q<|j6.2<|w9v rfl<|w9v rfl<|w9v rfl<|j5.2 ?_;refine mN H h3 w1 (λhr=>⟨h7 rfl,h9 ?_⟩) (λhr=>⟨h7 rfl,h9 ?_⟩)
 .have hn:wdL l h ≠ "rests":=λz=>hr<|jP.1 z
  refine U9.2 (K7.2<|w9s rfl<|g8.2<|c7 neS<|c7 rfl<|aS (by rw[Jf hn];rfl) ?_);have r:=sx<|vw l h;refine U9.2<|dR.2<|K7.2<|j8.2<|G3.2<|d4.2<|w9w rfl<|f9.2<|c7 r<|G3.2<|d4.2<|A7.2<|d4.2<|g8.2<|w9c rfl<|f9.2 ⟨n8 rfl,f9.2<|c7 r<|c7 eqS<|c7 rfl<|B8 rfl ?_⟩;refine K7.2<|j8.2<|j8.2<|j6.2<|w9v rfl<|w9v rfl<|G4.2<|w9s rfl<|g8.2<|c7 rfl<|j5.2 ?_;refine oJ H h3 O.u.n1 (by have:=O.u.n2;omega) O.u.hh O.wk λm m1 m2=>?_
  have z:=qR H O.u O.wk hr m1 m2;exact g8.2 (c7 ix0<|g8.2<|c7 eP<|c7 rfl<|B8 (Jf<|by omega)<|L5.2<|q _)
 .have hn:wdL l h = "rests":=jP.2 hr;have hm:=vv H w1;refine U9.2 (K7.2<|w9s rfl<|g8.2<|c7 neS<|c7 rfl<|B8 (by rw[Je hn];rfl) ?_);refine U9.2<|dR.2<|K7.2<|j8.2<|w9s rfl<|g8.2<|c7 rfl<|g8.2<|c7 eqS<|c7 rfl<|B8 rfl ?_;refine Y4.2<|iy.2<|j6.2<|w9v rfl<|w9v rfl<|w9v rfl<|G4.2<|w9s rfl<|g8.2<|c7 rfl<|j5.2 ?_;refine nh H h3 w0 w1 hr<|c7 rfl<|B8 rfl ?_;refine U9.2<|Y4.2<|iy.2<|w9l<|w9s rfl<|g8.2<|c7 rfl<|w9v rfl<|j5.2 ?_;refine ki (xG hm.1<|by omega) ⟨S.len,λp hp=>⟨(S.ok p hp).1,by have:=(S.ok p hp).2;have:=O.le;rw[aM];omega⟩⟩ (xV H h3 hr)<|c7 rfl<|B8 rfl<|L5.2<|q _
end
def yM {F:FdS}{Q:Out->FdS->Prop}{o2 o3 o4 o5 o6 o7 o8 o9 o10 o11:Option DV}(hF:F.t+100<=199999)(q:∀a3 a4 a5 a6 a7 a8 a9 a10 a11 F',F'.t<=F.t+100->Q (.nx<|EE o2 a3 a4 a5 a6 a7 a8 a9 a10 a11) F') :
  wp (mSq U0 (mSq U4<|mSq U6<|mSq U7<|mSq P4<|mSq P5<|mSq P8<|mSq P6<|mSq P7 U3) (EE o2 o3 o4 o5 o6 o7 o8 o9 o10 o11) F) Q:=by
 unfold U0;refine w9q<|j8.2<|g8.2<|w9d rfl ?_;refine v8 (by decide) (by decide) (by omega) λh0 F1 h00 h01 t1=>c7 C7 ⟨h7 rfl,h9 ?_⟩
 obtain⟨h,eh⟩:∃h:Nat,1+h0=(h:Int):=⟨(1+h0).toNat,by omega⟩;rw[eh];have h1:1<=h:=by omega
 have h3:h<=3:=by omega
 unfold U4;refine w9q (zO rfl (by omega) λw F2 t2 w0 w1=>⟨h7 rfl,h9 ?_⟩);unfold U6;refine w9q<|j6.2<|mQ.2<|lF rfl<|w9v rfl<|j5.2 ?_;refine(qM h1 h3).wp (by omega) λx F3 t3 hx=>⟨h7 rfl,h9 ?_⟩
 obtain⟨l0,rfl,H0⟩:=hx;have rest:∀(l:List Bw) (F4:FdS),Be l->F4.t<=F.t+60->wp (mSq P4 (mSq P5<|mSq P8<|mSq P6<|mSq P7 U3) (EE o2 (some<|.dat<|.int (h:Nat)) (some<|.dat<|.int w) (some<|.dat<|bsD l) o6 o7 o8 o9 o10 o11) F4) Q:=λl F4 H t4=>by
  unfold P4;refine w9q<|j6.2<|w9v rfl<|w9v rfl<|j5.2<|xm H h3 ⟨h7 rfl,h9 ?_⟩;unfold P5;refine w9q<|j6.2<|mQ.2<|lF rfl<|w9v rfl<|w9v rfl<|j5.2 ?_;refine(An H w1).wp (by omega) λx F5 t5 hx=>⟨h7 rfl,h9 ?_⟩
  obtain⟨d,hs,rfl,O⟩:=hx;have n1:=O.u.n1;have n2:=O.u.n2;unfold P8;refine w9q<|G7.2<|S7.2<|d4.2<|w9d rfl ?_;refine v8 (by decide) (by decide) (by omega) λk F6 k0 k1 t6=>f9.2 ?_
  obtain⟨k,rfl⟩:∃j:Nat,k=(j:Int):=⟨k.toNat,by omega⟩;refine c7 (cE<|by omega) ⟨sz (by simp;omega),?_⟩;refine rP (P:=λ_ y=>∃v:Int,y = .int v/\1<=v/\v<=hs.length) (c:=1) _ _ (by decide) (λd hd F hF=>?_) (by simp;omega) λzs F7 hlz hz t7=>?_
  .refine j8.2<|g8.2<|j6.2<|mQ.2<|lF rfl<|G4.2<|G3.2<|d4.2<|w9s rfl<|g8.2<|c7 rfl<|f9.2<|c7 fw<|j5.2 ?_;refine v8 (by rw[Iz];omega) (by rw[Iz];omega) (by omega) λa Fa a0 a1 ta=>c7 C7 ⟨by omega,_,rfl,by omega,by rw[Iz]at a1;omega⟩
  rw[Iz,JW]at hlz t7;obtain⟨vs,rfl,hv⟩:=iX (x:=My.int) λz h=>(let ⟨_,_,h⟩:=hz z h;h)
  rw[Iz]at hlz;refine⟨h7 rfl,h9 ?_⟩;unfold P6;refine w9q (G3.2<|d4.2<|G7.2<|v6.2<|w9w rfl<|c7 M3 ⟨sz (by rw[Iz];omega),?_⟩);refine rP (P:=λ_ y=>∃p:Pn,y=pnD p/\1<=p.2.1/\p.2.1<=hs.length) (c:=1) _ _ (by decide) (λd hd F hF=>?_) (by simp;omega) λzs F8 hlz8 hz8 t8=>?_
  .obtain⟨v,hv',rfl⟩:=Jm.1 hd;refine A7.2<|d4.2<|w9d rfl ?_;refine v8 (by decide) (by decide) (by omega) λa Fa a0 a1 ta=>w9c rfl (d4.2<|g8.2<|f9.2 ⟨n8 rfl,by omega,(a,v,false),rfl,hv v hv'⟩)
  rw[Iz]at hlz8 t8;obtain⟨ps,rfl,hps⟩:=iX (x:=pnD) λz h=>(let ⟨_,_,h⟩:=hz8 z h;h)
  rw[Iz]at hlz8;refine f9.2<|c7 aJ ⟨h7 rfl,h9 ?_⟩;have S:Sd hs.length ps:=⟨by omega,hps⟩;unfold P7;refine w9i<|Y4.2<|iy.2<|j6.2<|w9v rfl<|w9v rfl<|j5.2 ?_;refine ki O.u S O.d<|c7 rfl<|B8 rfl<|L5.2<|h9 ?_;unfold U3;refine L6.2 (S7.2<|d4.2<|g8.2<|f9.2<|c7 (cE (n:=2)<|by decide) ?_);refine E9 (λj E F'=>F'=F8/\∃(a10 a11:Option DV),E=EE o2 (some<|.dat<|.int (h:Nat)) (some<|.dat<|.int w) (some<|.dat<|bsD l) (some<|.dat<|.str<|wdL l h) (some<|.dat<|.tuple [qd d,hsD hs]) (some<|.dat<|.list<|vs.map .int) (some<|.dat<|.tuple<|ps.map pnD) a10 a11) _ 0 _ F8 ⟨rfl,_,_,rfl⟩ ?_ ?_
  .rintro j x e E F9 ⟨rfl,a10,a11,rfl⟩;exact⟨_,rfl,yA H h3 w0 w1 O S λa=>⟨_,rfl,rfl,_,_,rfl⟩⟩
  .rintro E F9 ⟨rfl,a10,a11,rfl⟩;exact q _ _ _ _ _ _ _ _ _ F9 (by omega)
 unfold U7;refine w9i<|K7.2<|j8.2<|w9d rfl ?_;refine v8 (by decide) (by decide) (by omega) λg F4 g0 g1 t4=>g8.2 (c7 zA<|c7 rfl<|S4 (λe=>?_)<|λe=>?_)
 .refine S9.2<|w9l<|A7.2<|d4.2<|g8.2<|d4.2<|j8.2<|g8.2<|w9d rfl ?_;refine v8 (by decide) (by decide) (by omega) λn F5 n0 n1 t5=>c7 C7<|f9.2 ⟨n8 rfl,G4.2<|j8.2<|j8.2<|g8.2<|j8.2<|g8.2<|w9d rfl ?_⟩
  refine v8 (by decide) (by decide) (by omega) λz F6 z0 z1 t6=>c7 C7 ?_
  obtain⟨y,ey⟩:∃y:Nat,3+z=(y:Int):=⟨(3+z).toNat,by omega⟩;rw[ey];have hy:y=3\/y=4\/y=5:=by omega
  refine c7 (Bf<|by omega) (g8.2<|c7 (CO (by simp;omega))<|j5.2 ?_);exact mw hy (by omega) (by omega) ⟨h7 rfl,h9<|rest _ F6 (km hy (by omega)<|by omega)<|by omega⟩
 .exact L5.2 (h9<|rest l0 F4 H0<|by omega)
def fin (ns:List Int):∃F',jD ([none,some .feed]++List.replicate 10 none) (kD ns)=some (.rt<|.bool true,F'):=by
 suffices h:wp (jD (EE none none none none none none none none none none)<|kD ns) (λo _=>o = .rt (.bool true)) by obtain⟨o,F',e,rfl⟩:=h;exact⟨F',e⟩
 have t0':(kD ns).t=0:=rfl;unfold jD iG dD;refine y9.2 (L6.2<|S7.2<|d4.2<|g8.2<|f9.2<|c7 (cE (n:=4)<|by decide) ?_);refine E9 (λi E F'=>F'.t<=100*i/\∃a2 a3 a4 a5 a6 a7 a8 a9 a10 a11,E=EE a2 a3 a4 a5 a6 a7 a8 a9 a10 a11) _ 0 _ (kD ns) ⟨by omega,_,_,_,_,_,_,_,_,_,_,rfl⟩ ?_ ?_
 .rintro i d hd E F1 ⟨ht,a2,a3,a4,a5,a6,a7,a8,a9,a10,a11,rfl⟩;have hi:i<4:=by have:=(IH.1 hd).1;simpa using this
  refine⟨_,rfl,yM (by omega) λb3 b4 b5 b6 b7 b8 b9 b10 b11 F' ht'=>⟨_,rfl,by omega,_,_,_,_,_,_,_,_,_,_,rfl⟩⟩
 .rintro E F1 ⟨ht,a2,a3,a4,a5,a6,a7,a8,a9,a10,a11,rfl⟩;exact h9<|B5.2<|g8.2 rfl
end
end K67
namespace K67
open PySem L2 L3
def all_mk {l:PySem.W.OpenLaw}{w:Oi}{K:PySem.W.Frag}{h:Oq}{mg:Str->Option Oe}{fa flaw:Of}(X:K.In h)(G:h.Ns OA mg)(hfa:mg "law" = some (.ref fa))
    {odlaw anlaw:Option Of} {sllaw:Array (Option Oe)} {oclaw kVlaw dclaw pmlaw cdlaw ctlaw:Oe}
    (alaw:PySem.W.nsIn K OA "law" = some (some<|.ref flaw)) (llaw:K.lookup flaw=some ⟨oclaw,odlaw,.func<|PySem.W.fnOf "law" "law" (defArgs Dk) (defBody Dk) (defScope Dk) .none kVlaw dclaw pmlaw anlaw cdlaw ctlaw,sllaw⟩) (claw:PySem.W.codeIn K cdlaw "law" = true) (klaw:PySem.W.keepIn K (.ref flaw)=true)
    (DB:L3.FI K "common_divisor" Dy)
    (EW:L3.FI K "fraction" Ex)
    (Hy:L3.FI K "plus" GH)
    (GX:L3.FI K "minus" FV)
    (Hz:L3.FI K "over" GJ)
    (HA:L3.FI K "less" GK)
    (Ft:L3.FI K "mean_of" DL)
    (GY:L3.FI K "added" FW)
    (DH:L3.FI K "greatest_work" Dv)
    (Gh:L3.FI K "height" EK)
    (GZ:L3.FI K "total" FX)
    (EX:L3.FI K "share_of" Ey)
    (HB:L3.FI K "mean" GL)
    (Fu:L3.FI K "work_in" Ep)
    (EY:L3.FI K "one_more" DO)
    (EZ:L3.FI K "beats_of" DG)
    (Fv:L3.FI K "flow_of" DM)
    (Fw:L3.FI K "word_of" EM)
    (Ed:L3.FI K "back_paper" DC)
    (Ee:L3.FI K "back_bound" DP)
    (ED:L3.FI K "_law_feed" DU)
    (EF:L3.FI K "_law_draw" DW)
    (EG:L3.FI K "_law_frac" DX)
    (Eh:L3.FI K "_law_beats" Ds)
    (Ej:L3.FI K "_law_works" DD)
    (Ek:L3.FI K "_law_spare" DF)
    (DK:L3.FI K "_law_is_frac" Dq)
    (DI:L3.FI K "_law_is_paper" Do)
    (EH:L3.FI K "_law_word" Dr)
    (EI:L3.FI K "_law_told" DY)
    (Fe:L3.FI K "_law_own" DQ)
    (Dw:L3.FI K "_law_bounds_right" Du)
    (zValueError:PySem.W.nsIn K OA "ValueError" = some none)
    (zabs:PySem.W.nsIn K OA "abs" = some none)
    (zbool:PySem.W.nsIn K OA "bool" = some none)
    (zenumerate:PySem.W.nsIn K OA "enumerate" = some none)
    (zint:PySem.W.nsIn K OA "int" = some none)
    (zisinstance:PySem.W.nsIn K OA "isinstance" = some none)
    (zlen:PySem.W.nsIn K OA "len" = some none)
    (zlist:PySem.W.nsIn K OA "list" = some none)
    (zmax:PySem.W.nsIn K OA "max" = some none)
    (zmin:PySem.W.nsIn K OA "min" = some none)
    (zrange:PySem.W.nsIn K OA "range" = some none)
    (zrepr:PySem.W.nsIn K OA "repr" = some none)
    (zsorted:PySem.W.nsIn K OA "sorted" = some none)
    (zsum:PySem.W.nsIn K OA "sum" = some none)
    (ztuple:PySem.W.nsIn K OA "tuple" = some none)
    {t_NOUGHT:Of} {it_NOUGHT:Array Oe} {n_NOUGHT:Nat} {dd_NOUGHT:Option Of} {sl_NOUGHT:Array (Option Oe)} (ga_NOUGHT:PySem.W.nsIn K OA "NOUGHT" = some (some<|.ref t_NOUGHT)) (gl_NOUGHT:K.lookup t_NOUGHT=some ⟨.type "tuple",dd_NOUGHT,.seq it_NOUGHT n_NOUGHT,sl_NOUGHT⟩) (gq_NOUGHT:L3.intsV it_NOUGHT.toList=some ([0,1]:List Int))
    {t_ONE:Of} {it_ONE:Array Oe} {n_ONE:Nat} {dd_ONE:Option Of} {sl_ONE:Array (Option Oe)} (ga_ONE:PySem.W.nsIn K OA "ONE" = some (some<|.ref t_ONE)) (gl_ONE:K.lookup t_ONE=some ⟨.type "tuple",dd_ONE,.seq it_ONE n_ONE,sl_ONE⟩) (gq_ONE:L3.intsV it_ONE.toList=some ([1,1]:List Int))
    {x_WaitError:Of} (aE_WaitError:PySem.W.nsIn K OA "WaitError" = some (some<|.ref x_WaitError))
    {x_NoRest:Of} (aE_NoRest:PySem.W.nsIn K OA "NoRest" = some (some<|.ref x_NoRest))
    {x_NoBeat:Of} (aE_NoBeat:PySem.W.nsIn K OA "NoBeat" = some (some<|.ref x_NoBeat))
    {x_NoComer:Of} (aE_NoComer:PySem.W.nsIn K OA "NoComer" = some (some<|.ref x_NoComer))
    {x_NoHouse:Of} (aE_NoHouse:PySem.W.nsIn K OA "NoHouse" = some (some<|.ref x_NoHouse))
    {x_NoPaper:Of} (aE_NoPaper:PySem.W.nsIn K OA "NoPaper" = some (some<|.ref x_NoPaper))
    {x_NoRow:Of} (aE_NoRow:PySem.W.nsIn K OA "NoRow" = some (some<|.ref x_NoRow))
    {x_NoText:Of} (aE_NoText:PySem.W.nsIn K OA "NoText" = some (some<|.ref x_NoText))
    {x_TooMany:Of} (aE_TooMany:PySem.W.nsIn K OA "TooMany" = some (some<|.ref x_TooMany))
    {fi_NoRest N_NoRest:Of} {nm_NoRest q_NoRest:Str} {bs_NoRest:List Oe} {hd_NoRest sn_NoRest sub_NoRest ab_NoRest col_NoRest dd_NoRest k0_NoRest k1_NoRest k2_NoRest k3_NoRest k5_NoRest} {oci_NoRest kVi_NoRest dci_NoRest pmi_NoRest cdi_NoRest cti_NoRest:Oe} {odi_NoRest ani_NoRest:Option Of} {sli_NoRest:Array (Option Oe)}
    (obj_NoRest:K.lookup x_NoRest=some (PySem.excClassObj nm_NoRest q_NoRest x_NoRest N_NoRest bs_NoRest (.ref x_WaitError::L3.vMro) hd_NoRest sn_NoRest sub_NoRest ab_NoRest col_NoRest dd_NoRest k0_NoRest k1_NoRest k2_NoRest k3_NoRest k5_NoRest "ValueError.__new__")) (tp_NoRest:PySem.W.excIn K x_WaitError L3.vMro "ValueError.__new__" = true)
    (in_NoRest:PySem.W.findIn K (.ref x_NoRest) "__init__" = some (some<|.ref fi_NoRest)) (fn_NoRest:PySem.W.typeIn K (.ref fi_NoRest)=some (.type "function")) (ca_NoRest:PySem.W.specialIn K (.ref x_NoRest) "__call__" = some (some<|.builtin "type.__call__")) (ty_NoRest:PySem.W.instIn K (.ref x_NoRest) (.type "type")=some true) (kp_NoRest:PySem.W.keepIn K (.ref x_NoRest)=true) (di_NoRest:PySem.W.hasDictIn K x_NoRest=true) (sa_NoRest:PySem.W.findIn K (.ref x_NoRest) "__setattr__" = some (some<|.builtin "object.__setattr__"))
    (li_NoRest:K.lookup fi_NoRest=some ⟨oci_NoRest,odi_NoRest,.func<|PySem.W.fnOf "__init__" "NoRest.__init__" (defArgs ini_NoRest) (defBody ini_NoRest) (defScope ini_NoRest) .none kVi_NoRest dci_NoRest pmi_NoRest ani_NoRest cdi_NoRest cti_NoRest,sli_NoRest⟩) (ci_NoRest:PySem.W.codeIn K cdi_NoRest "NoRest.__init__" = true)
    (ga_NoRest_:PySem.W.findIn K (.ref x_NoRest) "__getattribute__" = some (some<|.builtin "BaseException.__getattribute__")) (gn_NoRest:PySem.W.findIn K (.ref x_NoRest) "__getattr__" = some none) (mb_NoRest:PySem.W.mroIn K x_NoRest (.type "BaseException")=some true) (mo_NoRest:PySem.W.mroIn K x_NoRest (.type "object")=some true) (cc_NoRest:PySem.W.findIn K (.ref x_NoRest) "__class__" = some (some<|.builtin "object.__class__")) (cg_NoRest:PySem.W.specialIn K (.builtin "object.__class__") "__get__" = some (some<|.builtin "getset_descriptor.__get__")) (ct_NoRest:PySem.W.takesIn K (.builtin "object.__class__")=some true)
    (sb_NoRest:PySem.W.subIn K (.ref x_WaitError) (.type "BaseException")=some true) (ko_NoRest:PySem.W.kitOne K (.ref x_NoRest) (.ref x_WaitError)=some true) (ne_NoRest:(Oe.ref x_NoRest == Oe.ref x_WaitError)=false) (ve_NoRest:PySem.W.kitOne K (.ref x_NoRest) (.type "ValueError")=some true) (st_NoRest:PySem.W.kitAny K (.ref x_NoRest) [.ref x_NoBeat,.ref x_NoComer,.ref x_NoHouse,.ref x_NoPaper,.ref x_NoRow,.ref x_NoText,.ref x_TooMany]=some false)
    (na_NoRest_word:PySem.W.findIn K (.ref x_NoRest) "word" = some none)
    (hnd0:decide (((L3.tabsK ([]:List Str) K).map (·.2.2)).Nodup)=true)
   :∃fd:Om,(∀(s:Og) (v:Oe),BindsTo s fd ⟨[v],[]⟩ [("_law_script",v)])/\∀base:Oq,K.In base->base.Ns OA mg->BMd base mg->(∀t∈L3.tabsK ([]:List Str) K,PySem.W.CodeHd base t.2.1 t.2.2)->FnOk l.prog w K mg base CX0 8 fa fd ["_law_script"] (spLaw K):=by
  have hnd:(L3.tabP K).Nodup:=Jg hnd0;have e:=hfa.symm.trans<|JY X G alaw;cases e;have na_NoRest:∀p∈L3.psT "NoRest",PySem.W.findIn K (.ref x_NoRest) p=some none:=by
    intro p hp;have hp:p∈(["word"]:List Str):=hp;simp only[IP,Kc,LK]at hp;rcases hp with rfl
    · exact na_NoRest_word
  have T:Txt K mg:=⟨Jz X G zValueError,Jz X G zabs,Jz X G zbool,Jz X G zenumerate,Jz X G zint,Jz X G zisinstance,Jz X G zlen,Jz X G zlist,Jz X G zmax,Jz X G zmin,Jz X G zrange,Jz X G zrepr,Jz X G zsorted,Jz X G zsum,Jz X G ztuple,L3.gd_mkI X G ga_NOUGHT gl_NOUGHT gq_NOUGHT (by decide),L3.gd_mkI X G ga_ONE gl_ONE gq_ONE (by decide),⟨x_WaitError,x_NoRest,fi_NoRest,[x_NoBeat,x_NoComer,x_NoHouse,x_NoPaper,x_NoRow,x_NoText,x_TooMany],JY X G aE_WaitError,⟨_,_,rfl,JY X G aE_NoBeat,_,_,rfl,JY X G aE_NoComer,_,_,rfl,JY X G aE_NoHouse,_,_,rfl,JY X G aE_NoPaper,_,_,rfl,JY X G aE_NoRow,_,_,rfl,JY X G aE_NoText,_,_,rfl,JY X G aE_TooMany,rfl⟩,L3.ecls_mk obj_NoRest tp_NoRest in_NoRest fn_NoRest ca_NoRest ty_NoRest kp_NoRest di_NoRest sa_NoRest,L3.eini_mk it_NoRest li_NoRest ci_NoRest na_NoRest,L3.efit_mk (JY X G aE_NoRest) di_NoRest ga_NoRest_ gn_NoRest mb_NoRest mo_NoRest cc_NoRest cg_NoRest ct_NoRest sb_NoRest ko_NoRest ne_NoRest ve_NoRest st_NoRest na_NoRest⟩⟩;obtain⟨_,_,DT,Fp,Fq,_⟩:=DB.mk X G ["one","other"] λ_ _ _ _ _ _ us hl=>by obtain⟨z0,z1,rfl⟩:=L3.len_2 hl;rfl
  obtain⟨_,_,FP,Hl,Hm,_⟩:=EW.mk X G ["top","bottom"] λ_ _ _ _ _ _ us hl=>by obtain⟨z0,z1,rfl⟩:=L3.len_2 hl;rfl
  obtain⟨_,_,HV,Il,Im,_⟩:=Hy.mk X G ["one","other"] λ_ _ _ _ _ _ us hl=>by obtain⟨z0,z1,rfl⟩:=L3.len_2 hl;rfl
  obtain⟨_,_,HC,Ie,Ig,_⟩:=GX.mk X G ["one","other"] λ_ _ _ _ _ _ us hl=>by obtain⟨z0,z1,rfl⟩:=L3.len_2 hl;rfl
  obtain⟨_,_,HW,Io,Ip,_⟩:=Hz.mk X G ["one","other"] λ_ _ _ _ _ _ us hl=>by obtain⟨z0,z1,rfl⟩:=L3.len_2 hl;rfl
  obtain⟨_,_,HX,Iq,Ir,_⟩:=HA.mk X G ["one","other"] λ_ _ _ _ _ _ us hl=>by obtain⟨z0,z1,rfl⟩:=L3.len_2 hl;rfl
  obtain⟨_,_,Gu,HD,HE,_⟩:=Ft.mk X G ["pairs"] λ_ _ _ _ _ _ us hl=>by obtain⟨z0,rfl⟩:=L3.len_1 hl;rfl
  obtain⟨_,_,HF,Ih,Ii,_⟩:=GY.mk X G ["parts"] λ_ _ _ _ _ _ us hl=>by obtain⟨z0,rfl⟩:=L3.len_1 hl;rfl
  obtain⟨_,_,El,Fx,Fy,_⟩:=DH.mk X G ["beats"] λ_ _ _ _ _ _ us hl=>by obtain⟨z0,rfl⟩:=L3.len_1 hl;rfl
  obtain⟨_,_,Hi,HS,HU,_⟩:=Gh.mk X G ["paper","stand"] λ_ _ _ _ _ _ us hl=>by obtain⟨z0,z1,rfl⟩:=L3.len_2 hl;rfl
  obtain⟨_,_,HG,Ij,Ik,_⟩:=GZ.mk X G ["flow"] λ_ _ _ _ _ _ us hl=>by obtain⟨z0,rfl⟩:=L3.len_1 hl;rfl
  obtain⟨_,_,FQ,Hn,Ho,_⟩:=EX.mk X G ["flow","k"] λ_ _ _ _ _ _ us hl=>by obtain⟨z0,z1,rfl⟩:=L3.len_2 hl;rfl
  obtain⟨_,_,HY,Iu,Iv,_⟩:=HB.mk X G ["flow"] λ_ _ _ _ _ _ us hl=>by obtain⟨z0,rfl⟩:=L3.len_1 hl;rfl
  obtain⟨_,_,Gv,HH,HI,_⟩:=Fu.mk X G ["way"] λ_ _ _ _ _ _ us hl=>by obtain⟨z0,rfl⟩:=L3.len_1 hl;rfl
  obtain⟨_,_,FR,Hq,Hr,_⟩:=EY.mk X G ["weighed","works"] λ_ _ _ _ _ _ us hl=>by obtain⟨z0,z1,rfl⟩:=L3.len_2 hl;rfl
  obtain⟨_,_,FT,Hs,Ht,_⟩:=EZ.mk X G ["counts","works"] λ_ _ _ _ _ _ us hl=>by obtain⟨z0,z1,rfl⟩:=L3.len_2 hl;rfl
  obtain⟨_,_,Gw,HJ,HK,_⟩:=Fv.mk X G ["beats"] λ_ _ _ _ _ _ us hl=>by obtain⟨z0,rfl⟩:=L3.len_1 hl;rfl
  obtain⟨_,_,Gx,HL,HM,_⟩:=Fw.mk X G ["flow","hands"] λ_ _ _ _ _ _ us hl=>by obtain⟨z0,z1,rfl⟩:=L3.len_2 hl;rfl
  obtain⟨_,_,Ff,Gy,Gz,_⟩:=Ed.mk X G ["beats","hands","most"] λ_ _ _ _ _ _ us hl=>by obtain⟨z0,z1,z2,rfl⟩:=L3.len_3 hl;rfl
  obtain⟨_,_,Fh,GA,GB,_⟩:=Ee.mk X G ["paper","stand"] λ_ _ _ _ _ _ us hl=>by obtain⟨z0,z1,rfl⟩:=L3.len_2 hl;rfl
  obtain⟨_,_,FA,GS,Ha,_⟩:=ED.mk X G ["_law_script"] λ_ _ _ _ _ _ us hl=>by obtain⟨z0,rfl⟩:=L3.len_1 hl;rfl
  obtain⟨_,_,FC,GT,Hd,_⟩:=EF.mk X G ["_law_feed_here","_law_many"] λ_ _ _ _ _ _ us hl=>by obtain⟨z0,z1,rfl⟩:=L3.len_2 hl;rfl
  obtain⟨_,_,FD,GU,He,_⟩:=EG.mk X G ["_law_top","_law_bottom"] λ_ _ _ _ _ _ us hl=>by obtain⟨z0,z1,rfl⟩:=L3.len_2 hl;rfl
  obtain⟨_,_,Fj,Gp,GC,_⟩:=Eh.mk X G ["_law_feed_here","_law_hands"] λ_ _ _ _ _ _ us hl=>by obtain⟨z0,z1,rfl⟩:=L3.len_2 hl;rfl
  obtain⟨_,_,Fk,Gq,GE,_⟩:=Ej.mk X G ["_law_beats_here"] λ_ _ _ _ _ _ us hl=>by obtain⟨z0,rfl⟩:=L3.len_1 hl;rfl
  obtain⟨_,_,Fm,Gr,GG,_⟩:=Ek.mk X G ["_law_beats_here","_law_hands","_law_heights"] λ_ _ _ _ _ _ us hl=>by obtain⟨z0,z1,z2,rfl⟩:=L3.len_3 hl;rfl
  obtain⟨_,_,Eu,FN,FO,_⟩:=DK.mk X G ["_law_thing"] λ_ _ _ _ _ _ us hl=>by obtain⟨z0,rfl⟩:=L3.len_1 hl;rfl
  obtain⟨_,_,En,Fs,FE,_⟩:=DI.mk X G ["_law_beats_here","_law_hands","_law_most","_law_thing"] λ_ _ _ _ _ _ us hl=>by obtain⟨z0,z1,z2,z3,rfl⟩:=L3.len_4 hl;rfl
  obtain⟨_,_,FF,GV,Hf,_⟩:=EH.mk X G ["_law_beats_here","_law_hands"] λ_ _ _ _ _ _ us hl=>by obtain⟨z0,z1,rfl⟩:=L3.len_2 hl;rfl
  obtain⟨_,_,FG,GW,Hg,_⟩:=EI.mk X G ["_law_beats_here","_law_hands","_law_most"] λ_ _ _ _ _ _ us hl=>by obtain⟨z0,z1,z2,rfl⟩:=L3.len_3 hl;rfl
  obtain⟨_,_,FU,Hk,Hu,_⟩:=Fe.mk X G ["_law_feed_here","_law_beats_here","_law_most"] λ_ _ _ _ _ _ us hl=>by obtain⟨z0,z1,z2,rfl⟩:=L3.len_3 hl;rfl
  obtain⟨_,_,DJ,EC,EJ,_⟩:=Dw.mk X G ["_law_paper","_law_stand"] λ_ _ _ _ _ _ us hl=>by obtain⟨z0,z1,rfl⟩:=L3.len_2 hl;rfl
  have Flaw:=fun_mk (st:=Dk) llaw claw klaw;have blaw:=Flaw.binds (ps:=["_law_script"]) λ_ _ _ _ _ _ us hl=>by obtain⟨z0,rfl⟩:=L3.len_1 hl;rfl
  have mlaw:=JY X G alaw;refine⟨PySem.W.fnOf "law" "law" (defArgs Dk) (defBody Dk) (defScope Dk) .none kVlaw dclaw pmlaw anlaw cdlaw ctlaw,λs v=>.of_eq rfl,λbase _ _ BM hC=>?_⟩;have Dz:=L3.cal l.prog w base (EL DT T ) Fp DT Fq;have Dn:=L3.cal l.prog w base (Gi FP T Dz) Hl FP Hm;have GN:=L3.cal l.prog w base (HN HV T Dn) Il HV Im;have Ga:=L3.cal l.prog w base (Hv HC T Dn) Ie HC Ig;have GR:=L3.cal l.prog w base (HP HW T Dn) Io HW Ip;have FZ:=L3.cal l.prog w base (HQ HX T ) Iq HX Ir;have EO:=L3.cal l.prog w base (GM Gu T Dn) HD Gu HE;have FY:=L3.cal l.prog w base (Hw HF T GN) Ih HF Ii;have DA:=L3.cal l.prog w base (EN El T ) Fx El Fy;have DN:=L3.cal l.prog w base (Hj Hi T FY) HS Hi HU;have Er:=L3.cal l.prog w base (Hx HG T ) Ij HG Ik;have EB:=L3.cal l.prog w base (Gj FQ T Dn Er) Hn FQ Ho;have ES:=L3.cal l.prog w base (HR HY T EO) Iu HY Iv;have ER:=L3.cal l.prog w base (GO Gv T ) HH Gv HI;have EA:=L3.cal l.prog w base (Gk FR T ) Hq FR Hr;have Di:=L3.cal l.prog w base (Gm FT T Er EA) Hs FT Ht;have ET:=L3.cal l.prog w base (GP Gw T ER) HJ Gw HK;have EU:=L3.cal l.prog w base (GQ Gx T ES FZ EB) HL Gx HM;have DR:CalleeX l.prog w K mg base "back_paper" 6 ["beats","hands","most"] (spX K mg 3 Dt):=⟨_,_,FH Ff T ET EU DA Ga ES,Gy,Ff.kp,Gz⟩;have DS:=L3.cal l.prog w base (FJ Fh T GR DN) GA Fh GB;have Gs:=L3.cal l.prog w base (Gb FA) GS FA Ha;have Da:=L3.cal l.prog w base (Gc FC T ) GT FC Hd;have Dl:=L3.cal l.prog w base (Ge FD T ) GU FD He;have Df:=L3.cal l.prog w base (FK Fj T Da) Gp Fj GC;have Dm:=L3.cal l.prog w base (FL Fk T ) Gq Fk GE;have De:=L3.cal l.prog w base (FM Fm T Dl Dm) Gr Fm GG;have Dx:=L3.cal l.prog w base (Fo Eu T Dl) FN Eu FO;have Dd:=L3.cal l.prog w base (EV En T Dx Dm De) Fs En FE;have Dg:=L3.cal l.prog w base (Gf FF T Dm) GV FF Hf;have Dh:=L3.cal l.prog w base (Gg FG T DR) GW FG Hg;have Dj:=L3.cal l.prog w base (Gn FU T Da Dm Dl) Hk FU Hu;have Dc:=L3.cal l.prog w base (DZ DJ T DN Dl DS) EC DJ EJ;exact HZ Flaw T Gs Da Df Di Dg Dj Dc Dh De Dd (λns _=>fin ns)
def walk {l:PySem.W.OpenLaw}{q:Oh}{loose:List Str}{XP:(Str->Option Oe)->Oq->Prop}{YP:Oi->Oq->Prop}{d:DefRec}{K:Params->PySem.W.Frag}(hn:l.most=some 63)(hdf:d.params.defaults=[])
  (hrec:(([]:List Str).all λx=>((PyProof.Rows.recsOf q).find? λe=>e.name == x).isSome)=true) (hnt:∀w:Oi,PySem.W.noTabs (K w.params)=true)
  (hY:∀(w:Oi) (h:Oq),YP w h->(K w.params).In h)
  (F:∀(w:Oi) (mg:Str->Option Oe) (fa:Of) (h:Oq),(K w.params).In h->h.Ns OA mg->mg d.name=some (.ref fa) ->
   ∃fd:Om,(∀(s:Og) (u:Oe),BindsTo s fd ⟨[u],[]⟩ [("_law_script",u)])/\∀base:Oq,(K w.params).In base->base.Ns OA mg->BMd base mg->(∀t∈L3.tabsK ([]:List Str) (K w.params),PySem.W.CodeHd base t.2.1 t.2.2)->FnOk l.prog w (K w.params) mg base CX0 8 fa fd ["_law_script"] (spLaw<|K w.params)) :
  PySem.W.WalkO q loose XP YP l.row.toRowW d [] (λf vs=>PySem.call f vs) :=
 L3.walk_ofT ([]:List Str) (n:=63) (k:=8) (x:="_law_script") (CX:=λ_=>CX0) (sp:=λw=>spLaw<|K w.params) hn (by decide) hdf ⟨rfl,by decide,by decide,rfl⟩ hrec hnt hY F (λ_ _ a ns hl hS hT=>⟨a,ns,rfl,hS,hl,hT,λ_=>rfl⟩) λ_ _ _ _ _ z=>z
end K67
open PySem PySem.W PyProof.Rows
set_option maxRecDepth 100000 in
set_option maxHeartbeats 0 in
theorem PySem.Challenge.cw_hatchwaits_k67_back_papers_told_or_words_holds : PySem.Challenge.rw_hatchwaits_k67_back_papers_told_or_words.Holds := by
 w_on;o_law;k_head;(case hw=>w_witness2);k_fill;refine K67.walk (l:=PySem.Challenge.rw_hatchwaits_k67_back_papers_told_or_words) rfl rfl (by first | rfl | kernel_rfl) (by intro w;first | kernel_rfl | with_unfolding_all rfl) (λw h Y=>PySem.W.kIn_of Y) ?F;case F =>
  intro w mg fa h KX G hmg
  refine' K67.all_mk KX G hmg ?alaw ?llaw ?claw ?klaw ?DB ?EW ?Hy ?GX ?Hz ?HA ?Ft ?GY ?DH ?Gh ?GZ ?EX ?HB ?Fu ?EY ?EZ ?Fv ?Fw ?Ed ?Ee ?ED ?EF ?EG ?Eh ?Ej ?Ek ?DK ?DI ?EH ?EI ?Fe ?Dw ?zValueError ?zabs ?zbool ?zenumerate ?zint ?zisinstance ?zlen ?zlist ?zmax ?zmin ?zrange ?zrepr ?zsorted ?zsum ?ztuple ?ga_NOUGHT ?gl_NOUGHT ?gq_NOUGHT ?ga_ONE ?gl_ONE ?gq_ONE ?aE_WaitError ?aE_NoRest ?aE_NoBeat ?aE_NoComer ?aE_NoHouse ?aE_NoPaper ?aE_NoRow ?aE_NoText ?aE_TooMany ?obj_NoRest ?tp_NoRest ?in_NoRest ?fn_NoRest ?ca_NoRest ?ty_NoRest ?kp_NoRest ?di_NoRest ?sa_NoRest ?li_NoRest ?ci_NoRest ?ga_NoRest_ ?gn_NoRest ?mb_NoRest ?mo_NoRest ?cc_NoRest ?cg_NoRest ?ct_NoRest ?sb_NoRest ?ko_NoRest ?ne_NoRest ?ve_NoRest ?st_NoRest ?na_NoRest_word ?hnd0
  (case alaw=>k_is)
  (case llaw=>k_is)
  (case claw=>k_is)
  (case klaw=>k_is)
  (case DB=>exact .of (by k_is) (by k_is) (by k_is)<|by k_is)
  (case EW=>exact .of (by k_is) (by k_is) (by k_is)<|by k_is)
  (case Hy=>exact .of (by k_is) (by k_is) (by k_is)<|by k_is)
  (case GX=>exact .of (by k_is) (by k_is) (by k_is)<|by k_is)
  (case Hz=>exact .of (by k_is) (by k_is) (by k_is)<|by k_is)
  (case HA=>exact .of (by k_is) (by k_is) (by k_is)<|by k_is)
  (case Ft=>exact .of (by k_is) (by k_is) (by k_is)<|by k_is)
  (case GY=>exact .of (by k_is) (by k_is) (by k_is)<|by k_is)
  (case DH=>exact .of (by k_is) (by k_is) (by k_is)<|by k_is)
  (case Gh=>exact .of (by k_is) (by k_is) (by k_is)<|by k_is)
  (case GZ=>exact .of (by k_is) (by k_is) (by k_is)<|by k_is)
  (case EX=>exact .of (by k_is) (by k_is) (by k_is)<|by k_is)
  (case HB=>exact .of (by k_is) (by k_is) (by k_is)<|by k_is)
  (case Fu=>exact .of (by k_is) (by k_is) (by k_is)<|by k_is)
  (case EY=>exact .of (by k_is) (by k_is) (by k_is)<|by k_is)
  (case EZ=>exact .of (by k_is) (by k_is) (by k_is)<|by k_is)
  (case Fv=>exact .of (by k_is) (by k_is) (by k_is)<|by k_is)
  (case Fw=>exact .of (by k_is) (by k_is) (by k_is)<|by k_is)
  (case Ed=>exact .of (by k_is) (by k_is) (by k_is)<|by k_is)
  (case Ee=>exact .of (by k_is) (by k_is) (by k_is)<|by k_is)
  (case ED=>exact .of (by k_is) (by k_is) (by k_is)<|by k_is)
  (case EF=>exact .of (by k_is) (by k_is) (by k_is)<|by k_is)
  (case EG=>exact .of (by k_is) (by k_is) (by k_is)<|by k_is)
  (case Eh=>exact .of (by k_is) (by k_is) (by k_is)<|by k_is)
  (case Ej=>exact .of (by k_is) (by k_is) (by k_is)<|by k_is)
  (case Ek=>exact .of (by k_is) (by k_is) (by k_is)<|by k_is)
  (case DK=>exact .of (by k_is) (by k_is) (by k_is)<|by k_is)
  (case DI=>exact .of (by k_is) (by k_is) (by k_is)<|by k_is)
  (case EH=>exact .of (by k_is) (by k_is) (by k_is)<|by k_is)
  (case EI=>exact .of (by k_is) (by k_is) (by k_is)<|by k_is)
  (case Fe=>exact .of (by k_is) (by k_is) (by k_is)<|by k_is)
  (case Dw=>exact .of (by k_is) (by k_is) (by k_is)<|by k_is)
  (case zValueError=>k_is)
  (case zabs=>k_is)
  (case zbool=>k_is)
  (case zenumerate=>k_is)
  (case zint=>k_is)
  (case zisinstance=>k_is)
  (case zlen=>k_is)
  (case zlist=>k_is)
  (case zmax=>k_is)
  (case zmin=>k_is)
  (case zrange=>k_is)
  (case zrepr=>k_is)
  (case zsorted=>k_is)
  (case zsum=>k_is)
  (case ztuple=>k_is)
  (case ga_NOUGHT=>k_is)
  (case gl_NOUGHT=>k_is)
  (case gq_NOUGHT=>first | rfl | k_is | with_unfolding_all rfl)
  (case ga_ONE=>k_is)
  (case gl_ONE=>k_is)
  (case gq_ONE=>first | rfl | k_is | with_unfolding_all rfl)
  (case aE_WaitError=>k_is)
  (case aE_NoRest=>k_is)
  (case aE_NoBeat=>k_is)
  (case aE_NoComer=>k_is)
  (case aE_NoHouse=>k_is)
  (case aE_NoPaper=>k_is)
  (case aE_NoRow=>k_is)
  (case aE_NoText=>k_is)
  (case aE_TooMany=>k_is)
  (case obj_NoRest=>k_is)
  (case tp_NoRest=>k_exc)
  (case in_NoRest=>k_is)
  (case fn_NoRest=>k_is)
  (case ca_NoRest=>k_is)
  (case ty_NoRest=>k_is)
  (case kp_NoRest=>k_is)
  (case di_NoRest=>k_is)
  (case sa_NoRest=>k_is)
  (case li_NoRest=>k_is)
  (case ci_NoRest=>k_is)
  (case ga_NoRest_=>k_is)
  (case gn_NoRest=>k_is)
  (case mb_NoRest=>k_is)
  (case mo_NoRest=>k_is)
  (case cc_NoRest=>k_is)
  (case cg_NoRest=>k_is)
  (case ct_NoRest=>k_is)
  (case sb_NoRest=>k_is)
  (case ko_NoRest=>kit_is)
  (case ne_NoRest=>first | rfl | decide)
  (case ve_NoRest=>kit_is)
  (case st_NoRest=>kit_is)
  (case na_NoRest_word=>k_is)
  (case hnd0=>first | kernel_rfl | with_unfolding_all rfl)
