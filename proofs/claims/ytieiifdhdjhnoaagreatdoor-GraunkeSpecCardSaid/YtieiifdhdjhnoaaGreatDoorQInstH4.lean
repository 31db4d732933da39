import Derived.Test.YtieiifdhdjhnoaaGreatDoorQInstH1
set_option linter.unusedVariables false
set_option maxHeartbeats 40000000
set_option maxRecDepth 100000
open Go.Value renaming int->I
open Go.IntKind renaming i64->Q
open Option renaming none->N,some->O
open Bool renaming false->Z
open Go.Lib renaming hid->V
namespace Go.Proofs.YtieiifdhdjhnoaaGreatDoor
open Go.ChangeShapes Go.WideShapes Go.ChangeAt Go.RowKit
theorem Hc {w y2:World}{B5 gr m4 rc:Nat}{rs ns:List Int}{op kk:Int}{F:aU}(hsw:Sw w y2 B5 ⟨op,0,0,0,0,0,kk,0⟩)(hkk:0<=kk/\kk<4294967296)(hgr5:gr≠B5)
 (r0:y2.cell? ⟨gr,0,N⟩=O (I Q (aD rs 0))) (r1:y2.cell? ⟨gr,1,N⟩=O (I Q (aD rs 1))) (r2:y2.cell? ⟨gr,2,N⟩=O (I Q (aD rs 2))) (r3:y2.cell? ⟨gr,3,N⟩=O (I Q (aD rs 3))) (h44:4<=m4)
 (hdr:F=db op rs ns kk) (hop:op=8\/op=9\/op=10\/op=23\/(op≠1/\op≠2/\op≠3/\op≠4/\op≠5/\op≠6/\op≠7/\op≠8/\op≠9/\op≠10/\op≠11/\op≠12/\op≠13/\op≠16/\op≠17/\op≠18/\op≠19/\op≠20/\op≠21/\op≠22/\op≠23))
 {u0 u1 u2 u3 u4 u6 u8 u9 u10 u11 u12 u15 u16 u17 u18 u19 u20 u21 u22 u23 u24 u25 u26 u27 u28 u29 u30 u31 u32 u33 u34 u35 u36 u37 u38 u39 u40 u41 u42 u43 u44 u45 u46 u47 u48 u49 u50 u51 u52 u53 u54 u55 u56 u57 u58 u59 u60 u61 u62 u63 u64 u65 u66 u67 u68 u69 u70 u71 u72 u73 u74 u75 u76 u77 u78 u79 u80 u81 u82 u83 u84 u85 u86 u87 u89 u90 u91 u92 u93 u94 u95 u96 u97 u98 u99 u100 u101 u102 u103 u104 u105 u106 u107 u108 u109 u110 u111 u112 u113 u114 u115 u116 u117 u118 u119 u120 u121 u122 u123 u124 u125 u126 u127 u128 u129 u130 u131 u132 u133 u134 u135 u136 u137 u138 u139 u140 u141 u142 u143 u144 u145 u146 u147 u148 u149 u150 u151 u152 u153 u154 u155 u156 u157 u158 u159 u160 u161 u162 u163 u164 u165 u166 u167 u168 u169 u170 u171 u172 u173 u174 u175 u176 u177 u178 u179 u180 u181 u182 u183 u184 u185 u186 u187 u188 u189 u190 u191 u192 u193 u194 u195 u196 u197 u198 u199 u200 u201 u202 u203 u204 u205 u206 u207 u208 u209 u210 u211 u212 u213 u214 u215:Value} {Q':Exit->Act->World->Prop} {J K:Act->World->Prop}
 (h1:∀ (a':Act) (w':World),(∃ v81 v82 v83 v84 v85 v86 v87 v88 v89 v90 v91 v92 v93 v94 v95 v96 v97 v98 v99 v100 v101 v102 v103 v104 v105 v106 v107 v108 v109 v110 v111 v112 v113 v114 v115 v116 v117 v118 v119 v120 v121 v122 v123 v124 v125 v126 v127 v128 v129 v130 v131 v132 v133 v134 v135 v136 v137 v138 v139 v140 v141 v142 v143 v144 v145 v146 v147 v148 v149 v150 v151 v152 v153 v154 v155 v156 v157 v158 v159 v160 v161 v162 v163 v164 v165 v166 v167 v168 v169 v170 v171 v172 v173 v174 v175 v176 v177 v178 v179 v180 v181 v182 v183 v184 v185 v186 v187 v188 v189 v190 v191 v192 v193 v194 v195 v196 v197 v198 v199 v200 v201 v202 v203 v204,(Sw w w' B5 F/\0<=F.k/\F.k<4294967296)/\a'=⟨#[u0,u1,u2,u3,u4,.pointer (O ⟨B5,0,N⟩),u6,.slice (O ⟨gr,0,N⟩) m4 rc,u8,u9,u10,u11,u12,I Q (aD ns 0),I Q (aD ns 1),u15,u16,u17,u18,u19,u20,u21,u22,u23,u24,u25,u26,u27,u28,u29,u30,u31,u32,u33,u34,u35,u36,u37,u38,u39,u40,u41,u42,u43,u44,u45,u46,u47,u48,u49,u50,u51,u52,u53,u54,u55,u56,u57,u58,u59,u60,u61,u62,u63,u64,u65,u66,u67,u68,u69,u70,u71,u72,u73,u74,u75,u76,u77,u78,u79,u80,v81,v82,v83,v84,v85,v86,v87,v88,v89,v90,v91,v92,v93,v94,v95,v96,v97,v98,v99,v100,v101,v102,v103,v104,v105,v106,v107,v108,v109,v110,v111,v112,v113,v114,v115,v116,v117,v118,v119,v120,v121,v122,v123,v124,v125,v126,v127,v128,v129,v130,v131,v132,v133,v134,v135,v136,v137,v138,v139,v140,v141,v142,v143,v144,v145,v146,v147,v148,v149,v150,v151,v152,v153,v154,v155,v156,v157,v158,v159,v160,v161,v162,v163,v164,v165,v166,v167,v168,v169,v170,v171,v172,v173,v174,v175,v176,v177,v178,v179,v180,v181,v182,v183,v184,v185,v186,v187,v188,v189,v190,v191,v192,v193,v194,v195,v196,v197,v198,v199,v200,v201,v202,v203,v204,u205,u206,u207,u208,u209,u210,u211,u212,u213,u214,u215],[]⟩)->J a' w') (h2:∀ (a':Act) (w':World),Met J a' w'->K a' w'):
 (((Tryz.f103.body).bind (cN 8)).getD .skip).wp Tryz.prog (Exit.then K Q') ⟨#[u0,u1,u2,u3,u4,.pointer (O ⟨B5,0,N⟩),u6,.slice (O ⟨gr,0,N⟩) m4 rc,u8,u9,u10,u11,u12,I Q (aD ns 0),I Q (aD ns 1),u15,u16,u17,u18,u19,u20,u21,u22,u23,u24,u25,u26,u27,u28,u29,u30,u31,u32,u33,u34,u35,u36,u37,u38,u39,u40,u41,u42,u43,u44,u45,u46,u47,u48,u49,u50,u51,u52,u53,u54,u55,u56,u57,u58,u59,u60,u61,u62,u63,u64,u65,u66,u67,u68,u69,u70,u71,u72,u73,u74,u75,u76,u77,u78,u79,u80,u81,u82,u83,u84,u85,u86,u87,I Q op,u89,u90,u91,u92,u93,u94,u95,u96,u97,u98,u99,u100,u101,u102,u103,u104,u105,u106,u107,u108,u109,u110,u111,u112,u113,u114,u115,u116,u117,u118,u119,u120,u121,u122,u123,u124,u125,u126,u127,u128,u129,u130,u131,u132,u133,u134,u135,u136,u137,u138,u139,u140,u141,u142,u143,u144,u145,u146,u147,u148,u149,u150,u151,u152,u153,u154,u155,u156,u157,u158,u159,u160,u161,u162,u163,u164,u165,u166,u167,u168,u169,u170,u171,u172,u173,u174,u175,u176,u177,u178,u179,u180,u181,u182,u183,u184,u185,u186,u187,u188,u189,u190,u191,u192,u193,u194,u195,u196,u197,u198,u199,u200,u201,u202,u203,u204,u205,u206,u207,u208,u209,u210,u211,u212,u213,u214,u215],[]⟩ y2:=by
 have hc:((Tryz.f103.body).bind (cN 8))=O _:=rfl
 rw[hc]
 clear hc
 simp only[Option.getD_some]
 have HDR:=V hdr
 clear hdr
 have j0:(0:Int)<(m4:Int):=by omega
 have j1:(1:Int)<(m4:Int):=by omega
 have j2:(2:Int)<(m4:Int):=by omega
 have j3:(3:Int)<(m4:Int):=by omega
 have n0:0<m4:=by omega
 have n1:1<m4:=by omega
 have n2:2<m4:=by omega
 have n3:3<m4:=by omega
 have hoff:∀ (W:World) (u:Value) (i j:Nat),(W.setCell ⟨B5,i,N⟩ u).cell? ⟨gr,j,N⟩=W.cell? ⟨gr,j,N⟩:=fun W u i j=>fI hgr5
 obtain⟨c0,c1,c2,c3,c4,c5,c6,c7⟩:=hsw.ins.cells
 simp only at c0 c1 c2 c3 c4 c5 c6 c7
 have hfI:=Bk.free hsw.ins
 rcases hop with rfl|rfl|rfl|rfl | hn
 ·skip
  have hD:F=⟨8,0,aD rs 0,aD rs 1,0,0,kk,aD ns 0⟩:=HDR.out.trans (by simp[db])
  have HD:=V hD
  clear hD
  go_wp2
  go_region_held3 (fun w'=>w'.cell? ⟨gr,0,N⟩=O (I Q (aD rs 0))/\w'.cell? ⟨gr,1,N⟩=O (I Q (aD rs 1))) (go_keep) ((fail))
  go_wp2
  go_meet
  case rel=>exact⟨by rw[HD.out];exact((((hsw.jI _).dF _).nB _).drew),by rw[HD.out];first | exact hkk.1 | exact Int.emod_nonneg _ (by decide),by rw[HD.out];first | exact hkk.2 | exact Int.emod_lt_of_pos _ (by decide)⟩
 ·skip
  have hD:F=⟨9,0,aD rs 0,aD rs 1,0,0,kk,aD ns 0⟩:=HDR.out.trans (by simp[db])
  have HD:=V hD
  clear hD
  go_wp2
  go_region_held3 (fun w'=>w'.cell? ⟨gr,0,N⟩=O (I Q (aD rs 0))/\w'.cell? ⟨gr,1,N⟩=O (I Q (aD rs 1))) (go_keep) ((fail))
  go_wp2
  go_meet
  case rel=>exact⟨by rw[HD.out];exact((((hsw.jI _).dF _).nB _).drew),by rw[HD.out];first | exact hkk.1 | exact Int.emod_nonneg _ (by decide),by rw[HD.out];first | exact hkk.2 | exact Int.emod_lt_of_pos _ (by decide)⟩
 ·skip
  have hD:F=⟨10,0,aD rs 0,aD rs 1,0,0,kk,aD ns 0⟩:=HDR.out.trans (by simp[db])
  have HD:=V hD
  clear hD
  go_wp2
  go_region_held3 (fun w'=>w'.cell? ⟨gr,0,N⟩=O (I Q (aD rs 0))/\w'.cell? ⟨gr,1,N⟩=O (I Q (aD rs 1))) (go_keep) ((fail))
  go_wp2
  go_meet
  case rel=>exact⟨by rw[HD.out];exact((((hsw.jI _).dF _).nB _).drew),by rw[HD.out];first | exact hkk.1 | exact Int.emod_nonneg _ (by decide),by rw[HD.out];first | exact hkk.2 | exact Int.emod_lt_of_pos _ (by decide)⟩
 ·skip
  have hD:F=⟨23,0,aD rs 0,0,0,0,kk,0⟩:=HDR.out.trans (by simp[db])
  have HD:=V hD
  clear hD
  go_wp2
  go_meet
  case rel=>exact⟨by rw[HD.out];exact(hsw.jI _),by rw[HD.out];first | exact hkk.1 | exact Int.emod_nonneg _ (by decide),by rw[HD.out];first | exact hkk.2 | exact Int.emod_lt_of_pos _ (by decide)⟩
 ·skip
  have hD:F=⟨op,0,0,0,0,0,kk,0⟩:=HDR.out.trans (by unfold db;simp[hn])
  have HD:=V hD
  clear hD
  obtain⟨x1,x2,x3,x4,x5,x6,x7,x8,x9,x10,x11,x12,x13,x16,x17,x18,x19,x20,x21,x22,x23⟩:=hn
  have e1:(op==1)=Z:=by simpa using x1
  have e2:(op==2)=Z:=by simpa using x2
  have e3:(op==3)=Z:=by simpa using x3
  have e4:(op==4)=Z:=by simpa using x4
  have e5:(op==5)=Z:=by simpa using x5
  have e6:(op==6)=Z:=by simpa using x6
  have e7:(op==7)=Z:=by simpa using x7
  have e8:(op==8)=Z:=by simpa using x8
  have e9:(op==9)=Z:=by simpa using x9
  have e10:(op==10)=Z:=by simpa using x10
  have e11:(op==11)=Z:=by simpa using x11
  have e12:(op==12)=Z:=by simpa using x12
  have e13:(op==13)=Z:=by simpa using x13
  have e16:(op==16)=Z:=by simpa using x16
  have e17:(op==17)=Z:=by simpa using x17
  have e18:(op==18)=Z:=by simpa using x18
  have e19:(op==19)=Z:=by simpa using x19
  have e20:(op==20)=Z:=by simpa using x20
  have e21:(op==21)=Z:=by simpa using x21
  have e22:(op==22)=Z:=by simpa using x22
  have e23:(op==23)=Z:=by simpa using x23
  clear x1 x2 x3 x4 x5 x6 x7 x8 x9 x10 x11 x12 x13 x16 x17 x18 x19 x20 x21 x22 x23
  go_wp2
  go_meet
  case rel=>exact⟨by rw[HD.out];exact hsw,by rw[HD.out];exact hkk.1,by rw[HD.out];exact hkk.2⟩
