/- InstH2, InstH3, InstH4, InstH5, InstH6, TkD, AsmC, AsmW. -/
import Derived.Test.YthdgehcghklflaaGreatDoorKAsmM
import Derived.Test.YthdgehcghklflaaGreatDoorKInstA
import Derived.Deep.CutBlock
/- The switch of the document's Parse, for some ops. -/
namespace Go.Proofs.YthdgehcghklflaaGreatDoor
open Go.ChangeShapes Go.WideShapes Go.ChangeAt Go.RowKit
set_option linter.unusedVariables false

set_option maxHeartbeats 40000000 in
set_option maxRecDepth 100000 in
theorem sw1 {w y2 : World} {B5 gr m4 rc : Nat} {rs ns : List Int} {op kk : Int} {F : Ins} (hsw : Sw w y2 B5 ⟨op, 0, 0, 0, 0, 0, kk, 0⟩) (hkk : 0 ≤ kk ∧ kk < 4294967296) (hgr5 : gr ≠ B5)
    (r0 : y2.cell? ⟨gr, 0, none⟩ = some (.int .i64 (nth rs 0))) (r1 : y2.cell? ⟨gr, 1, none⟩ = some (.int .i64 (nth rs 1))) (r2 : y2.cell? ⟨gr, 2, none⟩ = some (.int .i64 (nth rs 2))) (r3 : y2.cell? ⟨gr, 3, none⟩ = some (.int .i64 (nth rs 3))) (h44 : 4 ≤ m4)
    (hdr : F = finI op rs ns kk) (hop : op = 1 ∨ op = 2 ∨ op = 3 ∨ op = 4 ∨ op = 5)
    {u0 u1 u2 u3 u4 u6 u8 u9 u10 u11 u12 u15 u16 u17 u18 u19 u20 u21 u22 u23 u24 u25 u26 u27 u28 u29 u30 u31 u32 u33 u34 u35 u36 u37 u38 u39 u40 u41 u42 u43 u44 u45 u46 u47 u48 u49 u50 u51 u52 u53 u54 u55 u56 u57 u58 u59 u60 u61 u62 u63 u64 u65 u66 u67 u68 u69 u70 u71 u72 u73 u74 u75 u76 u77 u78 u79 u80 u81 u82 u83 u84 u85 u86 u87 u89 u90 u91 u92 u93 u94 u95 u96 u97 u98 u99 u100 u101 u102 u103 u104 u105 u106 u107 u108 u109 u110 u111 u112 u113 u114 u115 u116 u117 u118 u119 u120 u121 u122 u123 u124 u125 u126 u127 u128 u129 u130 u131 u132 u133 u134 u135 u136 u137 u138 u139 u140 u141 u142 u143 u144 u145 u146 u147 u148 u149 u150 u151 u152 u153 u154 u155 u156 u157 u158 u159 u160 u161 u162 u163 u164 u165 u166 u167 u168 u169 u170 u171 u172 u173 u174 u175 u176 u177 u178 u179 u180 u181 u182 u183 u184 u185 u186 u187 u188 u189 u190 u191 u192 u193 u194 u195 u196 u197 u198 u199 u200 u201 u202 u203 u204 u205 u206 u207 u208 u209 u210 u211 u212 u213 u214 u215 : Value} {Q' : Exit → Act → World → Prop} {J K : Act → World → Prop}
    (h1 : ∀ (a' : Act) (w' : World), (∃ v81 v82 v83 v84 v85 v86 v87 v88 v89 v90 v91 v92 v93 v94 v95 v96 v97 v98 v99 v100 v101 v102 v103 v104 v105 v106 v107 v108 v109 v110 v111 v112 v113 v114 v115 v116 v117 v118 v119 v120 v121 v122 v123 v124 v125 v126 v127 v128 v129 v130 v131 v132 v133 v134 v135 v136 v137 v138 v139 v140 v141 v142 v143 v144 v145 v146 v147 v148 v149 v150 v151 v152 v153 v154 v155 v156 v157 v158 v159 v160 v161 v162 v163 v164 v165 v166 v167 v168 v169 v170 v171 v172 v173 v174 v175 v176 v177 v178 v179 v180 v181 v182 v183 v184 v185 v186 v187 v188 v189 v190 v191 v192 v193 v194 v195 v196 v197 v198 v199 v200 v201 v202 v203 v204, (Sw w w' B5 F ∧ 0 ≤ F.k ∧ F.k < 4294967296) ∧ a' = ⟨#[u0, u1, u2, u3, u4, .pointer (some ⟨B5, 0, none⟩), u6, .slice (some ⟨gr, 0, none⟩) m4 rc, u8, u9, u10, u11, u12, .int .i64 (nth ns 0), .int .i64 (nth ns 1), u15, u16, u17, u18, u19, u20, u21, u22, u23, u24, u25, u26, u27, u28, u29, u30, u31, u32, u33, u34, u35, u36, u37, u38, u39, u40, u41, u42, u43, u44, u45, u46, u47, u48, u49, u50, u51, u52, u53, u54, u55, u56, u57, u58, u59, u60, u61, u62, u63, u64, u65, u66, u67, u68, u69, u70, u71, u72, u73, u74, u75, u76, u77, u78, u79, u80, v81, v82, v83, v84, v85, v86, v87, v88, v89, v90, v91, v92, v93, v94, v95, v96, v97, v98, v99, v100, v101, v102, v103, v104, v105, v106, v107, v108, v109, v110, v111, v112, v113, v114, v115, v116, v117, v118, v119, v120, v121, v122, v123, v124, v125, v126, v127, v128, v129, v130, v131, v132, v133, v134, v135, v136, v137, v138, v139, v140, v141, v142, v143, v144, v145, v146, v147, v148, v149, v150, v151, v152, v153, v154, v155, v156, v157, v158, v159, v160, v161, v162, v163, v164, v165, v166, v167, v168, v169, v170, v171, v172, v173, v174, v175, v176, v177, v178, v179, v180, v181, v182, v183, v184, v185, v186, v187, v188, v189, v190, v191, v192, v193, v194, v195, v196, v197, v198, v199, v200, v201, v202, v203, v204, u205, u206, u207, u208, u209, u210, u211, u212, u213, u214, u215], []⟩) → J a' w') (h2 : ∀ (a' : Act) (w' : World), Met J a' w' → K a' w') :
    (((Tryz.f102.body).bind (codeFind 8)).getD .skip).wp Tryz.prog (Exit.then K Q') ⟨#[u0, u1, u2, u3, u4, .pointer (some ⟨B5, 0, none⟩), u6, .slice (some ⟨gr, 0, none⟩) m4 rc, u8, u9, u10, u11, u12, .int .i64 (nth ns 0), .int .i64 (nth ns 1), u15, u16, u17, u18, u19, u20, u21, u22, u23, u24, u25, u26, u27, u28, u29, u30, u31, u32, u33, u34, u35, u36, u37, u38, u39, u40, u41, u42, u43, u44, u45, u46, u47, u48, u49, u50, u51, u52, u53, u54, u55, u56, u57, u58, u59, u60, u61, u62, u63, u64, u65, u66, u67, u68, u69, u70, u71, u72, u73, u74, u75, u76, u77, u78, u79, u80, u81, u82, u83, u84, u85, u86, u87, .int .i64 op, u89, u90, u91, u92, u93, u94, u95, u96, u97, u98, u99, u100, u101, u102, u103, u104, u105, u106, u107, u108, u109, u110, u111, u112, u113, u114, u115, u116, u117, u118, u119, u120, u121, u122, u123, u124, u125, u126, u127, u128, u129, u130, u131, u132, u133, u134, u135, u136, u137, u138, u139, u140, u141, u142, u143, u144, u145, u146, u147, u148, u149, u150, u151, u152, u153, u154, u155, u156, u157, u158, u159, u160, u161, u162, u163, u164, u165, u166, u167, u168, u169, u170, u171, u172, u173, u174, u175, u176, u177, u178, u179, u180, u181, u182, u183, u184, u185, u186, u187, u188, u189, u190, u191, u192, u193, u194, u195, u196, u197, u198, u199, u200, u201, u202, u203, u204, u205, u206, u207, u208, u209, u210, u211, u212, u213, u214, u215], []⟩ y2 := by
  have hc : ((Tryz.f102.body).bind (codeFind 8)) = some _ := rfl
  rw [hc]
  clear hc
  simp only [Option.getD_some]
  have HDR := Lib.hid hdr
  clear hdr
  have j0 : (0 : Int) < (m4 : Int) := by omega
  have j1 : (1 : Int) < (m4 : Int) := by omega
  have j2 : (2 : Int) < (m4 : Int) := by omega
  have j3 : (3 : Int) < (m4 : Int) := by omega
  have n0 : 0 < m4 := by omega
  have n1 : 1 < m4 := by omega
  have n2 : 2 < m4 := by omega
  have n3 : 3 < m4 := by omega
  have hoff : ∀ (W : World) (u : Value) (i j : Nat), (W.setCell ⟨B5, i, none⟩ u).cell? ⟨gr, j, none⟩ = W.cell? ⟨gr, j, none⟩ := fun W u i j => cell_off hgr5
  obtain ⟨c0, c1, c2, c3, c4, c5, c6, c7⟩ := hsw.ins.cells
  simp only at c0 c1 c2 c3 c4 c5 c6 c7
  have hfI := Bk.free hsw.ins
  rcases hop with rfl | rfl | rfl | rfl | rfl
  · skip
    have hD : F = ⟨1, nth rs 0, nth rs 1, nth rs 2, 0, 0, nth ns 0 % 4294967296, 0⟩ := HDR.out.trans (by simp [finI])
    have HD := Lib.hid hD
    clear hD
    go_wp2
    go_region_held3 (fun w' => w'.cell? ⟨gr, 0, none⟩ = some (.int .i64 (nth rs 0)) ∧ w'.cell? ⟨gr, 1, none⟩ = some (.int .i64 (nth rs 1)) ∧ w'.cell? ⟨gr, 2, none⟩ = some (.int .i64 (nth rs 2))) (go_keep) ((fail))
    go_wp2
    go_meet
    case rel => exact ⟨by rw [HD.out]; exact (((((hsw.put1 _).put2 _).put3 _).put6 _).drew), by rw [HD.out]; first | exact hkk.1 | exact Int.emod_nonneg _ (by decide), by rw [HD.out]; first | exact hkk.2 | exact Int.emod_lt_of_pos _ (by decide)⟩
  · skip
    have hD : F = ⟨2, nth rs 0, nth rs 1, nth rs 2, 0, 0, kk, 0⟩ := HDR.out.trans (by simp [finI])
    have HD := Lib.hid hD
    clear hD
    go_wp2
    go_region_held3 (fun w' => w'.cell? ⟨gr, 0, none⟩ = some (.int .i64 (nth rs 0)) ∧ w'.cell? ⟨gr, 1, none⟩ = some (.int .i64 (nth rs 1)) ∧ w'.cell? ⟨gr, 2, none⟩ = some (.int .i64 (nth rs 2))) (go_keep) ((fail))
    go_wp2
    go_meet
    case rel => exact ⟨by rw [HD.out]; exact ((((hsw.put1 _).put2 _).put3 _).drew), by rw [HD.out]; first | exact hkk.1 | exact Int.emod_nonneg _ (by decide), by rw [HD.out]; first | exact hkk.2 | exact Int.emod_lt_of_pos _ (by decide)⟩
  · skip
    have hD : F = ⟨3, nth rs 0, nth rs 1, nth rs 2, 0, 0, nth ns 0 % 4294967296, 0⟩ := HDR.out.trans (by simp [finI])
    have HD := Lib.hid hD
    clear hD
    go_wp2
    go_region_held3 (fun w' => w'.cell? ⟨gr, 0, none⟩ = some (.int .i64 (nth rs 0)) ∧ w'.cell? ⟨gr, 1, none⟩ = some (.int .i64 (nth rs 1)) ∧ w'.cell? ⟨gr, 2, none⟩ = some (.int .i64 (nth rs 2))) (go_keep) ((fail))
    go_wp2
    go_meet
    case rel => exact ⟨by rw [HD.out]; exact (((((hsw.put1 _).put2 _).put3 _).put6 _).drew), by rw [HD.out]; first | exact hkk.1 | exact Int.emod_nonneg _ (by decide), by rw [HD.out]; first | exact hkk.2 | exact Int.emod_lt_of_pos _ (by decide)⟩
  · skip
    have hD : F = ⟨4, nth rs 0, nth rs 1, nth rs 2, 0, 0, nth ns 0 % 4294967296, 0⟩ := HDR.out.trans (by simp [finI])
    have HD := Lib.hid hD
    clear hD
    go_wp2
    go_region_held3 (fun w' => w'.cell? ⟨gr, 0, none⟩ = some (.int .i64 (nth rs 0)) ∧ w'.cell? ⟨gr, 1, none⟩ = some (.int .i64 (nth rs 1)) ∧ w'.cell? ⟨gr, 2, none⟩ = some (.int .i64 (nth rs 2))) (go_keep) ((fail))
    go_wp2
    go_meet
    case rel => exact ⟨by rw [HD.out]; exact (((((hsw.put1 _).put2 _).put3 _).put6 _).drew), by rw [HD.out]; first | exact hkk.1 | exact Int.emod_nonneg _ (by decide), by rw [HD.out]; first | exact hkk.2 | exact Int.emod_lt_of_pos _ (by decide)⟩
  · skip
    have hD : F = ⟨5, nth rs 0, nth rs 1, nth rs 2, 0, 0, nth ns 0 % 4294967296, 0⟩ := HDR.out.trans (by simp [finI])
    have HD := Lib.hid hD
    clear hD
    go_wp2
    go_region_held3 (fun w' => w'.cell? ⟨gr, 0, none⟩ = some (.int .i64 (nth rs 0)) ∧ w'.cell? ⟨gr, 1, none⟩ = some (.int .i64 (nth rs 1)) ∧ w'.cell? ⟨gr, 2, none⟩ = some (.int .i64 (nth rs 2))) (go_keep) ((fail))
    go_wp2
    go_meet
    case rel => exact ⟨by rw [HD.out]; exact (((((hsw.put1 _).put2 _).put3 _).put6 _).drew), by rw [HD.out]; first | exact hkk.1 | exact Int.emod_nonneg _ (by decide), by rw [HD.out]; first | exact hkk.2 | exact Int.emod_lt_of_pos _ (by decide)⟩
end Go.Proofs.YthdgehcghklflaaGreatDoor

/- The switch of the document's Parse, for some ops. -/
namespace Go.Proofs.YthdgehcghklflaaGreatDoor
open Go.ChangeShapes Go.WideShapes Go.ChangeAt Go.RowKit
set_option linter.unusedVariables false

set_option maxHeartbeats 40000000 in
set_option maxRecDepth 100000 in
theorem sw2 {w y2 : World} {B5 gr m4 rc : Nat} {rs ns : List Int} {op kk : Int} {F : Ins} (hsw : Sw w y2 B5 ⟨op, 0, 0, 0, 0, 0, kk, 0⟩) (hkk : 0 ≤ kk ∧ kk < 4294967296) (hgr5 : gr ≠ B5)
    (r0 : y2.cell? ⟨gr, 0, none⟩ = some (.int .i64 (nth rs 0))) (r1 : y2.cell? ⟨gr, 1, none⟩ = some (.int .i64 (nth rs 1))) (r2 : y2.cell? ⟨gr, 2, none⟩ = some (.int .i64 (nth rs 2))) (r3 : y2.cell? ⟨gr, 3, none⟩ = some (.int .i64 (nth rs 3))) (h44 : 4 ≤ m4)
    (hdr : F = finI op rs ns kk) (hop : op = 6 ∨ op = 7 ∨ op = 11 ∨ op = 22 ∨ op = 12 ∨ op = 13 ∨ op = 17)
    {u0 u1 u2 u3 u4 u6 u8 u9 u10 u11 u12 u15 u16 u17 u18 u19 u20 u21 u22 u23 u24 u25 u26 u27 u28 u29 u30 u31 u32 u33 u34 u35 u36 u37 u38 u39 u40 u41 u42 u43 u44 u45 u46 u47 u48 u49 u50 u51 u52 u53 u54 u55 u56 u57 u58 u59 u60 u61 u62 u63 u64 u65 u66 u67 u68 u69 u70 u71 u72 u73 u74 u75 u76 u77 u78 u79 u80 u81 u82 u83 u84 u85 u86 u87 u89 u90 u91 u92 u93 u94 u95 u96 u97 u98 u99 u100 u101 u102 u103 u104 u105 u106 u107 u108 u109 u110 u111 u112 u113 u114 u115 u116 u117 u118 u119 u120 u121 u122 u123 u124 u125 u126 u127 u128 u129 u130 u131 u132 u133 u134 u135 u136 u137 u138 u139 u140 u141 u142 u143 u144 u145 u146 u147 u148 u149 u150 u151 u152 u153 u154 u155 u156 u157 u158 u159 u160 u161 u162 u163 u164 u165 u166 u167 u168 u169 u170 u171 u172 u173 u174 u175 u176 u177 u178 u179 u180 u181 u182 u183 u184 u185 u186 u187 u188 u189 u190 u191 u192 u193 u194 u195 u196 u197 u198 u199 u200 u201 u202 u203 u204 u205 u206 u207 u208 u209 u210 u211 u212 u213 u214 u215 : Value} {Q' : Exit → Act → World → Prop} {J K : Act → World → Prop}
    (h1 : ∀ (a' : Act) (w' : World), (∃ v81 v82 v83 v84 v85 v86 v87 v88 v89 v90 v91 v92 v93 v94 v95 v96 v97 v98 v99 v100 v101 v102 v103 v104 v105 v106 v107 v108 v109 v110 v111 v112 v113 v114 v115 v116 v117 v118 v119 v120 v121 v122 v123 v124 v125 v126 v127 v128 v129 v130 v131 v132 v133 v134 v135 v136 v137 v138 v139 v140 v141 v142 v143 v144 v145 v146 v147 v148 v149 v150 v151 v152 v153 v154 v155 v156 v157 v158 v159 v160 v161 v162 v163 v164 v165 v166 v167 v168 v169 v170 v171 v172 v173 v174 v175 v176 v177 v178 v179 v180 v181 v182 v183 v184 v185 v186 v187 v188 v189 v190 v191 v192 v193 v194 v195 v196 v197 v198 v199 v200 v201 v202 v203 v204, (Sw w w' B5 F ∧ 0 ≤ F.k ∧ F.k < 4294967296) ∧ a' = ⟨#[u0, u1, u2, u3, u4, .pointer (some ⟨B5, 0, none⟩), u6, .slice (some ⟨gr, 0, none⟩) m4 rc, u8, u9, u10, u11, u12, .int .i64 (nth ns 0), .int .i64 (nth ns 1), u15, u16, u17, u18, u19, u20, u21, u22, u23, u24, u25, u26, u27, u28, u29, u30, u31, u32, u33, u34, u35, u36, u37, u38, u39, u40, u41, u42, u43, u44, u45, u46, u47, u48, u49, u50, u51, u52, u53, u54, u55, u56, u57, u58, u59, u60, u61, u62, u63, u64, u65, u66, u67, u68, u69, u70, u71, u72, u73, u74, u75, u76, u77, u78, u79, u80, v81, v82, v83, v84, v85, v86, v87, v88, v89, v90, v91, v92, v93, v94, v95, v96, v97, v98, v99, v100, v101, v102, v103, v104, v105, v106, v107, v108, v109, v110, v111, v112, v113, v114, v115, v116, v117, v118, v119, v120, v121, v122, v123, v124, v125, v126, v127, v128, v129, v130, v131, v132, v133, v134, v135, v136, v137, v138, v139, v140, v141, v142, v143, v144, v145, v146, v147, v148, v149, v150, v151, v152, v153, v154, v155, v156, v157, v158, v159, v160, v161, v162, v163, v164, v165, v166, v167, v168, v169, v170, v171, v172, v173, v174, v175, v176, v177, v178, v179, v180, v181, v182, v183, v184, v185, v186, v187, v188, v189, v190, v191, v192, v193, v194, v195, v196, v197, v198, v199, v200, v201, v202, v203, v204, u205, u206, u207, u208, u209, u210, u211, u212, u213, u214, u215], []⟩) → J a' w') (h2 : ∀ (a' : Act) (w' : World), Met J a' w' → K a' w') :
    (((Tryz.f102.body).bind (codeFind 8)).getD .skip).wp Tryz.prog (Exit.then K Q') ⟨#[u0, u1, u2, u3, u4, .pointer (some ⟨B5, 0, none⟩), u6, .slice (some ⟨gr, 0, none⟩) m4 rc, u8, u9, u10, u11, u12, .int .i64 (nth ns 0), .int .i64 (nth ns 1), u15, u16, u17, u18, u19, u20, u21, u22, u23, u24, u25, u26, u27, u28, u29, u30, u31, u32, u33, u34, u35, u36, u37, u38, u39, u40, u41, u42, u43, u44, u45, u46, u47, u48, u49, u50, u51, u52, u53, u54, u55, u56, u57, u58, u59, u60, u61, u62, u63, u64, u65, u66, u67, u68, u69, u70, u71, u72, u73, u74, u75, u76, u77, u78, u79, u80, u81, u82, u83, u84, u85, u86, u87, .int .i64 op, u89, u90, u91, u92, u93, u94, u95, u96, u97, u98, u99, u100, u101, u102, u103, u104, u105, u106, u107, u108, u109, u110, u111, u112, u113, u114, u115, u116, u117, u118, u119, u120, u121, u122, u123, u124, u125, u126, u127, u128, u129, u130, u131, u132, u133, u134, u135, u136, u137, u138, u139, u140, u141, u142, u143, u144, u145, u146, u147, u148, u149, u150, u151, u152, u153, u154, u155, u156, u157, u158, u159, u160, u161, u162, u163, u164, u165, u166, u167, u168, u169, u170, u171, u172, u173, u174, u175, u176, u177, u178, u179, u180, u181, u182, u183, u184, u185, u186, u187, u188, u189, u190, u191, u192, u193, u194, u195, u196, u197, u198, u199, u200, u201, u202, u203, u204, u205, u206, u207, u208, u209, u210, u211, u212, u213, u214, u215], []⟩ y2 := by
  have hc : ((Tryz.f102.body).bind (codeFind 8)) = some _ := rfl
  rw [hc]
  clear hc
  simp only [Option.getD_some]
  have HDR := Lib.hid hdr
  clear hdr
  have j0 : (0 : Int) < (m4 : Int) := by omega
  have j1 : (1 : Int) < (m4 : Int) := by omega
  have j2 : (2 : Int) < (m4 : Int) := by omega
  have j3 : (3 : Int) < (m4 : Int) := by omega
  have n0 : 0 < m4 := by omega
  have n1 : 1 < m4 := by omega
  have n2 : 2 < m4 := by omega
  have n3 : 3 < m4 := by omega
  have hoff : ∀ (W : World) (u : Value) (i j : Nat), (W.setCell ⟨B5, i, none⟩ u).cell? ⟨gr, j, none⟩ = W.cell? ⟨gr, j, none⟩ := fun W u i j => cell_off hgr5
  obtain ⟨c0, c1, c2, c3, c4, c5, c6, c7⟩ := hsw.ins.cells
  simp only at c0 c1 c2 c3 c4 c5 c6 c7
  have hfI := Bk.free hsw.ins
  rcases hop with rfl | rfl | rfl | rfl | rfl | rfl | rfl
  · skip
    have hD : F = ⟨6, nth rs 0, nth rs 1, nth rs 2, 0, 0, nth ns 0 % 4294967296, 0⟩ := HDR.out.trans (by simp [finI])
    have HD := Lib.hid hD
    clear hD
    go_wp2
    go_region_held3 (fun w' => w'.cell? ⟨gr, 0, none⟩ = some (.int .i64 (nth rs 0)) ∧ w'.cell? ⟨gr, 1, none⟩ = some (.int .i64 (nth rs 1)) ∧ w'.cell? ⟨gr, 2, none⟩ = some (.int .i64 (nth rs 2))) (go_keep) ((fail))
    go_wp2
    go_meet
    case rel => exact ⟨by rw [HD.out]; exact (((((hsw.put1 _).put2 _).put3 _).put6 _).drew), by rw [HD.out]; first | exact hkk.1 | exact Int.emod_nonneg _ (by decide), by rw [HD.out]; first | exact hkk.2 | exact Int.emod_lt_of_pos _ (by decide)⟩
  · skip
    have hD : F = ⟨7, nth rs 0, nth rs 1, nth rs 2, 0, 0, kk, 0⟩ := HDR.out.trans (by simp [finI])
    have HD := Lib.hid hD
    clear hD
    go_wp2
    go_region_held3 (fun w' => w'.cell? ⟨gr, 0, none⟩ = some (.int .i64 (nth rs 0)) ∧ w'.cell? ⟨gr, 1, none⟩ = some (.int .i64 (nth rs 1)) ∧ w'.cell? ⟨gr, 2, none⟩ = some (.int .i64 (nth rs 2))) (go_keep) ((fail))
    go_wp2
    go_meet
    case rel => exact ⟨by rw [HD.out]; exact ((((hsw.put1 _).put2 _).put3 _).drew), by rw [HD.out]; first | exact hkk.1 | exact Int.emod_nonneg _ (by decide), by rw [HD.out]; first | exact hkk.2 | exact Int.emod_lt_of_pos _ (by decide)⟩
  · skip
    have hD : F = ⟨11, nth rs 0, nth rs 1, nth rs 2, 0, 0, kk, 0⟩ := HDR.out.trans (by simp [finI])
    have HD := Lib.hid hD
    clear hD
    go_wp2
    go_region_held3 (fun w' => w'.cell? ⟨gr, 0, none⟩ = some (.int .i64 (nth rs 0)) ∧ w'.cell? ⟨gr, 1, none⟩ = some (.int .i64 (nth rs 1)) ∧ w'.cell? ⟨gr, 2, none⟩ = some (.int .i64 (nth rs 2))) (go_keep) ((fail))
    go_wp2
    go_meet
    case rel => exact ⟨by rw [HD.out]; exact ((((hsw.put1 _).put2 _).put3 _).drew), by rw [HD.out]; first | exact hkk.1 | exact Int.emod_nonneg _ (by decide), by rw [HD.out]; first | exact hkk.2 | exact Int.emod_lt_of_pos _ (by decide)⟩
  · skip
    have hD : F = ⟨22, nth rs 0, nth rs 1, nth rs 2, 0, 0, kk, 0⟩ := HDR.out.trans (by simp [finI])
    have HD := Lib.hid hD
    clear hD
    go_wp2
    go_region_held3 (fun w' => w'.cell? ⟨gr, 0, none⟩ = some (.int .i64 (nth rs 0)) ∧ w'.cell? ⟨gr, 1, none⟩ = some (.int .i64 (nth rs 1)) ∧ w'.cell? ⟨gr, 2, none⟩ = some (.int .i64 (nth rs 2))) (go_keep) ((fail))
    go_wp2
    go_meet
    case rel => exact ⟨by rw [HD.out]; exact ((((hsw.put1 _).put2 _).put3 _).drew), by rw [HD.out]; first | exact hkk.1 | exact Int.emod_nonneg _ (by decide), by rw [HD.out]; first | exact hkk.2 | exact Int.emod_lt_of_pos _ (by decide)⟩
  · skip
    have hD : F = ⟨12, 0, 0, 0, 0, 0, nth ns 0 % 4294967296, 0⟩ := HDR.out.trans (by simp [finI])
    have HD := Lib.hid hD
    clear hD
    go_wp2
    go_meet
    case rel => exact ⟨by rw [HD.out]; exact (hsw.put6 _), by rw [HD.out]; first | exact hkk.1 | exact Int.emod_nonneg _ (by decide), by rw [HD.out]; first | exact hkk.2 | exact Int.emod_lt_of_pos _ (by decide)⟩
  · skip
    have hD : F = ⟨13, 0, 0, 0, 0, 0, nth ns 0 % 4294967296, 0⟩ := HDR.out.trans (by simp [finI])
    have HD := Lib.hid hD
    clear hD
    go_wp2
    go_meet
    case rel => exact ⟨by rw [HD.out]; exact (hsw.put6 _), by rw [HD.out]; first | exact hkk.1 | exact Int.emod_nonneg _ (by decide), by rw [HD.out]; first | exact hkk.2 | exact Int.emod_lt_of_pos _ (by decide)⟩
  · skip
    have hD : F = ⟨17, 0, nth rs 0, nth rs 1, 0, nth ns 0, kk, 0⟩ := HDR.out.trans (by simp [finI])
    have HD := Lib.hid hD
    clear hD
    go_wp2
    go_region_held3 (fun w' => w'.cell? ⟨gr, 0, none⟩ = some (.int .i64 (nth rs 0)) ∧ w'.cell? ⟨gr, 1, none⟩ = some (.int .i64 (nth rs 1))) (go_keep) ((fail))
    go_wp2
    go_meet
    case rel => exact ⟨by rw [HD.out]; exact ((((hsw.put2 _).put3 _).put5 _).drew), by rw [HD.out]; first | exact hkk.1 | exact Int.emod_nonneg _ (by decide), by rw [HD.out]; first | exact hkk.2 | exact Int.emod_lt_of_pos _ (by decide)⟩
end Go.Proofs.YthdgehcghklflaaGreatDoor

/- The switch of the document's Parse, for some ops. -/
namespace Go.Proofs.YthdgehcghklflaaGreatDoor
open Go.ChangeShapes Go.WideShapes Go.ChangeAt Go.RowKit
set_option linter.unusedVariables false

set_option maxHeartbeats 40000000 in
set_option maxRecDepth 100000 in
theorem sw3 {w y2 : World} {B5 gr m4 rc : Nat} {rs ns : List Int} {op kk : Int} {F : Ins} (hsw : Sw w y2 B5 ⟨op, 0, 0, 0, 0, 0, kk, 0⟩) (hkk : 0 ≤ kk ∧ kk < 4294967296) (hgr5 : gr ≠ B5)
    (r0 : y2.cell? ⟨gr, 0, none⟩ = some (.int .i64 (nth rs 0))) (r1 : y2.cell? ⟨gr, 1, none⟩ = some (.int .i64 (nth rs 1))) (r2 : y2.cell? ⟨gr, 2, none⟩ = some (.int .i64 (nth rs 2))) (r3 : y2.cell? ⟨gr, 3, none⟩ = some (.int .i64 (nth rs 3))) (h44 : 4 ≤ m4)
    (hdr : F = finI op rs ns kk) (hop : op = 8 ∨ op = 9 ∨ op = 10 ∨ op = 23 ∨ (op ≠ 1 ∧ op ≠ 2 ∧ op ≠ 3 ∧ op ≠ 4 ∧ op ≠ 5 ∧ op ≠ 6 ∧ op ≠ 7 ∧ op ≠ 8 ∧ op ≠ 9 ∧ op ≠ 10 ∧ op ≠ 11 ∧ op ≠ 12 ∧ op ≠ 13 ∧ op ≠ 16 ∧ op ≠ 17 ∧ op ≠ 18 ∧ op ≠ 19 ∧ op ≠ 20 ∧ op ≠ 21 ∧ op ≠ 22 ∧ op ≠ 23))
    {u0 u1 u2 u3 u4 u6 u8 u9 u10 u11 u12 u15 u16 u17 u18 u19 u20 u21 u22 u23 u24 u25 u26 u27 u28 u29 u30 u31 u32 u33 u34 u35 u36 u37 u38 u39 u40 u41 u42 u43 u44 u45 u46 u47 u48 u49 u50 u51 u52 u53 u54 u55 u56 u57 u58 u59 u60 u61 u62 u63 u64 u65 u66 u67 u68 u69 u70 u71 u72 u73 u74 u75 u76 u77 u78 u79 u80 u81 u82 u83 u84 u85 u86 u87 u89 u90 u91 u92 u93 u94 u95 u96 u97 u98 u99 u100 u101 u102 u103 u104 u105 u106 u107 u108 u109 u110 u111 u112 u113 u114 u115 u116 u117 u118 u119 u120 u121 u122 u123 u124 u125 u126 u127 u128 u129 u130 u131 u132 u133 u134 u135 u136 u137 u138 u139 u140 u141 u142 u143 u144 u145 u146 u147 u148 u149 u150 u151 u152 u153 u154 u155 u156 u157 u158 u159 u160 u161 u162 u163 u164 u165 u166 u167 u168 u169 u170 u171 u172 u173 u174 u175 u176 u177 u178 u179 u180 u181 u182 u183 u184 u185 u186 u187 u188 u189 u190 u191 u192 u193 u194 u195 u196 u197 u198 u199 u200 u201 u202 u203 u204 u205 u206 u207 u208 u209 u210 u211 u212 u213 u214 u215 : Value} {Q' : Exit → Act → World → Prop} {J K : Act → World → Prop}
    (h1 : ∀ (a' : Act) (w' : World), (∃ v81 v82 v83 v84 v85 v86 v87 v88 v89 v90 v91 v92 v93 v94 v95 v96 v97 v98 v99 v100 v101 v102 v103 v104 v105 v106 v107 v108 v109 v110 v111 v112 v113 v114 v115 v116 v117 v118 v119 v120 v121 v122 v123 v124 v125 v126 v127 v128 v129 v130 v131 v132 v133 v134 v135 v136 v137 v138 v139 v140 v141 v142 v143 v144 v145 v146 v147 v148 v149 v150 v151 v152 v153 v154 v155 v156 v157 v158 v159 v160 v161 v162 v163 v164 v165 v166 v167 v168 v169 v170 v171 v172 v173 v174 v175 v176 v177 v178 v179 v180 v181 v182 v183 v184 v185 v186 v187 v188 v189 v190 v191 v192 v193 v194 v195 v196 v197 v198 v199 v200 v201 v202 v203 v204, (Sw w w' B5 F ∧ 0 ≤ F.k ∧ F.k < 4294967296) ∧ a' = ⟨#[u0, u1, u2, u3, u4, .pointer (some ⟨B5, 0, none⟩), u6, .slice (some ⟨gr, 0, none⟩) m4 rc, u8, u9, u10, u11, u12, .int .i64 (nth ns 0), .int .i64 (nth ns 1), u15, u16, u17, u18, u19, u20, u21, u22, u23, u24, u25, u26, u27, u28, u29, u30, u31, u32, u33, u34, u35, u36, u37, u38, u39, u40, u41, u42, u43, u44, u45, u46, u47, u48, u49, u50, u51, u52, u53, u54, u55, u56, u57, u58, u59, u60, u61, u62, u63, u64, u65, u66, u67, u68, u69, u70, u71, u72, u73, u74, u75, u76, u77, u78, u79, u80, v81, v82, v83, v84, v85, v86, v87, v88, v89, v90, v91, v92, v93, v94, v95, v96, v97, v98, v99, v100, v101, v102, v103, v104, v105, v106, v107, v108, v109, v110, v111, v112, v113, v114, v115, v116, v117, v118, v119, v120, v121, v122, v123, v124, v125, v126, v127, v128, v129, v130, v131, v132, v133, v134, v135, v136, v137, v138, v139, v140, v141, v142, v143, v144, v145, v146, v147, v148, v149, v150, v151, v152, v153, v154, v155, v156, v157, v158, v159, v160, v161, v162, v163, v164, v165, v166, v167, v168, v169, v170, v171, v172, v173, v174, v175, v176, v177, v178, v179, v180, v181, v182, v183, v184, v185, v186, v187, v188, v189, v190, v191, v192, v193, v194, v195, v196, v197, v198, v199, v200, v201, v202, v203, v204, u205, u206, u207, u208, u209, u210, u211, u212, u213, u214, u215], []⟩) → J a' w') (h2 : ∀ (a' : Act) (w' : World), Met J a' w' → K a' w') :
    (((Tryz.f102.body).bind (codeFind 8)).getD .skip).wp Tryz.prog (Exit.then K Q') ⟨#[u0, u1, u2, u3, u4, .pointer (some ⟨B5, 0, none⟩), u6, .slice (some ⟨gr, 0, none⟩) m4 rc, u8, u9, u10, u11, u12, .int .i64 (nth ns 0), .int .i64 (nth ns 1), u15, u16, u17, u18, u19, u20, u21, u22, u23, u24, u25, u26, u27, u28, u29, u30, u31, u32, u33, u34, u35, u36, u37, u38, u39, u40, u41, u42, u43, u44, u45, u46, u47, u48, u49, u50, u51, u52, u53, u54, u55, u56, u57, u58, u59, u60, u61, u62, u63, u64, u65, u66, u67, u68, u69, u70, u71, u72, u73, u74, u75, u76, u77, u78, u79, u80, u81, u82, u83, u84, u85, u86, u87, .int .i64 op, u89, u90, u91, u92, u93, u94, u95, u96, u97, u98, u99, u100, u101, u102, u103, u104, u105, u106, u107, u108, u109, u110, u111, u112, u113, u114, u115, u116, u117, u118, u119, u120, u121, u122, u123, u124, u125, u126, u127, u128, u129, u130, u131, u132, u133, u134, u135, u136, u137, u138, u139, u140, u141, u142, u143, u144, u145, u146, u147, u148, u149, u150, u151, u152, u153, u154, u155, u156, u157, u158, u159, u160, u161, u162, u163, u164, u165, u166, u167, u168, u169, u170, u171, u172, u173, u174, u175, u176, u177, u178, u179, u180, u181, u182, u183, u184, u185, u186, u187, u188, u189, u190, u191, u192, u193, u194, u195, u196, u197, u198, u199, u200, u201, u202, u203, u204, u205, u206, u207, u208, u209, u210, u211, u212, u213, u214, u215], []⟩ y2 := by
  have hc : ((Tryz.f102.body).bind (codeFind 8)) = some _ := rfl
  rw [hc]
  clear hc
  simp only [Option.getD_some]
  have HDR := Lib.hid hdr
  clear hdr
  have j0 : (0 : Int) < (m4 : Int) := by omega
  have j1 : (1 : Int) < (m4 : Int) := by omega
  have j2 : (2 : Int) < (m4 : Int) := by omega
  have j3 : (3 : Int) < (m4 : Int) := by omega
  have n0 : 0 < m4 := by omega
  have n1 : 1 < m4 := by omega
  have n2 : 2 < m4 := by omega
  have n3 : 3 < m4 := by omega
  have hoff : ∀ (W : World) (u : Value) (i j : Nat), (W.setCell ⟨B5, i, none⟩ u).cell? ⟨gr, j, none⟩ = W.cell? ⟨gr, j, none⟩ := fun W u i j => cell_off hgr5
  obtain ⟨c0, c1, c2, c3, c4, c5, c6, c7⟩ := hsw.ins.cells
  simp only at c0 c1 c2 c3 c4 c5 c6 c7
  have hfI := Bk.free hsw.ins
  rcases hop with rfl | rfl | rfl | rfl | hn
  · skip
    have hD : F = ⟨8, 0, nth rs 0, nth rs 1, 0, 0, kk, nth ns 0⟩ := HDR.out.trans (by simp [finI])
    have HD := Lib.hid hD
    clear hD
    go_wp2
    go_region_held3 (fun w' => w'.cell? ⟨gr, 0, none⟩ = some (.int .i64 (nth rs 0)) ∧ w'.cell? ⟨gr, 1, none⟩ = some (.int .i64 (nth rs 1))) (go_keep) ((fail))
    go_wp2
    go_meet
    case rel => exact ⟨by rw [HD.out]; exact ((((hsw.put2 _).put3 _).put7 _).drew), by rw [HD.out]; first | exact hkk.1 | exact Int.emod_nonneg _ (by decide), by rw [HD.out]; first | exact hkk.2 | exact Int.emod_lt_of_pos _ (by decide)⟩
  · skip
    have hD : F = ⟨9, 0, nth rs 0, nth rs 1, 0, 0, kk, nth ns 0⟩ := HDR.out.trans (by simp [finI])
    have HD := Lib.hid hD
    clear hD
    go_wp2
    go_region_held3 (fun w' => w'.cell? ⟨gr, 0, none⟩ = some (.int .i64 (nth rs 0)) ∧ w'.cell? ⟨gr, 1, none⟩ = some (.int .i64 (nth rs 1))) (go_keep) ((fail))
    go_wp2
    go_meet
    case rel => exact ⟨by rw [HD.out]; exact ((((hsw.put2 _).put3 _).put7 _).drew), by rw [HD.out]; first | exact hkk.1 | exact Int.emod_nonneg _ (by decide), by rw [HD.out]; first | exact hkk.2 | exact Int.emod_lt_of_pos _ (by decide)⟩
  · skip
    have hD : F = ⟨10, 0, nth rs 0, nth rs 1, 0, 0, kk, nth ns 0⟩ := HDR.out.trans (by simp [finI])
    have HD := Lib.hid hD
    clear hD
    go_wp2
    go_region_held3 (fun w' => w'.cell? ⟨gr, 0, none⟩ = some (.int .i64 (nth rs 0)) ∧ w'.cell? ⟨gr, 1, none⟩ = some (.int .i64 (nth rs 1))) (go_keep) ((fail))
    go_wp2
    go_meet
    case rel => exact ⟨by rw [HD.out]; exact ((((hsw.put2 _).put3 _).put7 _).drew), by rw [HD.out]; first | exact hkk.1 | exact Int.emod_nonneg _ (by decide), by rw [HD.out]; first | exact hkk.2 | exact Int.emod_lt_of_pos _ (by decide)⟩
  · skip
    have hD : F = ⟨23, 0, nth rs 0, 0, 0, 0, kk, 0⟩ := HDR.out.trans (by simp [finI])
    have HD := Lib.hid hD
    clear hD
    go_wp2
    go_meet
    case rel => exact ⟨by rw [HD.out]; exact (hsw.put2 _), by rw [HD.out]; first | exact hkk.1 | exact Int.emod_nonneg _ (by decide), by rw [HD.out]; first | exact hkk.2 | exact Int.emod_lt_of_pos _ (by decide)⟩
  · skip
    have hD : F = ⟨op, 0, 0, 0, 0, 0, kk, 0⟩ := HDR.out.trans (by unfold finI; simp [hn])
    have HD := Lib.hid hD
    clear hD
    obtain ⟨x1, x2, x3, x4, x5, x6, x7, x8, x9, x10, x11, x12, x13, x16, x17, x18, x19, x20, x21, x22, x23⟩ := hn
    have e1 : (op == 1) = false := by simpa using x1
    have e2 : (op == 2) = false := by simpa using x2
    have e3 : (op == 3) = false := by simpa using x3
    have e4 : (op == 4) = false := by simpa using x4
    have e5 : (op == 5) = false := by simpa using x5
    have e6 : (op == 6) = false := by simpa using x6
    have e7 : (op == 7) = false := by simpa using x7
    have e8 : (op == 8) = false := by simpa using x8
    have e9 : (op == 9) = false := by simpa using x9
    have e10 : (op == 10) = false := by simpa using x10
    have e11 : (op == 11) = false := by simpa using x11
    have e12 : (op == 12) = false := by simpa using x12
    have e13 : (op == 13) = false := by simpa using x13
    have e16 : (op == 16) = false := by simpa using x16
    have e17 : (op == 17) = false := by simpa using x17
    have e18 : (op == 18) = false := by simpa using x18
    have e19 : (op == 19) = false := by simpa using x19
    have e20 : (op == 20) = false := by simpa using x20
    have e21 : (op == 21) = false := by simpa using x21
    have e22 : (op == 22) = false := by simpa using x22
    have e23 : (op == 23) = false := by simpa using x23
    clear x1 x2 x3 x4 x5 x6 x7 x8 x9 x10 x11 x12 x13 x16 x17 x18 x19 x20 x21 x22 x23
    go_wp2
    go_meet
    case rel => exact ⟨by rw [HD.out]; exact hsw, by rw [HD.out]; exact hkk.1, by rw [HD.out]; exact hkk.2⟩
end Go.Proofs.YthdgehcghklflaaGreatDoor

/- The switch of the document's Parse, for some ops. -/
namespace Go.Proofs.YthdgehcghklflaaGreatDoor
open Go.ChangeShapes Go.WideShapes Go.ChangeAt Go.RowKit
set_option linter.unusedVariables false

set_option maxHeartbeats 40000000 in
set_option maxRecDepth 100000 in
theorem sw4 {w y2 : World} {B5 gr m4 rc : Nat} {rs ns : List Int} {op kk : Int} {F : Ins} (hsw : Sw w y2 B5 ⟨op, 0, 0, 0, 0, 0, kk, 0⟩) (hkk : 0 ≤ kk ∧ kk < 4294967296) (hgr5 : gr ≠ B5)
    (r0 : y2.cell? ⟨gr, 0, none⟩ = some (.int .i64 (nth rs 0))) (r1 : y2.cell? ⟨gr, 1, none⟩ = some (.int .i64 (nth rs 1))) (r2 : y2.cell? ⟨gr, 2, none⟩ = some (.int .i64 (nth rs 2))) (r3 : y2.cell? ⟨gr, 3, none⟩ = some (.int .i64 (nth rs 3))) (h44 : 4 ≤ m4)
    (hdr : F = finI op rs ns kk) (hop : op = 16 ∨ op = 18 ∨ op = 19)
    {u0 u1 u2 u3 u4 u6 u8 u9 u10 u11 u12 u15 u16 u17 u18 u19 u20 u21 u22 u23 u24 u25 u26 u27 u28 u29 u30 u31 u32 u33 u34 u35 u36 u37 u38 u39 u40 u41 u42 u43 u44 u45 u46 u47 u48 u49 u50 u51 u52 u53 u54 u55 u56 u57 u58 u59 u60 u61 u62 u63 u64 u65 u66 u67 u68 u69 u70 u71 u72 u73 u74 u75 u76 u77 u78 u79 u80 u81 u82 u83 u84 u85 u86 u87 u89 u90 u91 u92 u93 u94 u95 u96 u97 u98 u99 u100 u101 u102 u103 u104 u105 u106 u107 u108 u109 u110 u111 u112 u113 u114 u115 u116 u117 u118 u119 u120 u121 u122 u123 u124 u125 u126 u127 u128 u129 u130 u131 u132 u133 u134 u135 u136 u137 u138 u139 u140 u141 u142 u143 u144 u145 u146 u147 u148 u149 u150 u151 u152 u153 u154 u155 u156 u157 u158 u159 u160 u161 u162 u163 u164 u165 u166 u167 u168 u169 u170 u171 u172 u173 u174 u175 u176 u177 u178 u179 u180 u181 u182 u183 u184 u185 u186 u187 u188 u189 u190 u191 u192 u193 u194 u195 u196 u197 u198 u199 u200 u201 u202 u203 u204 u205 u206 u207 u208 u209 u210 u211 u212 u213 u214 u215 : Value} {Q' : Exit → Act → World → Prop} {J K : Act → World → Prop}
    (h1 : ∀ (a' : Act) (w' : World), (∃ v81 v82 v83 v84 v85 v86 v87 v88 v89 v90 v91 v92 v93 v94 v95 v96 v97 v98 v99 v100 v101 v102 v103 v104 v105 v106 v107 v108 v109 v110 v111 v112 v113 v114 v115 v116 v117 v118 v119 v120 v121 v122 v123 v124 v125 v126 v127 v128 v129 v130 v131 v132 v133 v134 v135 v136 v137 v138 v139 v140 v141 v142 v143 v144 v145 v146 v147 v148 v149 v150 v151 v152 v153 v154 v155 v156 v157 v158 v159 v160 v161 v162 v163 v164 v165 v166 v167 v168 v169 v170 v171 v172 v173 v174 v175 v176 v177 v178 v179 v180 v181 v182 v183 v184 v185 v186 v187 v188 v189 v190 v191 v192 v193 v194 v195 v196 v197 v198 v199 v200 v201 v202 v203 v204, (Sw w w' B5 F ∧ 0 ≤ F.k ∧ F.k < 4294967296) ∧ a' = ⟨#[u0, u1, u2, u3, u4, .pointer (some ⟨B5, 0, none⟩), u6, .slice (some ⟨gr, 0, none⟩) m4 rc, u8, u9, u10, u11, u12, .int .i64 (nth ns 0), .int .i64 (nth ns 1), u15, u16, u17, u18, u19, u20, u21, u22, u23, u24, u25, u26, u27, u28, u29, u30, u31, u32, u33, u34, u35, u36, u37, u38, u39, u40, u41, u42, u43, u44, u45, u46, u47, u48, u49, u50, u51, u52, u53, u54, u55, u56, u57, u58, u59, u60, u61, u62, u63, u64, u65, u66, u67, u68, u69, u70, u71, u72, u73, u74, u75, u76, u77, u78, u79, u80, v81, v82, v83, v84, v85, v86, v87, v88, v89, v90, v91, v92, v93, v94, v95, v96, v97, v98, v99, v100, v101, v102, v103, v104, v105, v106, v107, v108, v109, v110, v111, v112, v113, v114, v115, v116, v117, v118, v119, v120, v121, v122, v123, v124, v125, v126, v127, v128, v129, v130, v131, v132, v133, v134, v135, v136, v137, v138, v139, v140, v141, v142, v143, v144, v145, v146, v147, v148, v149, v150, v151, v152, v153, v154, v155, v156, v157, v158, v159, v160, v161, v162, v163, v164, v165, v166, v167, v168, v169, v170, v171, v172, v173, v174, v175, v176, v177, v178, v179, v180, v181, v182, v183, v184, v185, v186, v187, v188, v189, v190, v191, v192, v193, v194, v195, v196, v197, v198, v199, v200, v201, v202, v203, v204, u205, u206, u207, u208, u209, u210, u211, u212, u213, u214, u215], []⟩) → J a' w') (h2 : ∀ (a' : Act) (w' : World), Met J a' w' → K a' w') :
    (((Tryz.f102.body).bind (codeFind 8)).getD .skip).wp Tryz.prog (Exit.then K Q') ⟨#[u0, u1, u2, u3, u4, .pointer (some ⟨B5, 0, none⟩), u6, .slice (some ⟨gr, 0, none⟩) m4 rc, u8, u9, u10, u11, u12, .int .i64 (nth ns 0), .int .i64 (nth ns 1), u15, u16, u17, u18, u19, u20, u21, u22, u23, u24, u25, u26, u27, u28, u29, u30, u31, u32, u33, u34, u35, u36, u37, u38, u39, u40, u41, u42, u43, u44, u45, u46, u47, u48, u49, u50, u51, u52, u53, u54, u55, u56, u57, u58, u59, u60, u61, u62, u63, u64, u65, u66, u67, u68, u69, u70, u71, u72, u73, u74, u75, u76, u77, u78, u79, u80, u81, u82, u83, u84, u85, u86, u87, .int .i64 op, u89, u90, u91, u92, u93, u94, u95, u96, u97, u98, u99, u100, u101, u102, u103, u104, u105, u106, u107, u108, u109, u110, u111, u112, u113, u114, u115, u116, u117, u118, u119, u120, u121, u122, u123, u124, u125, u126, u127, u128, u129, u130, u131, u132, u133, u134, u135, u136, u137, u138, u139, u140, u141, u142, u143, u144, u145, u146, u147, u148, u149, u150, u151, u152, u153, u154, u155, u156, u157, u158, u159, u160, u161, u162, u163, u164, u165, u166, u167, u168, u169, u170, u171, u172, u173, u174, u175, u176, u177, u178, u179, u180, u181, u182, u183, u184, u185, u186, u187, u188, u189, u190, u191, u192, u193, u194, u195, u196, u197, u198, u199, u200, u201, u202, u203, u204, u205, u206, u207, u208, u209, u210, u211, u212, u213, u214, u215], []⟩ y2 := by
  have hc : ((Tryz.f102.body).bind (codeFind 8)) = some _ := rfl
  rw [hc]
  clear hc
  simp only [Option.getD_some]
  have HDR := Lib.hid hdr
  clear hdr
  have j0 : (0 : Int) < (m4 : Int) := by omega
  have j1 : (1 : Int) < (m4 : Int) := by omega
  have j2 : (2 : Int) < (m4 : Int) := by omega
  have j3 : (3 : Int) < (m4 : Int) := by omega
  have n0 : 0 < m4 := by omega
  have n1 : 1 < m4 := by omega
  have n2 : 2 < m4 := by omega
  have n3 : 3 < m4 := by omega
  have hoff : ∀ (W : World) (u : Value) (i j : Nat), (W.setCell ⟨B5, i, none⟩ u).cell? ⟨gr, j, none⟩ = W.cell? ⟨gr, j, none⟩ := fun W u i j => cell_off hgr5
  obtain ⟨c0, c1, c2, c3, c4, c5, c6, c7⟩ := hsw.ins.cells
  simp only at c0 c1 c2 c3 c4 c5 c6 c7
  have hfI := Bk.free hsw.ins
  rcases hop with rfl | rfl | rfl
  · skip
    have hD : F = ⟨16, nth rs 0, nth rs 1, nth rs 2, nth rs 3, nth ns 0, kk, 0⟩ := HDR.out.trans (by simp [finI])
    have HD := Lib.hid hD
    clear hD
    go_wp2
    go_region_held3 (fun w' => w'.cell? ⟨gr, 0, none⟩ = some (.int .i64 (nth rs 0)) ∧ w'.cell? ⟨gr, 1, none⟩ = some (.int .i64 (nth rs 1)) ∧ w'.cell? ⟨gr, 2, none⟩ = some (.int .i64 (nth rs 2)) ∧ w'.cell? ⟨gr, 3, none⟩ = some (.int .i64 (nth rs 3))) (go_keep) ((fail))
    go_wp2
    go_meet
    case rel => exact ⟨by rw [HD.out]; exact ((((((hsw.put1 _).put2 _).put3 _).put4 _).put5 _).drew), by rw [HD.out]; first | exact hkk.1 | exact Int.emod_nonneg _ (by decide), by rw [HD.out]; first | exact hkk.2 | exact Int.emod_lt_of_pos _ (by decide)⟩
  · skip
    have hD : F = ⟨18, nth rs 0, nth rs 1, nth rs 2, nth rs 3, nth ns 0, kk, 0⟩ := HDR.out.trans (by simp [finI])
    have HD := Lib.hid hD
    clear hD
    go_wp2
    go_region_held3 (fun w' => w'.cell? ⟨gr, 0, none⟩ = some (.int .i64 (nth rs 0)) ∧ w'.cell? ⟨gr, 1, none⟩ = some (.int .i64 (nth rs 1)) ∧ w'.cell? ⟨gr, 2, none⟩ = some (.int .i64 (nth rs 2)) ∧ w'.cell? ⟨gr, 3, none⟩ = some (.int .i64 (nth rs 3))) (go_keep) ((fail))
    go_wp2
    go_meet
    case rel => exact ⟨by rw [HD.out]; exact ((((((hsw.put1 _).put2 _).put3 _).put4 _).put5 _).drew), by rw [HD.out]; first | exact hkk.1 | exact Int.emod_nonneg _ (by decide), by rw [HD.out]; first | exact hkk.2 | exact Int.emod_lt_of_pos _ (by decide)⟩
  · skip
    have hD : F = ⟨19, nth rs 0, nth rs 1, nth rs 2, nth rs 3, nth ns 0, kk, 0⟩ := HDR.out.trans (by simp [finI])
    have HD := Lib.hid hD
    clear hD
    go_wp2
    go_region_held3 (fun w' => w'.cell? ⟨gr, 0, none⟩ = some (.int .i64 (nth rs 0)) ∧ w'.cell? ⟨gr, 1, none⟩ = some (.int .i64 (nth rs 1)) ∧ w'.cell? ⟨gr, 2, none⟩ = some (.int .i64 (nth rs 2)) ∧ w'.cell? ⟨gr, 3, none⟩ = some (.int .i64 (nth rs 3))) (go_keep) ((fail))
    go_wp2
    go_meet
    case rel => exact ⟨by rw [HD.out]; exact ((((((hsw.put1 _).put2 _).put3 _).put4 _).put5 _).drew), by rw [HD.out]; first | exact hkk.1 | exact Int.emod_nonneg _ (by decide), by rw [HD.out]; first | exact hkk.2 | exact Int.emod_lt_of_pos _ (by decide)⟩
end Go.Proofs.YthdgehcghklflaaGreatDoor

/- The switch of the document's Parse, for some ops. -/
namespace Go.Proofs.YthdgehcghklflaaGreatDoor
open Go.ChangeShapes Go.WideShapes Go.ChangeAt Go.RowKit
set_option linter.unusedVariables false

set_option maxHeartbeats 40000000 in
set_option maxRecDepth 100000 in
theorem sw5 {w y2 : World} {B5 gr m4 rc : Nat} {rs ns : List Int} {op kk : Int} {F : Ins} (hsw : Sw w y2 B5 ⟨op, 0, 0, 0, 0, 0, kk, 0⟩) (hkk : 0 ≤ kk ∧ kk < 4294967296) (hgr5 : gr ≠ B5)
    (r0 : y2.cell? ⟨gr, 0, none⟩ = some (.int .i64 (nth rs 0))) (r1 : y2.cell? ⟨gr, 1, none⟩ = some (.int .i64 (nth rs 1))) (r2 : y2.cell? ⟨gr, 2, none⟩ = some (.int .i64 (nth rs 2))) (r3 : y2.cell? ⟨gr, 3, none⟩ = some (.int .i64 (nth rs 3))) (h44 : 4 ≤ m4)
    (hdr : F = finI op rs ns kk) (hop : op = 20 ∨ op = 21)
    {u0 u1 u2 u3 u4 u6 u8 u9 u10 u11 u12 u15 u16 u17 u18 u19 u20 u21 u22 u23 u24 u25 u26 u27 u28 u29 u30 u31 u32 u33 u34 u35 u36 u37 u38 u39 u40 u41 u42 u43 u44 u45 u46 u47 u48 u49 u50 u51 u52 u53 u54 u55 u56 u57 u58 u59 u60 u61 u62 u63 u64 u65 u66 u67 u68 u69 u70 u71 u72 u73 u74 u75 u76 u77 u78 u79 u80 u81 u82 u83 u84 u85 u86 u87 u89 u90 u91 u92 u93 u94 u95 u96 u97 u98 u99 u100 u101 u102 u103 u104 u105 u106 u107 u108 u109 u110 u111 u112 u113 u114 u115 u116 u117 u118 u119 u120 u121 u122 u123 u124 u125 u126 u127 u128 u129 u130 u131 u132 u133 u134 u135 u136 u137 u138 u139 u140 u141 u142 u143 u144 u145 u146 u147 u148 u149 u150 u151 u152 u153 u154 u155 u156 u157 u158 u159 u160 u161 u162 u163 u164 u165 u166 u167 u168 u169 u170 u171 u172 u173 u174 u175 u176 u177 u178 u179 u180 u181 u182 u183 u184 u185 u186 u187 u188 u189 u190 u191 u192 u193 u194 u195 u196 u197 u198 u199 u200 u201 u202 u203 u204 u205 u206 u207 u208 u209 u210 u211 u212 u213 u214 u215 : Value} {Q' : Exit → Act → World → Prop} {J K : Act → World → Prop}
    (h1 : ∀ (a' : Act) (w' : World), (∃ v81 v82 v83 v84 v85 v86 v87 v88 v89 v90 v91 v92 v93 v94 v95 v96 v97 v98 v99 v100 v101 v102 v103 v104 v105 v106 v107 v108 v109 v110 v111 v112 v113 v114 v115 v116 v117 v118 v119 v120 v121 v122 v123 v124 v125 v126 v127 v128 v129 v130 v131 v132 v133 v134 v135 v136 v137 v138 v139 v140 v141 v142 v143 v144 v145 v146 v147 v148 v149 v150 v151 v152 v153 v154 v155 v156 v157 v158 v159 v160 v161 v162 v163 v164 v165 v166 v167 v168 v169 v170 v171 v172 v173 v174 v175 v176 v177 v178 v179 v180 v181 v182 v183 v184 v185 v186 v187 v188 v189 v190 v191 v192 v193 v194 v195 v196 v197 v198 v199 v200 v201 v202 v203 v204, (Sw w w' B5 F ∧ 0 ≤ F.k ∧ F.k < 4294967296) ∧ a' = ⟨#[u0, u1, u2, u3, u4, .pointer (some ⟨B5, 0, none⟩), u6, .slice (some ⟨gr, 0, none⟩) m4 rc, u8, u9, u10, u11, u12, .int .i64 (nth ns 0), .int .i64 (nth ns 1), u15, u16, u17, u18, u19, u20, u21, u22, u23, u24, u25, u26, u27, u28, u29, u30, u31, u32, u33, u34, u35, u36, u37, u38, u39, u40, u41, u42, u43, u44, u45, u46, u47, u48, u49, u50, u51, u52, u53, u54, u55, u56, u57, u58, u59, u60, u61, u62, u63, u64, u65, u66, u67, u68, u69, u70, u71, u72, u73, u74, u75, u76, u77, u78, u79, u80, v81, v82, v83, v84, v85, v86, v87, v88, v89, v90, v91, v92, v93, v94, v95, v96, v97, v98, v99, v100, v101, v102, v103, v104, v105, v106, v107, v108, v109, v110, v111, v112, v113, v114, v115, v116, v117, v118, v119, v120, v121, v122, v123, v124, v125, v126, v127, v128, v129, v130, v131, v132, v133, v134, v135, v136, v137, v138, v139, v140, v141, v142, v143, v144, v145, v146, v147, v148, v149, v150, v151, v152, v153, v154, v155, v156, v157, v158, v159, v160, v161, v162, v163, v164, v165, v166, v167, v168, v169, v170, v171, v172, v173, v174, v175, v176, v177, v178, v179, v180, v181, v182, v183, v184, v185, v186, v187, v188, v189, v190, v191, v192, v193, v194, v195, v196, v197, v198, v199, v200, v201, v202, v203, v204, u205, u206, u207, u208, u209, u210, u211, u212, u213, u214, u215], []⟩) → J a' w') (h2 : ∀ (a' : Act) (w' : World), Met J a' w' → K a' w') :
    (((Tryz.f102.body).bind (codeFind 8)).getD .skip).wp Tryz.prog (Exit.then K Q') ⟨#[u0, u1, u2, u3, u4, .pointer (some ⟨B5, 0, none⟩), u6, .slice (some ⟨gr, 0, none⟩) m4 rc, u8, u9, u10, u11, u12, .int .i64 (nth ns 0), .int .i64 (nth ns 1), u15, u16, u17, u18, u19, u20, u21, u22, u23, u24, u25, u26, u27, u28, u29, u30, u31, u32, u33, u34, u35, u36, u37, u38, u39, u40, u41, u42, u43, u44, u45, u46, u47, u48, u49, u50, u51, u52, u53, u54, u55, u56, u57, u58, u59, u60, u61, u62, u63, u64, u65, u66, u67, u68, u69, u70, u71, u72, u73, u74, u75, u76, u77, u78, u79, u80, u81, u82, u83, u84, u85, u86, u87, .int .i64 op, u89, u90, u91, u92, u93, u94, u95, u96, u97, u98, u99, u100, u101, u102, u103, u104, u105, u106, u107, u108, u109, u110, u111, u112, u113, u114, u115, u116, u117, u118, u119, u120, u121, u122, u123, u124, u125, u126, u127, u128, u129, u130, u131, u132, u133, u134, u135, u136, u137, u138, u139, u140, u141, u142, u143, u144, u145, u146, u147, u148, u149, u150, u151, u152, u153, u154, u155, u156, u157, u158, u159, u160, u161, u162, u163, u164, u165, u166, u167, u168, u169, u170, u171, u172, u173, u174, u175, u176, u177, u178, u179, u180, u181, u182, u183, u184, u185, u186, u187, u188, u189, u190, u191, u192, u193, u194, u195, u196, u197, u198, u199, u200, u201, u202, u203, u204, u205, u206, u207, u208, u209, u210, u211, u212, u213, u214, u215], []⟩ y2 := by
  have hc : ((Tryz.f102.body).bind (codeFind 8)) = some _ := rfl
  rw [hc]
  clear hc
  simp only [Option.getD_some]
  have HDR := Lib.hid hdr
  clear hdr
  have j0 : (0 : Int) < (m4 : Int) := by omega
  have j1 : (1 : Int) < (m4 : Int) := by omega
  have j2 : (2 : Int) < (m4 : Int) := by omega
  have j3 : (3 : Int) < (m4 : Int) := by omega
  have n0 : 0 < m4 := by omega
  have n1 : 1 < m4 := by omega
  have n2 : 2 < m4 := by omega
  have n3 : 3 < m4 := by omega
  have hoff : ∀ (W : World) (u : Value) (i j : Nat), (W.setCell ⟨B5, i, none⟩ u).cell? ⟨gr, j, none⟩ = W.cell? ⟨gr, j, none⟩ := fun W u i j => cell_off hgr5
  obtain ⟨c0, c1, c2, c3, c4, c5, c6, c7⟩ := hsw.ins.cells
  simp only at c0 c1 c2 c3 c4 c5 c6 c7
  have hfI := Bk.free hsw.ins
  rcases hop with rfl | rfl
  · skip
    have hD : F = ⟨20, nth rs 0, nth rs 1, nth rs 2, nth rs 3, nth ns 0, nth ns 1 % 4294967296, 0⟩ := HDR.out.trans (by simp [finI])
    have HD := Lib.hid hD
    clear hD
    go_wp2
    go_region_held3 (fun w' => w'.cell? ⟨gr, 0, none⟩ = some (.int .i64 (nth rs 0)) ∧ w'.cell? ⟨gr, 1, none⟩ = some (.int .i64 (nth rs 1)) ∧ w'.cell? ⟨gr, 2, none⟩ = some (.int .i64 (nth rs 2)) ∧ w'.cell? ⟨gr, 3, none⟩ = some (.int .i64 (nth rs 3))) (go_keep) ((fail))
    go_wp2
    go_meet
    case rel => exact ⟨by rw [HD.out]; exact (((((((hsw.put1 _).put2 _).put3 _).put4 _).put5 _).put6 _).drew), by rw [HD.out]; first | exact hkk.1 | exact Int.emod_nonneg _ (by decide), by rw [HD.out]; first | exact hkk.2 | exact Int.emod_lt_of_pos _ (by decide)⟩
  · skip
    have hD : F = ⟨21, nth rs 0, nth rs 1, nth rs 2, nth rs 3, nth ns 0, kk, nth ns 1⟩ := HDR.out.trans (by simp [finI])
    have HD := Lib.hid hD
    clear hD
    go_wp2
    go_region_held3 (fun w' => w'.cell? ⟨gr, 0, none⟩ = some (.int .i64 (nth rs 0)) ∧ w'.cell? ⟨gr, 1, none⟩ = some (.int .i64 (nth rs 1)) ∧ w'.cell? ⟨gr, 2, none⟩ = some (.int .i64 (nth rs 2)) ∧ w'.cell? ⟨gr, 3, none⟩ = some (.int .i64 (nth rs 3))) (go_keep) ((fail))
    go_wp2
    go_meet
    case rel => exact ⟨by rw [HD.out]; exact (((((((hsw.put1 _).put2 _).put3 _).put4 _).put5 _).put7 _).drew), by rw [HD.out]; first | exact hkk.1 | exact Int.emod_nonneg _ (by decide), by rw [HD.out]; first | exact hkk.2 | exact Int.emod_lt_of_pos _ (by decide)⟩
end Go.Proofs.YthdgehcghklflaaGreatDoor

/- The document's Spec of the ticket lock. -/
namespace Go.Proofs.YthdgehcghklflaaGreatDoor
set_option maxRecDepth 100000
open Go.ChangeShapes Go.WideShapes Go.ChangeAt Go.RowKit
set_option linter.unusedVariables false

/-- What an Assemble of the document's leaves. -/
def AsmD (w : World) (e : Ending) (w' : World) : Prop := ∃ sl, e = .returned (.tuple #[.agg #[sl, .int .i64 tkP.lo, .int .i64 tkP.un], .int .i64 0, .int .i64 0]) ∧ w'.ownsRow w.heap.size 125 8 sl tkP.l.length (progC tkP.l) ∧ Below w.heap.size w w'
theorem tkText_r (w : World) : Calls Tryz.prog 14 #[] w fun e w' => e = .returned (bs tkText) ∧ w = w' := by
  go_enter Tryz.func14, Tryz.ntmps14
  go_wp2
  go_ret
  exact ⟨rfl, rfl⟩
theorem tkText_c (w : World) : Calls Tryz.prog 13 #[] w fun e w' => e = .returned (bs tkText) ∧ w = w' := by
  go_enter Tryz.func13, Tryz.ntmps13
  go_wp2
  go_ret
  exact ⟨rfl, rfl⟩
set_option maxHeartbeats 4000000 in
theorem rSpecW (N : Nat) (st : Int) (w : World) (h1 : 1 ≤ N) (h64 : N ≤ 64) (h0 : 0 ≤ st) (h2 : st < 4294967296) (HA : ∀ W, Calls Tryz.prog 28 #[bs tkText] W (AsmD W)) :
    Calls Tryz.prog 9 #[.int .i64 N, .int .u32 st] w fun e w' => ∃ v, e = .returned (.tuple #[v, .bool true]) ∧ Rv w.heap.size w' v tkP [1, 1] [st, st] (tkR N) 0 ∧ Below w.heap.size w w' := by
  have HAA := Lib.hid HA
  have HT := Lib.hid (fun W => tkText_r W)
  unfold AsmD at HAA
  generalize tkP = c at *
  generalize bs tkText = tx at *
  have hmk := fun W : World => makeWords N (by omega) W
  have hb1 : Below w.heap.size w (w.alloc (.cells #[.slice none 0 0, .int .i64 0, .int .i64 0, .slice none 0 0, .slice none 0 0, .int .i64 0, .slice none 0 0] 37)) := (Below.refl _ _).alloc (Nat.le_refl _) _
  have q0 := Bk.made w 37 #[.slice none 0 0, .int .i64 0, .int .i64 0, .slice none 0 0, .slice none 0 0, .int .i64 0, .slice none 0 0]
  clear HA
  go_enter Tryz.func9, Tryz.ntmps9
  go_upto_region 3 with fail
  generalize w.alloc (.cells #[.slice none 0 0, .int .i64 0, .int .i64 0, .slice none 0 0, .slice none 0 0, .int .i64 0, .slice none 0 0] 37) = y at *
  have hq0 := Bk.lt q0
  go_upto_region 4 with fail
  obtain ⟨yb, hyb⟩ : ∃ yb, y.heap.size = yb := ⟨_, rfl⟩
  rw [hyb]
  have a1 := Bk.made y 3 #[.int .i64 1, .int .i64 1]
  generalize ez1 : y.alloc (.cells #[.int .i64 1, .int .i64 1] 3) = z1 at *
  have s1 : z1.heap.size = yb + 1 := by rw [← ez1, World.size_alloc, hyb]
  have bz1 : Below y.heap.size y z1 := by rw [← ez1]; exact (Below.refl _ _).alloc (Nat.le_refl _) _
  have a2 := Bk.made z1 22 #[.int .u32 st, .int .u32 st]
  generalize ez2 : z1.alloc (.cells #[.int .u32 st, .int .u32 st] 22) = z2 at *
  have s2 : z2.heap.size = yb + 1 + 1 := by rw [← ez2, World.size_alloc, s1]
  have bz2 : Below z1.heap.size z1 z2 := by rw [← ez2]; exact (Below.refl _ _).alloc (Nat.le_refl _) _
  have a3 := Bk.made z2 22 (madeCells #[.int .u32 0] N)
  generalize ez3 : z2.alloc (.cells (madeCells #[.int .u32 0] N) 22) = z3 at *
  have s3 : z3.heap.size = yb + 1 + 1 + 1 := by rw [← ez3, World.size_alloc, s2]
  have bz3 : Below z2.heap.size z2 z3 := by rw [← ez3]; exact (Below.refl _ _).alloc (Nat.le_refl _) _
  have a4 := Bk.made z3 37 #[.slice none 0 0, .int .i64 0, .int .i64 0, .slice (some ⟨yb, 0, none⟩) 2 2, .slice (some ⟨yb + 1, 0, none⟩) 2 2, .int .i64 0, .slice (some ⟨yb + 1 + 1, 0, none⟩) N N]
  generalize ez4 : z3.alloc (.cells #[.slice none 0 0, .int .i64 0, .int .i64 0, .slice (some ⟨yb, 0, none⟩) 2 2, .slice (some ⟨yb + 1, 0, none⟩) 2 2, .int .i64 0, .slice (some ⟨yb + 1 + 1, 0, none⟩) N N] 37) = z4 at *
  have bz4 : Below z3.heap.size z3 z4 := by rw [← ez4]; exact (Below.refl _ _).alloc (Nat.le_refl _) _
  rw [hyb] at a1
  rw [s1] at a2
  rw [s2] at a3
  rw [s3] at a4
  have c34 := bz4
  have c24 := bz3.trans (c34.mono bz3.size)
  have c14 := bz2.trans (c24.mono bz2.size)
  have c04 := bz1.trans (c14.mono bz1.size)
  replace a1 := (c14.block _ (by rw [s1]; omega)).trans a1
  replace a2 := (c24.block _ (by rw [s2]; omega)).trans a2
  replace a3 := (c34.block _ (by rw [s3]; omega)).trans a3
  have b4 := hb1.trans (c04.mono hb1.size)
  replace q0 : Bk z4 w.heap.size 37 #[.slice none 0 0, .int .i64 0, .int .i64 0, .slice none 0 0, .slice none 0 0, .int .i64 0, .slice none 0 0] := (c04.block _ (Bk.lt q0)).trans q0
  have hlt : w.heap.size < yb := by rw [← hyb]; exact hq0
  clear bz1 bz2 bz3 bz4 c34 c24 c14 c04 s1 s2 ez1 ez2 ez3 ez4
  have KA := Lib.hid (And.intro a1 (And.intro a2 (And.intro a3 (And.intro a4 (And.intro q0 b4)))))
  have HLT := Lib.hid hlt
  have HS3 := Lib.hid s3
  clear a1 a2 a3 a4 q0 b4 hb1 hmk hyb hlt hq0 s3
  go_wp2_with fail
  refine (HT.out _).mono ?_
  rintro e z0 ⟨rfl, rfl⟩
  go_wp2_with fail
  refine (HAA.out _).mono ?_
  rintro e z ⟨sl, rfl, hO, hz⟩
  obtain ⟨aL, cL, rfl, -⟩ := own_is hO
  have HZ := Lib.hid (And.intro hO hz)
  clear hO hz HAA HT
  go_upto_region 5 with fail
  have hlt := HLT.out
  obtain ⟨hO, hz⟩ := HZ.out
  obtain ⟨a1, a2, a3, a4, q0, b4⟩ := KA.out
  have q5 := Bk.made z 35 #[.slice aL c.l.length cL, .int .i64 c.lo, .int .i64 c.un]
  have hza : Below z.heap.size z (z.alloc (.cells #[.slice aL c.l.length cL, .int .i64 c.lo, .int .i64 c.un] 35)) := (Below.refl _ _).alloc (Nat.le_refl _) _
  have hO2 := own_below hO hza
  have hzz := hz.trans (hza.mono hz.size)
  have hsz4 := hz.size
  have lt4 := Bk.lt a4
  obtain ⟨zb, hzb⟩ : ∃ zb, z.heap.size = zb := ⟨_, rfl⟩
  rw [hzb] at q5
  rw [hzb]
  generalize z.alloc (.cells #[.slice aL c.l.length cL, .int .i64 c.lo, .int .i64 c.un] 35) = x at *
  replace a1 : Bk x yb 3 #[.int .i64 1, .int .i64 1] := (hzz.block _ (Bk.lt a1)).trans a1
  replace a2 : Bk x (yb + 1) 22 #[.int .u32 st, .int .u32 st] := (hzz.block _ (Bk.lt a2)).trans a2
  replace a3 : Bk x (yb + 1 + 1) 22 (madeCells #[.int .u32 0] N) := (hzz.block _ (Bk.lt a3)).trans a3
  replace a4 : Bk x (yb + 1 + 1 + 1) 37 #[.slice none 0 0, .int .i64 0, .int .i64 0, .slice (some ⟨yb, 0, none⟩) 2 2, .slice (some ⟨yb + 1, 0, none⟩) 2 2, .int .i64 0, .slice (some ⟨yb + 1 + 1, 0, none⟩) N N] := (hzz.block _ (Bk.lt a4)).trans a4
  replace q0 : Bk x w.heap.size 37 #[.slice none 0 0, .int .i64 0, .int .i64 0, .slice none 0 0, .slice none 0 0, .int .i64 0, .slice none 0 0] := (hzz.block _ (Bk.lt q0)).trans q0
  replace b4 := b4.trans (hzz.mono b4.size)
  have hne : yb + 1 + 1 + 1 ≠ zb := by omega
  clear hza hzz hz hO KA HZ
  -- the code is put into the spec
  obtain ⟨y0, y1, y2⟩ : x.cell? ⟨zb, 0, none⟩ = some (.slice aL c.l.length cL) ∧ x.cell? ⟨zb, 1, none⟩ = some (.int .i64 c.lo) ∧ x.cell? ⟨zb, 2, none⟩ = some (.int .i64 c.un) := ⟨q5.cell 0, q5.cell 1, q5.cell 2⟩
  obtain ⟨u0, u1, u2⟩ : x.cell? ⟨yb + 1 + 1 + 1, 0, none⟩ = some (.slice none 0 0) ∧ x.cell? ⟨yb + 1 + 1 + 1, 1, none⟩ = some (.int .i64 0) ∧ x.cell? ⟨yb + 1 + 1 + 1, 2, none⟩ = some (.int .i64 0) := ⟨a4.cell 0, a4.cell 1, a4.cell 2⟩
  have zf := Bk.free a4
  have w3 : Within x (put3 x (yb + 1 + 1 + 1) (.slice aL c.l.length cL) (.int .i64 c.lo) (.int .i64 c.un)) (fun i => i = yb + 1 + 1 + 1) := (((Within.refl x (fun i => i = yb + 1 + 1 + 1)).put _ 0 _ (.inl rfl)).put _ 1 _ (.inl rfl)).put _ 2 _ (.inl rfl)
  have k4 : Bk (put3 x (yb + 1 + 1 + 1) (.slice aL c.l.length cL) (.int .i64 c.lo) (.int .i64 c.un)) (yb + 1 + 1 + 1) 37 #[.slice aL c.l.length cL, .int .i64 c.lo, .int .i64 c.un, .slice (some ⟨yb, 0, none⟩) 2 2, .slice (some ⟨yb + 1, 0, none⟩) 2 2, .int .i64 0, .slice (some ⟨yb + 1 + 1, 0, none⟩) N N] := by
    have h8 := ((a4.put 0 (.slice aL c.l.length cL)).put 1 (.int .i64 c.lo)).put 2 (.int .i64 c.un)
    unfold put3
    simpa only [List.setIfInBounds_toArray, List.set_cons_zero, List.set_cons_succ] using h8
  have b5 := put3_below b4 (show w.heap.size ≤ yb + 1 + 1 + 1 by omega) (.slice aL c.l.length cL) (.int .i64 c.lo) (.int .i64 c.un)
  have o5 := own_safe hO2 w3 a4 (by decide)
  have a1' := a1.within w3 (Bk.unlike a1 a4 (by decide))
  have a2' := a2.within w3 (Bk.unlike a2 a4 (by decide))
  have a3' := a3.within w3 (Bk.unlike a3 a4 (by decide))
  have q0' := q0.within w3 (show ¬ w.heap.size = yb + 1 + 1 + 1 by omega)
  clear q5 a1 a2 a3 a4 q0 b4 hO2 w3
  go_upto_region 6 with fail
  clear y0 y1 y2 u0 u1 u2 zf
  generalize hv : ((x.setCell ⟨yb + 1 + 1 + 1, 0, none⟩ (.slice aL c.l.length cL)).setCell ⟨yb + 1 + 1 + 1, 1, none⟩ (.int .i64 c.lo)).setCell ⟨yb + 1 + 1 + 1, 2, none⟩ (.int .i64 c.un) = x2
  replace hv : put3 x (yb + 1 + 1 + 1) (.slice aL c.l.length cL) (.int .i64 c.lo) (.int .i64 c.un) = x2 := hv
  rw [hv] at k4 b5 o5 a1' a2' a3' q0'
  clear hv
  obtain ⟨u0, u1, u2, u3, u4, u5, u6⟩ : x2.cell? ⟨yb + 1 + 1 + 1, 0, none⟩ = some (.slice aL c.l.length cL) ∧ x2.cell? ⟨yb + 1 + 1 + 1, 1, none⟩ = some (.int .i64 c.lo) ∧ x2.cell? ⟨yb + 1 + 1 + 1, 2, none⟩ = some (.int .i64 c.un) ∧ x2.cell? ⟨yb + 1 + 1 + 1, 3, none⟩ = some (.slice (some ⟨yb, 0, none⟩) 2 2) ∧ x2.cell? ⟨yb + 1 + 1 + 1, 4, none⟩ = some (.slice (some ⟨yb + 1, 0, none⟩) 2 2) ∧ x2.cell? ⟨yb + 1 + 1 + 1, 5, none⟩ = some (.int .i64 0) ∧ x2.cell? ⟨yb + 1 + 1 + 1, 6, none⟩ = some (.slice (some ⟨yb + 1 + 1, 0, none⟩) N N) := ⟨k4.cell 0, k4.cell 1, k4.cell 2, k4.cell 3, k4.cell 4, k4.cell 5, k4.cell 6⟩
  obtain ⟨v0, v1, v2, v3, v4, v5, v6⟩ : x2.cell? ⟨w.heap.size, 0, none⟩ = some (.slice none 0 0) ∧ x2.cell? ⟨w.heap.size, 1, none⟩ = some (.int .i64 0) ∧ x2.cell? ⟨w.heap.size, 2, none⟩ = some (.int .i64 0) ∧ x2.cell? ⟨w.heap.size, 3, none⟩ = some (.slice none 0 0) ∧ x2.cell? ⟨w.heap.size, 4, none⟩ = some (.slice none 0 0) ∧ x2.cell? ⟨w.heap.size, 5, none⟩ = some (.int .i64 0) ∧ x2.cell? ⟨w.heap.size, 6, none⟩ = some (.slice none 0 0) := ⟨q0'.cell 0, q0'.cell 1, q0'.cell 2, q0'.cell 3, q0'.cell 4, q0'.cell 5, q0'.cell 6⟩
  have zf := Bk.free q0'
  have w7 := put7_within (y := x2) (g := w.heap.size) (.slice aL c.l.length cL) (.int .i64 c.lo) (.int .i64 c.un) (.slice (some ⟨yb, 0, none⟩) 2 2) (.slice (some ⟨yb + 1, 0, none⟩) 2 2) (.int .i64 0) (.slice (some ⟨yb + 1 + 1, 0, none⟩) N N)
  have k7 := put7_bk q0' (.slice aL c.l.length cL) (.int .i64 c.lo) (.int .i64 c.un) (.slice (some ⟨yb, 0, none⟩) 2 2) (.slice (some ⟨yb + 1, 0, none⟩) 2 2) (.int .i64 0) (.slice (some ⟨yb + 1 + 1, 0, none⟩) N N)
  have b7 := put7_below b5 (Nat.le_refl _) (.slice aL c.l.length cL) (.int .i64 c.lo) (.int .i64 c.un) (.slice (some ⟨yb, 0, none⟩) 2 2) (.slice (some ⟨yb + 1, 0, none⟩) 2 2) (.int .i64 0) (.slice (some ⟨yb + 1 + 1, 0, none⟩) N N)
  have o7 := own_safe o5 w7 q0' (by decide)
  have a17 := a1'.within w7 (Bk.unlike a1' q0' (by decide))
  have a27 := a2'.within w7 (Bk.unlike a2' q0' (by decide))
  have a37 := a3'.within w7 (Bk.unlike a3' q0' (by decide))
  have hsz : w.heap.size ≤ z.heap.size := by omega
  have KK := Lib.hid (And.intro k7 (And.intro b7 (And.intro (World.ownsRow.mono (base' := w.heap.size) o7 (by omega)) (And.intro a17 (And.intro a27 a37)))))
  clear k7 b7 o7 a17 a27 a37 w7 k4 b5 o5 a1' a2' a3' q0'
  go_wp
  clear u0 u1 u2 u3 u4 u5 u6 v0 v1 v2 v3 v4 v5 v6 zf
  generalize hv : (((((((x2.setCell ⟨w.heap.size, 0, none⟩ (.slice aL c.l.length cL)).setCell ⟨w.heap.size, 1, none⟩ (.int .i64 c.lo)).setCell ⟨w.heap.size, 2, none⟩ (.int .i64 c.un)).setCell ⟨w.heap.size, 3, none⟩ (.slice (some ⟨yb, 0, none⟩) 2 2)).setCell ⟨w.heap.size, 4, none⟩ (.slice (some ⟨yb + 1, 0, none⟩) 2 2)).setCell ⟨w.heap.size, 5, none⟩ (.int .i64 0)).setCell ⟨w.heap.size, 6, none⟩ (.slice (some ⟨yb + 1 + 1, 0, none⟩) N N)) = x9
  replace hv : put7 x2 w.heap.size (.slice aL c.l.length cL) (.int .i64 c.lo) (.int .i64 c.un) (.slice (some ⟨yb, 0, none⟩) 2 2) (.slice (some ⟨yb + 1, 0, none⟩) 2 2) (.int .i64 0) (.slice (some ⟨yb + 1 + 1, 0, none⟩) N N) = x9 := hv
  rw [hv] at KK
  obtain ⟨hq, b9, o9, k1, k2, k3⟩ := KK.out
  obtain ⟨y0, y1, y2, y3, y4, y5, y6⟩ : x9.cell? ⟨w.heap.size, 0, none⟩ = some (.slice aL c.l.length cL) ∧ x9.cell? ⟨w.heap.size, 1, none⟩ = some (.int .i64 c.lo) ∧ x9.cell? ⟨w.heap.size, 2, none⟩ = some (.int .i64 c.un) ∧ x9.cell? ⟨w.heap.size, 3, none⟩ = some (.slice (some ⟨yb, 0, none⟩) 2 2) ∧ x9.cell? ⟨w.heap.size, 4, none⟩ = some (.slice (some ⟨yb + 1, 0, none⟩) 2 2) ∧ x9.cell? ⟨w.heap.size, 5, none⟩ = some (.int .i64 0) ∧ x9.cell? ⟨w.heap.size, 6, none⟩ = some (.slice (some ⟨yb + 1 + 1, 0, none⟩) N N) := ⟨hq.cell 0, hq.cell 1, hq.cell 2, hq.cell 3, hq.cell 4, hq.cell 5, hq.cell 6⟩
  exact bodyPost_ret (v := .tuple #[.agg #[.slice aL c.l.length cL, .int .i64 c.lo, .int .i64 c.un, .slice (some ⟨yb, 0, none⟩) 2 2, .slice (some ⟨yb + 1, 0, none⟩) 2 2, .int .i64 0, .slice (some ⟨yb + 1 + 1, 0, none⟩) N N], .bool true]) (by simp [results, Tryz.results9, go_sem, y0, y1, y2, y3, y4, y5, y6]) rfl ⟨_, rfl, ⟨_, _, 2, _, 2, _, N, by rw [show (tkR N).length = N from List.length_replicate]; rfl, o9, given_two k1, given_two k2, given_zeros k3, by simp [maxLen], by simp [maxLen], by rw [show (tkR N).length = N from List.length_replicate]; unfold maxLen; omega⟩, b9⟩
end Go.Proofs.YthdgehcghklflaaGreatDoor

/- asm.cutLast, asm.instOf. -/
namespace Go.Proofs.YthdgehcghklflaaGreatDoor
open Go.ChangeShapes Go.WideShapes Go.ChangeAt Go.RowKit Go.Shelf
set_option linter.unusedVariables false

theorem at_bang (s : List UInt8) (j : Nat) (h : j < s.length) : (⟨s.toArray⟩ : ByteArray).data[j]! = s[j] := by
  simp [h]
theorem last_no (s : List UInt8) (h : Bf s) : Lib.lastIndexByte ⟨s.toArray⟩ 32 = -1 := by
  have hz : (⟨s.toArray⟩ : ByteArray).size = s.length := by show s.toArray.size = _; simp
  unfold Lib.lastIndexByte
  rw [hz]
  rcases Lib.lastIdx_spec ⟨s.toArray⟩ 32 s.length with ⟨e, -⟩ | ⟨i, hi, e, hc, -⟩
  · exact e
  · exfalso
    rw [at_bang s i hi] at hc
    exact h _ (List.getElem_mem hi) (UInt8.toNat_inj.1 (by simpa using Int.ofNat.inj hc))
theorem last_yes (a b : List UInt8) (h : Bf b) : Lib.lastIndexByte ⟨(a ++ 32 :: b).toArray⟩ 32 = a.length := by
  have hz : (⟨(a ++ 32 :: b).toArray⟩ : ByteArray).size = (a ++ 32 :: b).length := by show (a ++ 32 :: b).toArray.size = _; simp
  unfold Lib.lastIndexByte
  rw [hz]
  have hl : a.length < (a ++ 32 :: b).length := by simp
  have h32 : (((⟨(a ++ 32 :: b).toArray⟩ : ByteArray).data[a.length]!).toNat : Int) = 32 := by
    rw [at_bang _ _ hl]
    simp
  rcases Lib.lastIdx_spec ⟨(a ++ 32 :: b).toArray⟩ 32 (a ++ 32 :: b).length with ⟨e, hn⟩ | ⟨i, hi, e, hc, hn⟩
  · exact absurd h32 (hn _ hl)
  · rw [e]
    by_cases h1 : i < a.length
    · exact absurd h32 (hn _ h1 hl)
    by_cases h2 : a.length < i
    · exfalso
      rw [at_bang _ i hi] at hc
      have hm : (a ++ 32 :: b)[i] ∈ b := by
        rw [List.getElem_append_right (by omega)]
        obtain ⟨k, hk⟩ : ∃ k, i - a.length = k + 1 := ⟨i - a.length - 1, by omega⟩
        simp only [hk, List.getElem_cons_succ]
        exact List.getElem_mem _
      exact h _ hm (UInt8.toNat_inj.1 (by simpa using Int.ofNat.inj hc))
    · have : i = a.length := by omega
      rw [this]

theorem lLast (s : List UInt8) (hl : s.length < 1000000) (w : World) :
    Calls Tryz.prog 160 #[bs s, .int .u8 32] w fun e w' => e = .returned (.int .i64 (Lib.lastIndexByte ⟨s.toArray⟩ 32)) ∧ w = w' :=
  (Any.strings_LastIndexByte Tryz.lays149 ⟨s.toArray⟩ 32 (by show s.toArray.size < _; simp; omega) w).mono fun _ _ ⟨he, hw⟩ => ⟨he, hw.symm⟩

/-- What stands ahead of place n of a text, and from there on. -/
theorem run_ahead (s : List UInt8) (n : Nat) (h : n ≤ s.length) (w : World) : (Instr.slice 9 (.string ⟨s.toArray⟩) none (some (.int .i64 n)) none).run Tryz.prog w = .ok (.string ⟨(s.take n).toArray⟩) w := by
  have hu := Tryz.underlying9
  go_simp
  refine ByteArray.ext ?_
  rw [ByteArray.data_extract]
  apply Array.ext'
  simp
theorem run_from (s : List UInt8) (n : Nat) (h : n ≤ s.length) (w : World) : (Instr.slice 9 (.string ⟨s.toArray⟩) (some (.int .i64 n)) none none).run Tryz.prog w = .ok (.string ⟨(s.drop n).toArray⟩) w := by
  have hu := Tryz.underlying9
  go_simp
  refine ByteArray.ext ?_
  rw [ByteArray.data_extract]
  apply Array.ext'
  simp
  try exact List.take_of_length_le (by simp)

theorem cutLast_is (s : List UInt8) : ∃ n : Nat, n ≤ s.length ∧ Lib.lastIndexByte ⟨s.toArray⟩ 32 + 1 = n ∧ -1 ≤ Lib.lastIndexByte ⟨s.toArray⟩ 32 ∧ s.take n = headW s ∧ s.drop n = lastW s := by
  rcases last_blank s with h | ⟨a, b, hb, rfl⟩
  · refine ⟨0, by omega, by rw [last_no s h]; rfl, by rw [last_no s h]; omega, ?_, ?_⟩
    · unfold headW lastW
      rw [wordsL_one s h]
      simp
    · unfold lastW
      rw [wordsL_one s h]
      simp
  · refine ⟨a.length + 1, by simp, by rw [last_yes a b hb]; rfl, by rw [last_yes a b hb]; omega, ?_, ?_⟩
    · rw [headW_cat a b hb, show a ++ 32 :: b = (a ++ [32]) ++ b by simp, show a.length + 1 = (a ++ [32]).length by simp, List.take_left]
    · rw [lastW_cat a b hb, show a ++ 32 :: b = (a ++ [32]) ++ b by simp, show a.length + 1 = (a ++ [32]).length by simp, List.drop_left]

theorem cCutLast (s : List UInt8) (hl : s.length < 1000000) (w : World) :
    Calls Tryz.prog 139 #[bs s] w fun e w' => e = .returned (.tuple #[bs (headW s), bs (lastW s)]) ∧ Below w.heap.size w w' := by
  obtain ⟨n, hn, he, h0, h1, h2⟩ := cutLast_is s
  have HL := Lib.hid (fun W => lLast s hl W)
  have r1 := run_ahead s n hn
  have r2 := run_from s n hn
  rw [← h1, ← h2]
  have hwr : wrap64 (Lib.lastIndexByte ⟨s.toArray⟩ 32 + 1) = (n : Int) := by rw [he]; unfold wrap64; omega
  have HE := Lib.hid he
  clear he h1 h2
  generalize Lib.lastIndexByte ⟨s.toArray⟩ 32 = i at *
  unfold bs
  go_enter Tryz.func139, Tryz.ntmps139
  go_wp2_with fail
  refine (HL.out _).mono ?_
  rintro e w' ⟨rfl, rfl⟩
  go_wp2
  go_region
  go_wp2
  go_ret2
  exact ⟨rfl, (Below.refl _ _).drew⟩

/-- What inst.Parse answers is what the document reads. -/
theorem prs_prog (s : List UInt8) : prs s = if parseB s = true then some (parsedI s) else none := by
  by_cases h : parseB s = true
  · rw [if_pos h, prs_iff]
    have h2 := h
    unfold parseB at h2
    simp only [Bool.and_eq_true, decide_eq_true_eq] at h2
    have hw : (parsedI s).Wf := draft_wf _
    exact ⟨h2.1, hw.k0, hw.k1, h2.2⟩
  · rw [if_neg h]
    cases hp : prs s with
    | none => rfl
    | some i =>
      obtain ⟨h1, h2, h3, rfl⟩ := (prs_iff _ _).1 hp
      exact absurd (parse_text i h1 h2 h3).1 h
/-- What Parse answers, by what is read. -/
def parsV : Option Ins → Value
  | some i => .tuple #[iv i, .int .i64 0]
  | none => .tuple #[iv Ins.zero, .int .i64 8]
theorem parseV_prs (s : List UInt8) : parseV s = parsV (prs s) := by
  unfold parseV parsV
  rw [prs_prog]
  by_cases h : parseB s = true
  · simp [h]
  · simp [h]
theorem prs_right {s : List UInt8} {i : Ins} (h : prs s = some i) : rightB i 1073741824 = true := ((prs_iff _ _).1 h).1
theorem right_at_pl {i : Ins} {p : Int} (hr : rightB i p = true) (h : i.op = 21) : -1 ≤ i.pl := by
  obtain ⟨op, d, s, t, u, a, k, pl⟩ := i
  simp only at h
  subst h
  unfold rightB at hr
  simp [hsL, inB, lowI, endI, getI] at hr
  show -1 ≤ pl
  omega
theorem place_goes {i : Ins} {p : Int} (hr : rightB i p = true) : placeB i = goesB i := by
  unfold placeB goesB
  have h := fun e => right_at_pl hr e
  rw [Bool.eq_iff_iff]
  simp only [Bool.or_eq_true, Bool.and_eq_true, decide_eq_true_eq]
  constructor
  · rintro (e | ⟨e, e2⟩)
    · left; omega
    · right; have := h e; exact ⟨e, by omega⟩
  · rintro (e | ⟨e, e2⟩)
    · left; omega
    · right; exact ⟨e, by omega⟩

/-- What instOf answers. -/
def instOfV (s : List UInt8) : Value := match lineL s with
  | some (i, nm) => .tuple #[iv i, bs nm, .bool true]
  | none => .tuple #[iv Ins.zero, bs [], .bool false]
def tailV : Option Ins → Value
  | some j => if placeB j = true then .tuple #[iv Ins.zero, bs [], .bool false] else .tuple #[iv j, bs [], .bool true]
  | none => .tuple #[iv Ins.zero, bs [], .bool false]
def headV (la : List UInt8) (t : Value) : Option Ins → Value
  | some i => if placeB i = true then .tuple #[iv i, bs la, .bool true] else t
  | none => t
/-- .. in its own order. -/
theorem instOf_is (s : List UInt8) : instOfV s = headV (lastW s) (tailV (prs s)) (if nameB (lastW s) = true then prs (headW s ++ [48]) else none) := by
  unfold headV tailV
  unfold instOfV lineL
  by_cases hn : nameB (lastW s) = true
  · simp only [hn, if_true, and_true]
    cases h1 : prs (headW s ++ [48]) with
    | none =>
      cases h2 : prs s with
      | none => simp
      | some j =>
        have := place_goes (prs_right h2)
        by_cases hg : goesB j = true <;> simp [this, hg]
    | some i =>
      have e1 := place_goes (prs_right h1)
      by_cases hi : goesB i = true
      · simp [e1, hi]
      · cases h2 : prs s with
        | none => simp [e1, hi]
        | some j =>
          have := place_goes (prs_right h2)
          by_cases hg : goesB j = true <;> simp [e1, hi, this, hg]
  · simp only [hn]
    cases h1 : prs (headW s ++ [48]) <;> cases h2 : prs s with
    | none => simp
    | some j =>
      have := place_goes (prs_right h2)
      by_cases hg : goesB j = true <;> simp [this, hg]

set_option maxHeartbeats 2000000 in
theorem cInstOf (s : List UInt8) (hl : s.length < 100000) (w : World) (L : Lb w) :
    Calls Tryz.prog 98 #[bs s] w fun e w' => e = .returned (instOfV s) ∧ Below w.heap.size w w' := by
  have hh : (headW s).length ≤ s.length := by unfold headW; simp
  have hc := cat_bs (headW s) [48]
  have hc2 : ¬ 9223372036854775807 < (headW s).length + 1 := by omega
  have HC := Lib.hid (fun W => cCutLast s (by omega) W)
  have HN := Lib.hid (fun W => cIsName (lastW s) W)
  have HP0 := Lib.hid (fun W LW => cParse (headW s ++ [48]) (by simp; omega) W LW)
  have HP := Lib.hid (fun W LW => cParse s (by omega) W LW)
  have HE := Lib.hid (instOf_is s)
  rw [parseV_prs] at HP0 HP
  have HL := Lib.hid (fun (W : World) (h : Below w.heap.size w W) => L.below h)
  generalize instOfV s = res at *
  generalize hA : headW s = hd at *
  generalize hB : lastW s = la at *
  clear hA hB hh L
  generalize prs (hd ++ [48]) = p0 at *
  generalize prs s = p1 at *
  unfold bs
  go_enter Tryz.func98, Tryz.ntmps98
  go_wp2_with fail
  have b1 : Below w.heap.size w (w.alloc (.cells #[.int .i64 0, .int .i64 0, .int .i64 0, .int .i64 0, .int .i64 0, .int .i64 0, .int .u32 0, .int .i64 0] 119)) := (Below.refl _ _).alloc (Nat.le_refl _) _
  have m1 : Ib (w.alloc (.cells #[.int .i64 0, .int .i64 0, .int .i64 0, .int .i64 0, .int .i64 0, .int .i64 0, .int .u32 0, .int .i64 0] 119)) w.heap.size Ins.zero := Bk.made _ _ _
  generalize w.alloc (.cells #[.int .i64 0, .int .i64 0, .int .i64 0, .int .i64 0, .int .i64 0, .int .i64 0, .int .u32 0, .int .i64 0] 119) = x1 at *
  refine (HC.out x1).mono ?_
  rintro e x2 ⟨rfl, b2⟩
  replace m1 := m1.below b2
  replace b2 := b1.trans (b2.mono b1.size)
  clear b1 x1
  unfold bs
  go_wp2_with fail
  refine (HN.out x2).mono ?_
  rintro e x3 ⟨rfl, b3⟩
  replace m1 := m1.below b3
  replace b3 := b2.trans (b3.mono b2.size)
  clear b2 x2
  have HT : Hid (∀ i, p0 = some i → nameB la = true → placeB i = true → res = .tuple #[iv i, bs la, .bool true]) := Lib.hid fun i h1 h2 h3 => by
    rw [HE.out, h1, h2]; simp [headV, h3]
  have HU : Hid ((nameB la = true → p0 = none ∨ ∃ i, p0 = some i ∧ placeB i = false) → res = tailV p1) := Lib.hid fun h => by
    rw [HE.out]
    by_cases hn : nameB la = true
    · rcases h hn with e | ⟨i, e, e2⟩
      · rw [e]; simp [headV]
      · rw [e, if_pos hn]; simp [headV, e2]
    · rw [if_neg hn]; rfl
  clear HE HC HN
  have hp : Hid (∀ (i : Ins) (W : World), Calls Tryz.prog 141 #[iv i] W fun e w' => e = .returned (.bool (placeB i)) ∧ Below W.heap.size W w') := Lib.hid fun i W => cHasPlace i W
  rcases hn : nameB la
  case' false =>
    replace HU := Lib.hid (HU.out (by rw [hn]; simp))
    clear hn HT HP0 hc hc2
    go_wp2_with fail
    have bb := b3
    clear b3
  case' true =>
    go_wp2_with fail
    refine (HP0.out x3 (HL.out _ b3)).mono ?_
    rintro e x4 ⟨rfl, b4⟩
    replace m1 := m1.below b4
    replace b4 := b3.trans (b4.mono b3.size)
    clear b3 x3 HP0
    rcases p0 with _ | ⟨op, d, s', t, u, a, k, pl⟩
    case' none =>
      replace HU := Lib.hid (HU.out (by simp))
      clear HT hn
      rw [show parsV none = .tuple #[.agg #[.int .i64 0, .int .i64 0, .int .i64 0, .int .i64 0, .int .i64 0, .int .i64 0, .int .u32 0, .int .i64 0], .int .i64 8] from rfl]
      go_wp2_with fail
      replace m1 : Ib (x4.alloc (.cells #[.int .i64 0, .int .i64 0, .int .i64 0, .int .i64 0, .int .i64 0, .int .i64 0, .int .u32 0, .int .i64 0] 119)) w.heap.size Ins.zero := Bk.alloc m1 _
      have bb := b4.alloc (o := .cells #[.int .i64 0, .int .i64 0, .int .i64 0, .int .i64 0, .int .i64 0, .int .i64 0, .int .u32 0, .int .i64 0] 119) b4.size
      clear b4
      generalize x4.alloc (.cells #[.int .i64 0, .int .i64 0, .int .i64 0, .int .i64 0, .int .i64 0, .int .i64 0, .int .u32 0, .int .i64 0] 119) = x3 at *
    case' some =>
      rw [show parsV (some ⟨op, d, s', t, u, a, k, pl⟩) = .tuple #[.agg #[.int .i64 op, .int .i64 d, .int .i64 s', .int .i64 t, .int .i64 u, .int .i64 a, .int .u32 k, .int .i64 pl], .int .i64 0] from rfl]
      go_upto_region 4 with fail
      have m2 := Ib.made x4 op d s' t u a k pl
      have hne : w.heap.size ≠ x4.heap.size := Nat.ne_of_lt (Bk.lt m1)
      replace m1 : Ib (x4.alloc (.cells #[.int .i64 op, .int .i64 d, .int .i64 s', .int .i64 t, .int .i64 u, .int .i64 a, .int .u32 k, .int .i64 pl] 119)) w.heap.size Ins.zero := Bk.alloc m1 _
      replace b4 := b4.alloc (o := .cells #[.int .i64 op, .int .i64 d, .int .i64 s', .int .i64 t, .int .i64 u, .int .i64 a, .int .u32 k, .int .i64 pl] 119) b4.size
      generalize x4.heap.size = g at *
      generalize x4.alloc (.cells #[.int .i64 op, .int .i64 d, .int .i64 s', .int .i64 t, .int .i64 u, .int .i64 a, .int .u32 k, .int .i64 pl] 119) = x3 at *
      obtain ⟨c0, c1, c2, c3, c4, c5, c6, c7⟩ := m2.cells
      simp only at c0 c1 c2 c3 c4 c5 c6 c7
      go_wp2_with fail
      refine (hp.out ⟨op, d, s', t, u, a, k, pl⟩ x3).mono ?_
      rintro e x5 ⟨rfl, b5⟩
      replace m1 := m1.below b5
      replace m2 := m2.below b5
      have bb := b4.trans (b5.mono b4.size)
      clear c0 c1 c2 c3 c4 c5 c6 c7 b4 b5 x3
      rcases hq : placeB ⟨op, d, s', t, u, a, k, pl⟩
      case' false =>
        replace HU := Lib.hid (HU.out fun _ => .inr ⟨_, rfl, hq⟩)
        clear HT hn hq m2
        go_wp2_with fail
      case' true =>
        replace HT := Lib.hid (HT.out _ rfl hn hq)
        clear HU hn hq HP hp
        obtain ⟨c0, c1, c2, c3, c4, c5, c6, c7⟩ := m2.cells
        simp only at c0 c1 c2 c3 c4 c5 c6 c7
        obtain ⟨r0, r1, r2, r3, r4, r5, r6, r7⟩ := m1.cells
        have hfR := Bk.free m1
        unfold Ins.zero at r0 r1 r2 r3 r4 r5 r6 r7
        simp only at r0 r1 r2 r3 r4 r5 r6 r7
        go_wp2
        generalize hv : ((((((((x5.setCell ⟨w.heap.size, 0, none⟩ (.int .i64 op)).setCell ⟨w.heap.size, 1, none⟩ (.int .i64 d)).setCell ⟨w.heap.size, 2, none⟩ (.int .i64 s')).setCell ⟨w.heap.size, 3, none⟩ (.int .i64 t)).setCell ⟨w.heap.size, 4, none⟩ (.int .i64 u)).setCell ⟨w.heap.size, 5, none⟩ (.int .i64 a)).setCell ⟨w.heap.size, 6, none⟩ (.int .u32 k)).setCell ⟨w.heap.size, 7, none⟩ (.int .i64 pl)) = v9
        have hv2 : put8 x5 w.heap.size ⟨op, d, s', t, u, a, k, pl⟩ = v9 := hv
        clear hv
        have hA := put8_ib (i := ⟨op, d, s', t, u, a, k, pl⟩) m1
        have hC := put8_below (i := ⟨op, d, s', t, u, a, k, pl⟩) bb (Nat.le_refl _)
        rw [hv2] at hA hC
        clear hv2
        obtain ⟨q0, q1, q2, q3, q4, q5, q6, q7⟩ := hA.cells
        simp only at q0 q1 q2 q3 q4 q5 q6 q7
        refine bodyPost_ret (v := .tuple #[.agg #[.int .i64 op, .int .i64 d, .int .i64 s', .int .i64 t, .int .i64 u, .int .i64 a, .int .u32 k, .int .i64 pl], .string ⟨la.toArray⟩, .bool true]) (by simp [results, Tryz.results98, go_sem, q0, q1, q2, q3, q4, q5, q6, q7]) rfl ⟨?_, hC⟩
        rw [HT.out]; rfl
  all_goals (
    refine (HP.out _ (HL.out _ bb)).mono ?_
    rintro e y ⟨rfl, hby⟩
    replace m1 := m1.below hby
    replace bb := bb.trans (hby.mono bb.size)
    clear hby HP
    obtain ⟨r0, r1, r2, r3, r4, r5, r6, r7⟩ := m1.cells
    have hfR := Bk.free m1
    unfold Ins.zero at r0 r1 r2 r3 r4 r5 r6 r7
    simp only at r0 r1 r2 r3 r4 r5 r6 r7
    rcases p1 with _ | ⟨op, d, s', t, u, a, k, pl⟩
    · rw [show parsV none = .tuple #[.agg #[.int .i64 0, .int .i64 0, .int .i64 0, .int .i64 0, .int .i64 0, .int .i64 0, .int .u32 0, .int .i64 0], .int .i64 8] from rfl]
      go_upto_region 7 with fail
      generalize hv : ((((((((y.setCell ⟨w.heap.size, 0, none⟩ (.int .i64 0)).setCell ⟨w.heap.size, 1, none⟩ (.int .i64 0)).setCell ⟨w.heap.size, 2, none⟩ (.int .i64 0)).setCell ⟨w.heap.size, 3, none⟩ (.int .i64 0)).setCell ⟨w.heap.size, 4, none⟩ (.int .i64 0)).setCell ⟨w.heap.size, 5, none⟩ (.int .i64 0)).setCell ⟨w.heap.size, 6, none⟩ (.int .u32 0)).setCell ⟨w.heap.size, 7, none⟩ (.int .i64 0)) = y2
      have hv2 : put8 y w.heap.size ⟨0, 0, 0, 0, 0, 0, 0, 0⟩ = y2 := hv
      clear hv
      replace m1 := put8_ib (i := ⟨0, 0, 0, 0, 0, 0, 0, 0⟩) m1
      replace bb := put8_below (i := ⟨0, 0, 0, 0, 0, 0, 0, 0⟩) bb (Nat.le_refl _)
      rw [hv2] at m1 bb
      clear hv2 r0 r1 r2 r3 r4 r5 r6 r7 hfR
      obtain ⟨r0, r1, r2, r3, r4, r5, r6, r7⟩ := m1.cells
      have hfR := Bk.free m1
      simp only at r0 r1 r2 r3 r4 r5 r6 r7
      go_wp2
      generalize hv : ((((((((y2.setCell ⟨w.heap.size, 0, none⟩ (.int .i64 0)).setCell ⟨w.heap.size, 1, none⟩ (.int .i64 0)).setCell ⟨w.heap.size, 2, none⟩ (.int .i64 0)).setCell ⟨w.heap.size, 3, none⟩ (.int .i64 0)).setCell ⟨w.heap.size, 4, none⟩ (.int .i64 0)).setCell ⟨w.heap.size, 5, none⟩ (.int .i64 0)).setCell ⟨w.heap.size, 6, none⟩ (.int .u32 0)).setCell ⟨w.heap.size, 7, none⟩ (.int .i64 0)) = v9
      have hv2 : put8 y2 w.heap.size ⟨0, 0, 0, 0, 0, 0, 0, 0⟩ = v9 := hv
      clear hv
      have hA := put8_ib (i := ⟨0, 0, 0, 0, 0, 0, 0, 0⟩) m1
      have hC := put8_below (i := ⟨0, 0, 0, 0, 0, 0, 0, 0⟩) bb (Nat.le_refl _)
      rw [hv2] at hA hC
      clear hv2
      obtain ⟨q0, q1, q2, q3, q4, q5, q6, q7⟩ := hA.cells
      simp only at q0 q1 q2 q3 q4 q5 q6 q7
      refine bodyPost_ret (v := .tuple #[.agg #[.int .i64 0, .int .i64 0, .int .i64 0, .int .i64 0, .int .i64 0, .int .i64 0, .int .u32 0, .int .i64 0], .string ⟨#[]⟩, .bool false]) (by simp [results, Tryz.results98, go_sem, q0, q1, q2, q3, q4, q5, q6, q7]) rfl ⟨?_, hC⟩
      rw [HU.out]; rfl
    · rw [show parsV (some ⟨op, d, s', t, u, a, k, pl⟩) = .tuple #[.agg #[.int .i64 op, .int .i64 d, .int .i64 s', .int .i64 t, .int .i64 u, .int .i64 a, .int .u32 k, .int .i64 pl], .int .i64 0] from rfl]
      go_upto_region 7 with fail
      generalize hv : ((((((((y.setCell ⟨w.heap.size, 0, none⟩ (.int .i64 op)).setCell ⟨w.heap.size, 1, none⟩ (.int .i64 d)).setCell ⟨w.heap.size, 2, none⟩ (.int .i64 s')).setCell ⟨w.heap.size, 3, none⟩ (.int .i64 t)).setCell ⟨w.heap.size, 4, none⟩ (.int .i64 u)).setCell ⟨w.heap.size, 5, none⟩ (.int .i64 a)).setCell ⟨w.heap.size, 6, none⟩ (.int .u32 k)).setCell ⟨w.heap.size, 7, none⟩ (.int .i64 pl)) = y2
      have hv2 : put8 y w.heap.size ⟨op, d, s', t, u, a, k, pl⟩ = y2 := hv
      clear hv
      replace m1 := put8_ib (i := ⟨op, d, s', t, u, a, k, pl⟩) m1
      replace bb := put8_below (i := ⟨op, d, s', t, u, a, k, pl⟩) bb (Nat.le_refl _)
      rw [hv2] at m1 bb
      clear hv2 r0 r1 r2 r3 r4 r5 r6 r7 hfR
      obtain ⟨r0, r1, r2, r3, r4, r5, r6, r7⟩ := m1.cells
      simp only at r0 r1 r2 r3 r4 r5 r6 r7
      go_wp2_with fail
      refine (hp.out ⟨op, d, s', t, u, a, k, pl⟩ _).mono ?_
      rintro e y3 ⟨rfl, hby⟩
      replace m1 := m1.below hby
      replace bb := bb.trans (hby.mono bb.size)
      clear hby r0 r1 r2 r3 r4 r5 r6 r7
      obtain ⟨r0, r1, r2, r3, r4, r5, r6, r7⟩ := m1.cells
      have hfR := Bk.free m1
      simp only at r0 r1 r2 r3 r4 r5 r6 r7
      cases hq : placeB ⟨op, d, s', t, u, a, k, pl⟩ with
      | true =>
        go_wp2
        generalize hv : ((((((((y3.setCell ⟨w.heap.size, 0, none⟩ (.int .i64 0)).setCell ⟨w.heap.size, 1, none⟩ (.int .i64 0)).setCell ⟨w.heap.size, 2, none⟩ (.int .i64 0)).setCell ⟨w.heap.size, 3, none⟩ (.int .i64 0)).setCell ⟨w.heap.size, 4, none⟩ (.int .i64 0)).setCell ⟨w.heap.size, 5, none⟩ (.int .i64 0)).setCell ⟨w.heap.size, 6, none⟩ (.int .u32 0)).setCell ⟨w.heap.size, 7, none⟩ (.int .i64 0)) = v9
        have hv2 : put8 y3 w.heap.size ⟨0, 0, 0, 0, 0, 0, 0, 0⟩ = v9 := hv
        clear hv
        have hA := put8_ib (i := ⟨0, 0, 0, 0, 0, 0, 0, 0⟩) m1
        have hC := put8_below (i := ⟨0, 0, 0, 0, 0, 0, 0, 0⟩) bb (Nat.le_refl _)
        rw [hv2] at hA hC
        clear hv2
        obtain ⟨q0, q1, q2, q3, q4, q5, q6, q7⟩ := hA.cells
        simp only at q0 q1 q2 q3 q4 q5 q6 q7
        refine bodyPost_ret (v := .tuple #[.agg #[.int .i64 0, .int .i64 0, .int .i64 0, .int .i64 0, .int .i64 0, .int .i64 0, .int .u32 0, .int .i64 0], .string ⟨#[]⟩, .bool false]) (by simp [results, Tryz.results98, go_sem, q0, q1, q2, q3, q4, q5, q6, q7]) rfl ⟨?_, hC⟩
        rw [HU.out, tailV, if_pos hq]; rfl
      | false =>
        go_wp2
        generalize hv : ((((((((y3.setCell ⟨w.heap.size, 0, none⟩ (.int .i64 op)).setCell ⟨w.heap.size, 1, none⟩ (.int .i64 d)).setCell ⟨w.heap.size, 2, none⟩ (.int .i64 s')).setCell ⟨w.heap.size, 3, none⟩ (.int .i64 t)).setCell ⟨w.heap.size, 4, none⟩ (.int .i64 u)).setCell ⟨w.heap.size, 5, none⟩ (.int .i64 a)).setCell ⟨w.heap.size, 6, none⟩ (.int .u32 k)).setCell ⟨w.heap.size, 7, none⟩ (.int .i64 pl)) = v9
        have hv2 : put8 y3 w.heap.size ⟨op, d, s', t, u, a, k, pl⟩ = v9 := hv
        clear hv
        have hA := put8_ib (i := ⟨op, d, s', t, u, a, k, pl⟩) m1
        have hC := put8_below (i := ⟨op, d, s', t, u, a, k, pl⟩) bb (Nat.le_refl _)
        rw [hv2] at hA hC
        clear hv2
        obtain ⟨q0, q1, q2, q3, q4, q5, q6, q7⟩ := hA.cells
        simp only at q0 q1 q2 q3 q4 q5 q6 q7
        refine bodyPost_ret (v := .tuple #[.agg #[.int .i64 op, .int .i64 d, .int .i64 s', .int .i64 t, .int .i64 u, .int .i64 a, .int .u32 k, .int .i64 pl], .string ⟨#[]⟩, .bool true]) (by simp [results, Tryz.results98, go_sem, q0, q1, q2, q3, q4, q5, q6, q7]) rfl ⟨?_, hC⟩
        rw [HU.out, tailV, if_neg (by rw [hq]; simp)]; rfl)
end Go.Proofs.YthdgehcghklflaaGreatDoor

/- The document's Name, Goes, find. -/
namespace Go.Proofs.YthdgehcghklflaaGreatDoor
open Go.ChangeShapes Go.WideShapes Go.ChangeAt Go.RowKit
set_option linter.unusedVariables false

set_option maxHeartbeats 1000000 in
theorem rGoes (i : Ins) (w : World) :
    Calls Tryz.prog 103 #[iv i] w fun e w' => e = .returned (.bool (goesB i)) ∧ Below w.heap.size w w' := by
  have HX : Hid (goesB i = ((decide (8 ≤ i.op) && decide (i.op ≤ 10)) || (decide (i.op = 21) && decide (0 ≤ i.pl)))) := Lib.hid rfl
  generalize goesB i = r at *
  obtain ⟨op, d, s, t, u, a, k, pl⟩ := i
  unfold iv
  simp only at HX ⊢
  have k1 := Bk.made w 125 #[.int .i64 op, .int .i64 d, .int .i64 s, .int .i64 t, .int .i64 u, .int .i64 a, .int .u32 k, .int .i64 pl]
  have b0 : Below w.heap.size w (w.alloc (.cells #[.int .i64 op, .int .i64 d, .int .i64 s, .int .i64 t, .int .i64 u, .int .i64 a, .int .u32 k, .int .i64 pl] 125)) := (Below.refl _ _).alloc (Nat.le_refl _) _
  go_enter Tryz.func103, Tryz.ntmps103
  go_upto_region 1 with fail
  generalize w.alloc (.cells #[.int .i64 op, .int .i64 d, .int .i64 s, .int .i64 t, .int .i64 u, .int .i64 a, .int .u32 k, .int .i64 pl] 125) = x at *
  obtain ⟨c0, c7⟩ : x.cell? ⟨w.heap.size, 0, none⟩ = some (.int .i64 op) ∧ x.cell? ⟨w.heap.size, 7, none⟩ = some (.int .i64 pl) := ⟨k1.cell 0, k1.cell 7⟩
  by_cases h1 : 8 ≤ op
  · by_cases h2 : op ≤ 10
    · have HQ : Hid (r = true) := Lib.hid (by rw [HX.out]; simp [h1, h2])
      clear HX
      go_wp2
      go_ret
      exact ⟨by rw [HQ.out]; rfl, b0⟩
    · by_cases h3 : op = 21
      · have e3 : (op == 21) = true := by simpa using h3
        by_cases h4 : 0 ≤ pl
        · have HQ : Hid (r = true) := Lib.hid (by rw [HX.out]; simp [h3, h4])
          subst h3
          clear HX
          go_wp2
          go_ret
          exact ⟨by rw [HQ.out]; rfl, b0⟩
        · have HQ : Hid (r = false) := Lib.hid (by rw [HX.out]; simp [h2, h4])
          subst h3
          clear HX
          go_wp2
          go_ret
          exact ⟨by rw [HQ.out]; rfl, b0⟩
      · have e3 : (op == 21) = false := by simpa using h3
        have HQ : Hid (r = false) := Lib.hid (by rw [HX.out]; simp [h2, h3])
        clear HX h3
        go_wp2
        go_ret
        exact ⟨by rw [HQ.out]; rfl, b0⟩
  · have h3 : ¬ op = 21 := by omega
    have e3 : (op == 21) = false := by simpa using h3
    have HQ : Hid (r = false) := Lib.hid (by rw [HX.out]; simp [h1, h3])
    clear HX h3
    go_wp2
    go_ret
    exact ⟨by rw [HQ.out]; rfl, b0⟩

theorem all_drop (s : List UInt8) (f : UInt8 → Bool) (n : Nat) (h : n < s.length) : (s.drop n).all f = (f (s.getD n 0) && (s.drop (n + 1)).all f) := by
  rw [List.drop_eq_getElem_cons h, List.all_cons]
  simp [List.getD_eq_getElem?_getD, h]

set_option maxHeartbeats 1000000 in
theorem rName07 (s : List UInt8) (w : World) :
    Calls Tryz.prog 62 #[bs s] w fun e w' => e = .returned (.bool (nameB s)) ∧ w' = w := by
  have HX : Hid (nameB s = (decide (1 ≤ s.length) && (decide (s.length ≤ 16) && (lowB (s.getD 0 0) && s.all fun c => lowB c || digB c)))) := Lib.hid rfl
  generalize nameB s = r at *
  unfold bs
  by_cases h1 : 1 ≤ s.length
  · have i1 : ¬ (s.length : Int) < 1 := by omega
    by_cases h2 : s.length ≤ 16
    · have i2 : ¬ (16 : Int) < s.length := by omega
      have hix := fun W => run_ltr s 0 (by omega) W
      simp only [Int.natCast_zero] at hix
      have HL : Hid (lowB (s.getD 0 0) = (decide (97 ≤ (s.getD 0 0).toNat) && decide ((s.getD 0 0).toNat ≤ 122))) := Lib.hid rfl
      generalize (s.getD 0 0) = c0 at *
      by_cases h3 : 97 ≤ c0.toNat
      · by_cases h4 : c0.toNat ≤ 122
        · have HR : Hid (r = (s.drop 0).all fun c => lowB c || digB c) := Lib.hid (by rw [HX.out, HL.out]; simp [h1, h2, h3, h4])
          clear HX HL
          generalize c0.toNat = q0 at *
          have z1 : ¬ (q0 : Int) < 97 := by omega
          have z2 : ¬ (122 : Int) < q0 := by omega
          go_enter Tryz.func62, Tryz.ntmps62
          go_wp2
          clear hix z1 z2
          go_loopw [2, 3] (fun v i wr => ∃ n : Nat, v = .bool false ∧ i = .int .i64 n ∧ n ≤ s.length ∧ wr = w ∧ Hid (r = (s.drop n).all fun c => lowB c || digB c)) (fun _ i _ => s.length - (intOf i).toNat)
          case atStart => exact ⟨0, rfl, rfl, by omega, rfl, HR⟩
          case round =>
            obtain ⟨n, rfl, rfl, hn, rfl, HA⟩ := hrel
            by_cases hlt : n < s.length
            · have hii : (n : Int) < s.length := by omega
              have hix := fun W => run_ltr s n hlt W
              have HD := Lib.hid (all_drop s (fun c => lowB c || digB c) n hlt)
              have HL : Hid ((lowB (s.getD n 0) || digB (s.getD n 0)) = ((decide (97 ≤ (s.getD n 0).toNat) && decide ((s.getD n 0).toNat ≤ 122)) || (decide (48 ≤ (s.getD n 0).toNat) && decide ((s.getD n 0).toNat ≤ 57)))) := Lib.hid rfl
              generalize s.getD n 0 = ch at *
              simp only [HL.out] at HD
              clear HL
              generalize ch.toNat = c at *
              by_cases y1 : (97 ≤ c ∧ c ≤ 122) ∨ (48 ≤ c ∧ c ≤ 57)
              · have HB : Hid (r = (s.drop (n + 1)).all fun c => lowB c || digB c) := Lib.hid (by
                  rw [HA.out, HD.out]
                  rcases y1 with ⟨a, b⟩ | ⟨a, b⟩ <;> simp [a, b])
                clear HA HD
                rcases y1 with ⟨a, b⟩ | ⟨a, b⟩
                · have z1 : (97 : Int) ≤ c := by omega
                  have z2 : (c : Int) ≤ 122 := by omega
                  go_wp2
                  all_goals (
                    go_roundw
                    case rel => exact ⟨n + 1, rfl, by go_num, by omega, by trivial, HB⟩
                    case measure =>
                      show s.length - ((n : Int) + 1).toNat < s.length - (n : Int).toNat
                      omega)
                · have z1 : ¬ (97 : Int) ≤ c := by omega
                  have z2 : (48 : Int) ≤ c := by omega
                  have z3 : (c : Int) ≤ 57 := by omega
                  go_wp2
                  all_goals (
                    go_roundw
                    case rel => exact ⟨n + 1, rfl, by go_num, by omega, by trivial, HB⟩
                    case measure =>
                      show s.length - ((n : Int) + 1).toNat < s.length - (n : Int).toNat
                      omega)
              · have HB : Hid (r = false) := Lib.hid (by
                  rw [HA.out, HD.out]
                  have : ((decide (97 ≤ c) && decide (c ≤ 122)) || (decide (48 ≤ c) && decide (c ≤ 57))) = false := by
                    simp only [Bool.or_eq_false_iff, Bool.and_eq_false_iff, decide_eq_false_iff_not]
                    omega
                  rw [this]; rfl)
                clear HA HD
                by_cases z1 : (97 : Int) ≤ c
                · have z2 : ¬ (c : Int) ≤ 122 := by omega
                  have z3 : (48 : Int) ≤ c := by omega
                  have z4 : ¬ (c : Int) ≤ 57 := by omega
                  clear y1
                  go_wp2
                  go_ret
                  exact ⟨by rw [HB.out]; rfl, rfl⟩
                · by_cases z3 : (48 : Int) ≤ c
                  · have z4 : ¬ (c : Int) ≤ 57 := by omega
                    clear y1
                    go_wp2
                    go_ret
                    exact ⟨by rw [HB.out]; rfl, rfl⟩
                  · clear y1
                    go_wp2
                    go_ret
                    exact ⟨by rw [HB.out]; rfl, rfl⟩
            · have hii : ¬ (n : Int) < s.length := by omega
              have HB : Hid (r = true) := Lib.hid (by rw [HA.out, List.drop_eq_nil_of_le (by omega)]; rfl)
              clear HA
              go_wp2
              go_ret
              exact ⟨by rw [HB.out]; rfl, rfl⟩
        · have HR : Hid (r = false) := Lib.hid (by rw [HX.out, HL.out]; simp [h4])
          clear HX HL
          generalize c0.toNat = q0 at *
          have z1 : ¬ (q0 : Int) < 97 := by omega
          have z2 : (122 : Int) < q0 := by omega
          go_enter Tryz.func62, Tryz.ntmps62
          go_wp2
          go_ret
          exact ⟨by rw [HR.out]; rfl, rfl⟩
      · have HR : Hid (r = false) := Lib.hid (by rw [HX.out, HL.out]; simp [h3])
        clear HX HL
        generalize c0.toNat = q0 at *
        have z1 : (q0 : Int) < 97 := by omega
        go_enter Tryz.func62, Tryz.ntmps62
        go_wp2
        go_ret
        exact ⟨by rw [HR.out]; rfl, rfl⟩
    · have i2 : (16 : Int) < s.length := by omega
      have HR : Hid (r = false) := Lib.hid (by rw [HX.out]; simp [h2])
      clear HX
      go_enter Tryz.func62, Tryz.ntmps62
      go_wp2
      go_ret
      exact ⟨by rw [HR.out]; rfl, rfl⟩
  · have i1 : (s.length : Int) < 1 := by omega
    have HR : Hid (r = false) := Lib.hid (by rw [HX.out]; simp [h1])
    clear HX
    go_enter Tryz.func62, Tryz.ntmps62
    go_wp2
    go_ret
    exact ⟨by rw [HR.out]; rfl, rfl⟩
end Go.Proofs.YthdgehcghklflaaGreatDoor
