/- Layer 22, the document's tables: they are the program's. -/
import Derived.Test.YtndpidmbfdpiaaaDoorK41
namespace Go.Proofs.YtndpidmbfdpiaaaDoor.Se
open Go Go.RowKit Go.Proofs.YtndpidmbfdpiaaaDoor
set_option linter.unusedVariables false
set_option maxRecDepth 100000

theorem prs_is : prs 310 = [2, 3, 5, 7, 11, 13, 17, 19, 23, 29, 31, 37, 41, 43, 47, 53, 59, 61, 67, 71, 73, 79, 83, 89, 97, 101, 103, 107, 109, 113, 127, 131, 137, 139, 149, 151, 157, 163, 167, 173, 179, 181, 191, 193, 197, 199, 211, 223, 227, 229, 233, 239, 241, 251, 257, 263, 269, 271, 277, 281, 283, 293, 307, 311] := by decide +kernel

theorem cube_2 : cubeN 2 = 1116352408 := by decide +kernel

theorem cube_3 : cubeN 3 = 1899447441 := by decide +kernel

theorem cube_5 : cubeN 5 = 3049323471 := by decide +kernel

theorem cube_7 : cubeN 7 = 3921009573 := by decide +kernel

theorem cube_11 : cubeN 11 = 961987163 := by decide +kernel

theorem cube_13 : cubeN 13 = 1508970993 := by decide +kernel

theorem cube_17 : cubeN 17 = 2453635748 := by decide +kernel

theorem cube_19 : cubeN 19 = 2870763221 := by decide +kernel

theorem cube_23 : cubeN 23 = 3624381080 := by decide +kernel

theorem cube_29 : cubeN 29 = 310598401 := by decide +kernel

theorem cube_31 : cubeN 31 = 607225278 := by decide +kernel

theorem cube_37 : cubeN 37 = 1426881987 := by decide +kernel

theorem cube_41 : cubeN 41 = 1925078388 := by decide +kernel

theorem cube_43 : cubeN 43 = 2162078206 := by decide +kernel

theorem cube_47 : cubeN 47 = 2614888103 := by decide +kernel

theorem cube_53 : cubeN 53 = 3248222580 := by decide +kernel

theorem cube_59 : cubeN 59 = 3835390401 := by decide +kernel

theorem cube_61 : cubeN 61 = 4022224774 := by decide +kernel

theorem cube_67 : cubeN 67 = 264347078 := by decide +kernel

theorem cube_71 : cubeN 71 = 604807628 := by decide +kernel

theorem cube_73 : cubeN 73 = 770255983 := by decide +kernel

theorem cube_79 : cubeN 79 = 1249150122 := by decide +kernel

theorem cube_83 : cubeN 83 = 1555081692 := by decide +kernel

theorem cube_89 : cubeN 89 = 1996064986 := by decide +kernel

theorem cube_97 : cubeN 97 = 2554220882 := by decide +kernel

theorem cube_101 : cubeN 101 = 2821834349 := by decide +kernel

theorem cube_103 : cubeN 103 = 2952996808 := by decide +kernel

theorem cube_107 : cubeN 107 = 3210313671 := by decide +kernel

theorem cube_109 : cubeN 109 = 3336571891 := by decide +kernel

theorem cube_113 : cubeN 113 = 3584528711 := by decide +kernel

theorem cube_127 : cubeN 127 = 113926993 := by decide +kernel

theorem cube_131 : cubeN 131 = 338241895 := by decide +kernel

theorem cube_137 : cubeN 137 = 666307205 := by decide +kernel

theorem cube_139 : cubeN 139 = 773529912 := by decide +kernel

theorem cube_149 : cubeN 149 = 1294757372 := by decide +kernel

theorem cube_151 : cubeN 151 = 1396182291 := by decide +kernel

theorem cube_157 : cubeN 157 = 1695183700 := by decide +kernel

theorem cube_163 : cubeN 163 = 1986661051 := by decide +kernel

theorem cube_167 : cubeN 167 = 2177026350 := by decide +kernel

theorem cube_173 : cubeN 173 = 2456956037 := by decide +kernel

theorem cube_179 : cubeN 179 = 2730485921 := by decide +kernel

theorem cube_181 : cubeN 181 = 2820302411 := by decide +kernel

theorem cube_191 : cubeN 191 = 3259730800 := by decide +kernel

theorem cube_193 : cubeN 193 = 3345764771 := by decide +kernel

theorem cube_197 : cubeN 197 = 3516065817 := by decide +kernel

theorem cube_199 : cubeN 199 = 3600352804 := by decide +kernel

theorem cube_211 : cubeN 211 = 4094571909 := by decide +kernel

theorem cube_223 : cubeN 223 = 275423344 := by decide +kernel

theorem cube_227 : cubeN 227 = 430227734 := by decide +kernel

theorem cube_229 : cubeN 229 = 506948616 := by decide +kernel

theorem cube_233 : cubeN 233 = 659060556 := by decide +kernel

theorem cube_239 : cubeN 239 = 883997877 := by decide +kernel

theorem cube_241 : cubeN 241 = 958139571 := by decide +kernel

theorem cube_251 : cubeN 251 = 1322822218 := by decide +kernel

theorem cube_257 : cubeN 257 = 1537002063 := by decide +kernel

theorem cube_263 : cubeN 263 = 1747873779 := by decide +kernel

theorem cube_269 : cubeN 269 = 1955562222 := by decide +kernel

theorem cube_271 : cubeN 271 = 2024104815 := by decide +kernel

theorem cube_277 : cubeN 277 = 2227730452 := by decide +kernel

theorem cube_281 : cubeN 281 = 2361852424 := by decide +kernel

theorem cube_283 : cubeN 283 = 2428436474 := by decide +kernel

theorem cube_293 : cubeN 293 = 2756734187 := by decide +kernel

theorem cube_307 : cubeN 307 = 3204031479 := by decide +kernel

theorem cube_311 : cubeN 311 = 3329325298 := by decide +kernel

theorem root_2 : rootN 2 = 1779033703 := by decide +kernel

theorem root_3 : rootN 3 = 3144134277 := by decide +kernel

theorem root_5 : rootN 5 = 1013904242 := by decide +kernel

theorem root_7 : rootN 7 = 2773480762 := by decide +kernel

theorem root_11 : rootN 11 = 1359893119 := by decide +kernel

theorem root_13 : rootN 13 = 2600822924 := by decide +kernel

theorem root_17 : rootN 17 = 528734635 := by decide +kernel

theorem root_19 : rootN 19 = 1541459225 := by decide +kernel

theorem cubes_is : (prs 310).map (fun p => (cubeN p : Int)) = kt := by
  rw [prs_is]
  simp only [List.map_cons, List.map_nil, cube_2, cube_3, cube_5, cube_7, cube_11, cube_13, cube_17, cube_19, cube_23, cube_29, cube_31, cube_37, cube_41, cube_43, cube_47, cube_53, cube_59, cube_61, cube_67, cube_71, cube_73, cube_79, cube_83, cube_89, cube_97, cube_101, cube_103, cube_107, cube_109, cube_113, cube_127, cube_131, cube_137, cube_139, cube_149, cube_151, cube_157, cube_163, cube_167, cube_173, cube_179, cube_181, cube_191, cube_193, cube_197, cube_199, cube_211, cube_223, cube_227, cube_229, cube_233, cube_239, cube_241, cube_251, cube_257, cube_263, cube_269, cube_271, cube_277, cube_281, cube_283, cube_293, cube_307, cube_311]
  rfl

theorem roots_is : ((prs 310).take 8).map (fun p => (rootN p : Int)) = start.l := by
  rw [prs_is]
  simp only [List.take_succ_cons, List.take_zero, List.map_cons, List.map_nil, root_2, root_3, root_5, root_7, root_11, root_13, root_17, root_19]
  rfl

end Go.Proofs.YtndpidmbfdpiaaaDoor.Se
