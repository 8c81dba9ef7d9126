package hart

import "marionette/api"

// isBranch: does op go on elsewhere if two registers are so?
func isBranch(op int) bool { return op >= api.OpBeq && op <= api.OpBgeu }

// isLoad: does op load, and no more?
func isLoad(op int) bool { return op >= api.OpLb && op <= api.OpLwu }

// isStore: does op store, and no more?
func isStore(op int) bool { return op >= api.OpSb && op <= api.OpSd }

// takesImm: does op reckon with the immediate rather than with a second register?
func takesImm(op int) bool {
	return op == api.OpLui || op >= api.OpAddi && op <= api.OpSrai || op >= api.OpAddiw && op <= api.OpSraiw
}

// loadBytes answers how many bytes a load loads.
func loadBytes(op int) int {
	switch op {
	case api.OpLb, api.OpLbu:
		return 1
	case api.OpLh, api.OpLhu:
		return 2
	case api.OpLw, api.OpLwu:
		return 4
	}
	return 8
}

// storeBytes answers how many bytes a store stores.
func storeBytes(op int) int {
	switch op {
	case api.OpSb:
		return 1
	case api.OpSh:
		return 2
	case api.OpSw:
		return 4
	}
	return 8
}
