package txn

import "horologe/api"

// first tells the error of the first element that has one.
func first[T any](list []T, check func(T) api.Errno) api.Errno {
	for _, e := range list {
		if err := check(e); err != api.OK {
			return err
		}
	}
	return api.OK
}

// isKey tells whether a text may be a key.
func isKey(text string) bool { return len(text) > 0 && len(text) <= api.MaxKey }

func checkIf(c api.If) api.Errno {
	switch {
	case !isKey(c.Key):
		return api.ErrArg
	case c.Target < api.TVersion || c.Target > api.TValue || c.Sign < api.SEqual || c.Sign > api.SGreater:
		return api.ErrKind
	}
	return api.OK
}

// checkOp tells the error of an operation. A put must be what the others must be, and more.
func checkOp(op api.Op) api.Errno {
	switch op.Kind {
	case api.OPut:
		if op.End != "" || op.Lease < 0 {
			return api.ErrArg
		}
		fallthrough
	case api.ODelete, api.ORange:
		if !isKey(op.Key) || op.End != "" && op.End <= op.Key {
			return api.ErrArg
		}
	default:
		return api.ErrKind
	}
	if op.Kind == api.OPut && len(op.Value) > api.MaxValue {
		return api.ErrLong
	}
	return api.OK
}

// checkBranch looks for a put whose key another operation changes too: one revision changes a key once.
func checkBranch(ops []api.Op) api.Errno {
	for i, put := range ops {
		if put.Kind != api.OPut {
			continue
		}
		for j, op := range ops {
			if i != j && changes(op, put.Key) {
				return api.ErrTwice
			}
		}
	}
	return api.OK
}

// changes tells whether an operation is to put or to delete a key.
func changes(op api.Op, key string) bool {
	switch {
	case op.Kind == api.ORange:
		return false
	case op.End == "":
		return op.Key == key
	}
	return op.Key <= key && key < op.End
}
