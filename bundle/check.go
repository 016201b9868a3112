package bundle

import "bundle/api"

func isConfig(c api.Config) bool {
	if c.Kind != api.List && c.Kind != api.Tree {
		return false
	}
	if !isWithin(c.Threads, 1, api.MaxThreads) || !isWithin(c.Nodes, 0, api.MaxNodes) {
		return false
	}
	return isWithin(c.Entries, 1, api.MaxEntries) && isWithin(c.Limit, 0, api.MaxLimit)
}

// checkOp looks at no field that the kind of the operation does not have: it may hold anything.
func checkOp(op api.Op) api.Errno {
	switch op.Kind {
	case api.Insert, api.Remove, api.Lookup:
		if !isKey(op.Key) {
			return api.ErrOp
		}
		return api.OK
	case api.Scan:
		if !areSpans(op.Spans) {
			return api.ErrSpan
		}
		return api.OK
	}
	return api.ErrOp
}

func areSpans(spans []api.Span) bool {
	if !isWithin(len(spans), 1, api.MaxSpans) {
		return false
	}
	for i := range spans {
		if !isKey(spans[i].Lo) || !isKey(spans[i].Hi) || spans[i].Lo > spans[i].Hi {
			return false
		}
	}
	return true
}

func isKey(key int) bool {
	return isWithin(key, 0, api.MaxKey)
}

func isWithin(number, least, greatest int) bool {
	return least <= number && number <= greatest
}
