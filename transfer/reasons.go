package transfer

import "paddock/api"

// first is the first Reason that there is. (All are found ahead of it: none needs that another one is Fine.)
func first(reasons ...api.Reason) api.Reason {
	for _, why := range reasons {
		if why != api.Fine {
			return why
		}
	}
	return api.Fine
}

func unless(so bool, why api.Reason) api.Reason {
	if so {
		return api.Fine
	}
	return why
}

func anInt(r api.RType) api.Reason { return unless(r.Kind == api.AnInt, api.RInt) }

func aCap(r api.RType) api.Reason { return unless(r.Kind == api.ACap, api.RCap) }

// anything has no Reason against it.
func anything(api.RType) api.Reason { return api.Fine }

// unsealed looks at the seal alone.
func unsealed(r api.RType) api.Reason { return unless(r.Seal == 0, api.RSeal) }

// may tells whether a capability surely has a permission.
func may(r api.RType, p api.Perms) api.Reason { return unless(r.Must&p == p, api.RPerm) }

// reaches tells whether so many bytes, from off further on than a capability points, are surely within it.
func reaches(r api.RType, off int, size uint64) api.Reason {
	from, to := bytesOf(r, off, size)
	return unless(!from.below(wholeOf(r.Base.Hi)) && !wholeOf(r.End.Lo).below(to), api.RBounds)
}

// bytesOf is where the bytes that may be meant begin, and where they end.
func bytesOf(r api.RType, off int, size uint64) (whole, whole) {
	return wholeOf(r.Point.Lo).plus(signed(off)), wholeOf(r.Point.Hi).plus(signed(off)).plus(wholeOf(size))
}
