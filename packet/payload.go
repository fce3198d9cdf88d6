package packet

import (
	"bytes"
	"slices"

	"culvert/api"
	"culvert/prefix"
)

// PutPayload is a payload's bytes.
func PutPayload(p api.Payload) ([]byte, api.Errno) {
	if !prefix.ValidAddr(p.Src) || !prefix.ValidAddr(p.Dst) || p.Src.Family != p.Dst.Family {
		return nil, api.ErrPacketForm
	}
	family := []byte{byte(p.Src.Family)}
	src, dst := prefix.PutAddr(p.Src), prefix.PutAddr(p.Dst)
	if len(family)+len(src)+len(dst)+len(p.Body) > api.MTU {
		return nil, api.ErrPacketForm
	}
	return slices.Concat(family, src, dst, p.Body), api.OK
}

// GetPayload reads a payload.
func GetPayload(b []byte) (api.Payload, api.Errno) {
	if len(b) == 0 || len(b) > api.MTU {
		return api.Payload{}, api.ErrPacketForm
	}
	family, rest := cut(b, 1)
	size := addrSize(family[0])
	if size == 0 || len(rest) < 2*size {
		return api.Payload{}, api.ErrPacketForm
	}
	src, rest := cut(rest, size)
	dst, body := cut(rest, size)
	return api.Payload{
		Src:  readAddr(family[0], src),
		Dst:  readAddr(family[0], dst),
		Body: bytes.Clone(body),
	}, api.OK
}

// addrSize tells how many bytes an address of a family has; none, if there is no such family.
func addrSize(family byte) int {
	switch family {
	case 4:
		return 4
	case 6:
		return 16
	}
	return 0
}

// readAddr reads an address as the prefix all of whose bits count, so that only package prefix knows what its bytes mean.
func readAddr(family byte, b []byte) api.Addr {
	whole := slices.Concat([]byte{family, byte(8 * len(b))}, b)
	p, _, _ := prefix.Get(whole)
	return p.Addr
}
