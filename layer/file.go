package layer

import (
	"strata/api"
	"strata/coding"
)

// Encode tells the text of a layer. The numbers of the batches are not in it: no snapshot outlives the store that has them.
func Encode(entries []Entry) string {
	var body []byte
	for _, entry := range entries {
		body = coding.AppendOp(body, entry.Op)
	}
	return coding.Seal(body)
}

// Size tells how many bytes the text of a layer has.
func Size(entries []Entry) int {
	size := coding.SealSize
	for _, entry := range entries {
		size += coding.OpSize(entry.Op)
	}
	return size
}

// Decode reads the text of a layer that has entries, each of which (of pieces of the text) is older than all batches to come; ErrBroken, if it is none.
func Decode(text string) ([]Entry, api.Errno) {
	body, whole := coding.Unseal(text)
	if !whole || body == "" {
		return nil, api.ErrBroken
	}
	var entries []Entry
	last := ""
	for body != "" {
		op, size := coding.TakeOp(body)
		if size == 0 || op.Key < last {
			return nil, api.ErrBroken
		}
		entries = append(entries, Entry{Op: op})
		last, body = op.Key, body[size:]
	}
	return entries, api.OK
}
