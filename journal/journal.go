// Package journal: how batches are written down, one behind the other, so that a text of them may be cut off anywhere.
package journal

import "strata/api"

// A record is the length of its body (2 bytes), the sum of its body (4 bytes), and the body: the ops.
// An op is a byte for the key's length and whether it deletes; the value's length, if it does not; the key; the value.
const (
	lengthSize = 2
	headSize   = lengthSize + 4
	deletes    = 0x80
	minBody    = 2
	maxBody    = api.MaxBatch * (2 + api.MaxKey + api.MaxValue)
)

// Encode tells the record of a batch.
func Encode(ops []api.Op) string {
	var body []byte
	for _, op := range ops {
		body = appendOp(body, op)
	}
	record := make([]byte, 0, headSize+len(body))
	record = append(record, byte(len(body)>>8), byte(len(body)))
	n := sum(string(body))
	record = append(record, byte(n>>24), byte(n>>16), byte(n>>8), byte(n))
	return string(append(record, body...))
}

func appendOp(body []byte, op api.Op) []byte {
	if op.Delete {
		body = append(body, byte(len(op.Key))|deletes)
		return append(body, op.Key...)
	}
	body = append(body, byte(len(op.Key)), byte(len(op.Value)))
	body = append(body, op.Key...)
	return append(body, op.Value...)
}

// Decode reads the record with which a text begins: its batch (of pieces of the text), and how many bytes it has.
// A size of 0 says that the text ends within the record; ErrBroken, that no batch was ever written so.
func Decode(text string) (ops []api.Op, size int, e api.Errno) {
	if len(text) < lengthSize {
		return nil, 0, api.OK
	}
	length := int(text[0])<<8 | int(text[1])
	if length < minBody || length > maxBody {
		return nil, 0, api.ErrBroken
	}
	size = headSize + length
	if len(text) < size {
		return nil, 0, api.OK
	}
	body := text[headSize:size]
	ops = decodeOps(body)
	if ops == nil || sum(body) != storedSum(text[lengthSize:headSize]) {
		return nil, 0, api.ErrBroken
	}
	return ops, size, api.OK
}

func storedSum(text string) uint32 {
	return uint32(text[0])<<24 | uint32(text[1])<<16 | uint32(text[2])<<8 | uint32(text[3])
}

// decodeOps is nil, if a body is no batch's.
func decodeOps(body string) []api.Op {
	var ops []api.Op
	for body != "" {
		op, size := decodeOp(body)
		if size == 0 || len(ops) == api.MaxBatch {
			return nil
		}
		ops = append(ops, op)
		body = body[size:]
	}
	return ops
}

// decodeOp reads the op with which a body begins, and how many bytes it has: 0, if it begins with none.
func decodeOp(body string) (api.Op, int) {
	key := int(body[0] &^ deletes)
	op := api.Op{Delete: body[0]&deletes != 0}
	head, value := 1, 0
	if !op.Delete {
		if len(body) < 2 {
			return api.Op{}, 0
		}
		head, value = 2, int(body[1])
	}
	size := head + key + value
	if key < 1 || key > api.MaxKey || value > api.MaxValue || len(body) < size {
		return api.Op{}, 0
	}
	op.Key, op.Value = body[head:head+key], body[head+key:size]
	return op, size
}

// sum tells apart the texts that a store wrote and those that were changed behind its back (FNV-1a).
func sum(text string) uint32 {
	n := uint32(2166136261)
	for i := range len(text) {
		n = (n ^ uint32(text[i])) * 16777619
	}
	return n
}
