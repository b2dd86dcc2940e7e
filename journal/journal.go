// Package journal: how batches are written down, one behind the other, so that a text of them may be cut off anywhere.
package journal

import (
	"strata/api"
	"strata/coding"
)

// A record is the length of its body (2 bytes), and the body, sealed: the ops.
const (
	lengthSize = 2
	headSize   = lengthSize + coding.SealSize
	minBody    = coding.MinOp
	maxBody    = api.MaxBatch * coding.MaxOp
)

// Encode tells the record of a batch.
func Encode(ops []api.Op) string {
	var body []byte
	for _, op := range ops {
		body = coding.AppendOp(body, op)
	}
	return string([]byte{byte(len(body) >> 8), byte(len(body))}) + coding.Seal(body)
}

// Decode reads the record with which a text begins: its batch (of pieces of the text), and how many bytes it has.
// A size of 0 says that the text ends within the record; ErrBroken, that no batch was ever written so.
func Decode(text string) (ops []api.Op, size int, e api.Errno) {
	if len(text) < lengthSize {
		return nil, 0, api.OK
	}
	length := int(text[0])<<8 | int(text[1])
	if length < minBody || length > maxBody {
		return nil, 0, api.ErrBroken
	}
	size = headSize + length
	if len(text) < size {
		return nil, 0, api.OK
	}
	body, whole := coding.Unseal(text[lengthSize:size])
	ops = decodeOps(body)
	if ops == nil || !whole {
		return nil, 0, api.ErrBroken
	}
	return ops, size, api.OK
}

// decodeOps is nil, if a body is no batch's.
func decodeOps(body string) []api.Op {
	var ops []api.Op
	for body != "" {
		op, size := coding.TakeOp(body)
		if size == 0 || len(ops) == api.MaxBatch {
			return nil
		}
		ops = append(ops, op)
		body = body[size:]
	}
	return ops
}
