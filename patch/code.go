package patch

import (
	"mailbag/api"
	"mailbag/octet"
	"mailbag/val"
)

// Encode lays operations.
func Encode(ops []Op) (string, api.Errno) {
	if e := check(ops); e != api.OK {
		return "", e
	}
	b := octet.Num(nil, len(ops))
	for _, o := range ops {
		s, e := o.Val.Encode()
		if e != api.OK {
			return "", api.ErrArg
		}
		b = octet.Num(b, int(o.Kind))
		b = octet.Num(b, len(o.Path))
		for _, name := range o.Path {
			b = octet.Text(b, name)
		}
		b = octet.Text(b, s)
	}
	return string(b), api.OK
}

// Decode reads operations.
func Decode(r *octet.Reader) ([]Op, api.Errno) {
	var ops []Op
	for range r.Num(MaxOps) {
		o, e := read(r)
		if e != api.OK {
			return nil, e
		}
		ops = append(ops, o)
	}
	return ops, r.Err()
}

// read reads an operation.
func read(r *octet.Reader) (Op, api.Errno) {
	o := Op{Kind: Kind(r.Num(int(Add)))}
	for range r.Num(MaxPath) {
		o.Path = append(o.Path, r.Text(api.MaxVal))
	}
	v, e := val.Decode(r.Text(api.MaxVal)) // behind an error of r: of no bytes, which are no value's
	o.Val = v
	if e != api.OK || !o.Right() {
		return Op{}, api.ErrForm
	}
	return o, api.OK
}
