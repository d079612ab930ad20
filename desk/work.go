package desk

import (
	"tabula/api"
	"tabula/recalc"
	"tabula/store"
	"tabula/wrong"
)

// check tells what is wrong with asking a desk for what only one that is started has.
func (d *Desk) check() error {
	if d == nil {
		return wrong.Of(api.ErrNil)
	}
	if !d.isStarted() {
		return wrong.Of(api.ErrDesk)
	}
	return nil
}

// open opens what the disk has, and shows it.
func (d *Desk) open() error {
	s, errno := store.Open(d.disk)
	if errno != api.OK {
		return wrong.Of(errno)
	}
	d.history, d.engine = newHistory(s), recalc.New()
	return d.show()
}

// show shows the workbook, as it is now, if there is one.
func (d *Desk) show() error {
	if !d.isStarted() {
		return nil
	}
	b, err := d.shown()
	if err != nil {
		return err
	}
	_, errno := d.engine.Show(b, d.now)
	return wrong.Of(errno)
}

// turn takes back, or makes again.
func (d *Desk) turn(e api.Entry) api.Errno {
	if err := d.check(); err != nil {
		return wrong.Number(err)
	}
	l, err := d.behind(e)
	if err != nil {
		return wrong.Number(err)
	}
	return d.put(l, e)
}

// put puts an entry into the store, and shows what comes of the log that there is then.
func (d *Desk) put(l []api.Entry, e api.Entry) api.Errno {
	if err := d.store.Put(e); err != api.OK {
		return err
	}
	d.become(l)
	return wrong.Number(d.show())
}

// teller is what tells what is shown.
func (d *Desk) teller() (func(at api.At) (api.Val, api.Errno), error) {
	if err := d.check(); err != nil {
		return nil, err
	}
	return d.engine.Value, nil
}
