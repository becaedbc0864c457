"""A second reckoning of outs, straight by the words of points 23 to 26."""

from warnloop.errors import NoHand


class Model:
    """The points' words, out by out, with a row of all that was wanted."""

    def __init__(self, outs):
        self.outs = [{"address": address, "delay": delay, "how": "still", "left": 0, "long": False, "off": 0}
                     for address, delay in outs]
        self.wanted = [()]

    def beat(self, wanted):
        new = set(wanted) - set(self.wanted[-1])
        self.wanted.append(wanted)
        ahead = [out["how"] for out in self.outs]
        for out, how in zip(self.outs, ahead):
            if new and how == "silenced":
                out["how"] = "sounding"
        for out, how in zip(self.outs, ahead):
            if how == "still" and out["address"] in wanted:
                out.update(how="waiting" if out["delay"] else "sounding", left=out["delay"], long=False)
        for out, how in zip(self.outs, ahead):
            if how == "waiting" and out["address"] not in wanted:
                out.update(how="still", left=0)
            elif how == "waiting":
                out["left"] -= 1
                if out["left"] == 0:
                    out["how"] = "sounding"
        told = [(out["how"], out["address"]) for out, how in zip(self.outs, ahead) if out["how"] != how]
        for out in self.outs:
            if out["off"]:
                out["off"] -= 1
                if not out["off"]:
                    told.append(("used", out["address"]))
        return told

    def all_by(self, hows, change, fits=lambda out: True):
        hit = [out for out in self.outs if out["how"] in hows and fits(out)]
        for out in hit:
            out.update(change)
        return [out["address"] for out in hit]

    def press(self):
        return self.all_by(["waiting"], {"left": 1})

    def silence(self):
        return self.all_by(["sounding"], {"how": "silenced"})

    def reset(self):
        return self.all_by(["sounding", "silenced"], {"how": "still"},
                           lambda out: out["address"] not in self.wanted[-1])

    def lengthen(self, address):
        out = [out for out in self.outs if out["address"] == address][0]
        if out["how"] != "waiting" or out["long"]:
            return NoHand
        out.update(left=out["left"] + out["delay"], long=True)
        return out["left"]

    def put_out(self, address, beats):
        [out for out in self.outs if out["address"] == address][0]["off"] = beats
